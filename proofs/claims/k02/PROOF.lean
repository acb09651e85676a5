import PyProof.Rows.All
import Wide.All
import OpenK.AllK
import Wide.FinOn
import HandS.ForMost
import HandS.ForExc
import HandS.Wide
import HandS.Flow
import HandS.IsInst
import HandS.Comp
import HandS.Walk
import HandS.More
import KE.KExcSuper
import HandS.ExcSuper
import HandS.ExcInit
import PyProof.ReprHeads
import PyProof.ReprHeadsTuple
import PyProof.ReprHeadsEmpty
import PyProof.StrLawsRepr
import HandS.Star
import HandS.Iter
import KE.GoesEnum
import KE.KItemsList
import HandS.DictComp
import OpenK.KMeth
import HandS.Dict
import HandS.NoneIn
import HandS.TryMany
import KE.KExcIs
import HandS.Codes
import HandS.OwnIter
import HandS.IterVal
import PyProof.ReprRoads
import PyProof.ReprLen
import PySem.Challenge.RW_fallsunder_k02_stocks_judged
set_option Elab.async false
set_option linter.all false
set_option maxRecDepth 100000
set_option maxHeartbeats 16000000
/-! k06, part a: the law's bag of numbers. -/
namespace K02
open PySem L2
def top (i : Nat) : Stmt := PySem.Challenge.pw_fallsunder_k02_stocks_judged.main.body.getD i (.Pass ⟨0, 0, 0, 0⟩)
abbrev sBag : Stmt := top 26
abbrev sPick : Stmt := top 27
abbrev sChoice : Stmt := top 28
abbrev sOneIn : Stmt := top 29
/-! ### the bag's dict -/
def bagK (l : Addr) (a r m c : Int) : List (Key × V) := [(Sum.inr "cells", .ref l), (Sum.inr "at", .int a), (Sum.inr "rest", .int r), (Sum.inr "mixed", .int m), (Sum.inr "count", .int c)]
section
variable (l : Addr) (a r m c x : Int)
theorem bag_cells : valV (bagK l a r m c) (Sum.inr "cells") = some (.ref l) := by rfl
theorem bag_at : valV (bagK l a r m c) (Sum.inr "at") = some (.int a) := by rfl
theorem bag_rest : valV (bagK l a r m c) (Sum.inr "rest") = some (.int r) := by rfl
theorem bag_mixed : valV (bagK l a r m c) (Sum.inr "mixed") = some (.int m) := by rfl
theorem bag_count : valV (bagK l a r m c) (Sum.inr "count") = some (.int c) := by rfl
theorem put_at : putK (bagK l a r m c) (Sum.inr "at") (.int x) = bagK l x r m c := by rfl
theorem put_rest : putK (bagK l a r m c) (Sum.inr "rest") (.int x) = bagK l a x m c := by rfl
theorem put_mixed : putK (bagK l a r m c) (Sum.inr "mixed") (.int x) = bagK l a r x c := by rfl
theorem put_count : putK (bagK l a r m c) (Sum.inr "count") (.int x) = bagK l a r m x := by rfl
end
/-- a bag stands at b -/
def BagL (H : Hp) (b l : Addr) : Prop := ∃ (ns : List Int) (a : Nat) (r m c : Int), H b = some (.dK (bagK l (a : Int) r m c)) ∧ H l = some (.lst (ns.map V.int)) ∧ ns.length ≤ 63
/-- what was tracked, but the bag, is as it was -/
def But (b : Addr) (H H' : Hp) : Prop := ∀ c o, H c = some o → c ≠ b → H' c = some o
theorem But.refl (b : Addr) (H : Hp) : But b H H := fun _ _ h _ => h
theorem But.trans {b : Addr} {H H1 H2 : Hp} (x : But b H H1) (y : But b H1 H2) : But b H H2 := fun c o h n => y c o (x c o h n) n
theorem But.of {b : Addr} {H H' : Hp} (x : Same H H') : But b H H' := fun c o h _ => x c o h
theorem BagL.same {H H' : Hp} {b l : Addr} (x : BagL H b l) (s : Same H H') : BagL H' b l := by
  obtain ⟨ns, a, r, m, c, h1, h2, h3⟩ := x
  exact ⟨ns, a, r, m, c, s _ _ h1, s _ _ h2, h3⟩
theorem bag_small (l : Addr) (a r m c : Int) : (bagK l a r m c).length < sizeLine := small1000 (Nat.le_of_ble_eq_true rfl)
section
variable {H : Hp} {b l : Addr} {a r m c : Int}
theorem dg_cells (h : H b = some (.dK (bagK l a r m c))) : DGet H b (.str "cells") (some (.ref l)) := DGet.k (k := Sum.inr "cells") h
theorem dg_at (h : H b = some (.dK (bagK l a r m c))) : DGet H b (.str "at") (some (.int a)) := DGet.k (k := Sum.inr "at") h
theorem dg_rest (h : H b = some (.dK (bagK l a r m c))) : DGet H b (.str "rest") (some (.int r)) := DGet.k (k := Sum.inr "rest") h
theorem dg_mixed (h : H b = some (.dK (bagK l a r m c))) : DGet H b (.str "mixed") (some (.int m)) := DGet.k (k := Sum.inr "mixed") h
theorem dg_count (h : H b = some (.dK (bagK l a r m c))) : DGet H b (.str "count") (some (.int c)) := DGet.k (k := Sum.inr "count") h
theorem dp_at (x : Int) (h : H b = some (.dK (bagK l a r m c))) : DPut H b (.str "at") (.int x) (upd H b (.dK (bagK l x r m c))) := DPut.k (k := Sum.inr "at") h (bag_small _ _ _ _ _)
theorem dp_rest (x : Int) (h : H b = some (.dK (bagK l a r m c))) : DPut H b (.str "rest") (.int x) (upd H b (.dK (bagK l a x m c))) := DPut.k (k := Sum.inr "rest") h (bag_small _ _ _ _ _)
theorem dp_mixed (x : Int) (h : H b = some (.dK (bagK l a r m c))) : DPut H b (.str "mixed") (.int x) (upd H b (.dK (bagK l a r x c))) := DPut.k (k := Sum.inr "mixed") h (bag_small _ _ _ _ _)
theorem dp_count (x : Int) (h : H b = some (.dK (bagK l a r m c))) : DPut H b (.str "count") (.int x) (upd H b (.dK (bagK l a r m x))) := DPut.k (k := Sum.inr "count") h (bag_small _ _ _ _ _)
end
/-- _law_pick(bag, many): any number from 0 to below many; a bag again -/
def spPick : Sp := fun vs H Q _ => ∃ (b l : Addr) (many : Int), vs = [.ref b, .int many] ∧ 0 < many ∧ many < 1073741824 ∧ BagL H b l ∧
  ∀ (r : Int) (H' : Hp), 0 ≤ r → r < many → BagL H' b l → But b H H' → (∀ c, c ≠ b → H' c = H c) → Q (.int r) H'
section
variable {P : Program} {w : World} {K : PySem.W.Frag} {mg : Str → Option Value} {base : Heap}
theorem scPick : FnScope ["_law_bag_here", "_law_many", "_law_number", "_law_cell"] ["_law_bag_here", "_law_many"] (defScope sPick) := ⟨rfl, rfl, rfl, by decide +kernel, rfl, by decide +kernel, by decide +kernel⟩
theorem ok_pick {f : Addr} {fd : FuncData} (F : Fun K "_law_pick" "_law_pick" sPick f fd) (mInt : mg "int" = none) (mLen : mg "len" = none) : FnOk P w K mg base CX0 1 f fd ["_law_bag_here", "_law_many"] spPick := by
  refine F.ok scPick (fun vs H Q E h => ?_) (fun cdv A outer s H vs Q E hr h => ?_)
  · obtain ⟨b, l, many, rfl, _⟩ := h
    rfl
  · obtain ⟨b, l, many, rfl, hm, hm2, ⟨ns, a, r, m, c, hb, hl, hn⟩, k⟩ := h
    have hu := hu_of hr
    refine ⟨_, pss_cons (ps_dput hu (pv 0) pe_str (pe_op op_add (pe_dget hu (pv 0) pe_str (fun _ _ => rfl)) pe_int) rfl)
      (pss_cons (ps_if (pt_cmpR op_gt (pe_dget hu (pv 0) pe_str (fun _ _ => rfl)) pe_int (nomark _))
        (pss_cons (ps_set (i := 2) scPick.nd rfl (Or.inl rfl) (pe_dget hu (pv 0) pe_str (fun _ _ => rfl)))
        (pss_cons (ps_dput hu (pv 0) pe_str (pe_op op_fdivN (pv 2) (pv 1)) rfl)
        (pss_one (ps_ret (pe_op op_mod (pe_callTy call_int1 (by rfl) mInt (by decide +kernel) (pa_cons (pv 2) pa_nil)) (pv 1)))))) pss_nil)
      (pss_cons (ps_set (i := 3) scPick.nd rfl (Or.inl rfl) pe_int)
      (pss_cons (ps_if (pt_cmpR op_lt (pe_dget hu (pv 0) pe_str (fun _ _ => rfl)) (pe_callB call_len_seq (by rfl) mLen PySem.boot_len (pa_cons (pe_dget hu (pv 0) pe_str (fun _ _ => rfl)) pa_nil)) (nomark _))
        (pss_cons (ps_set (i := 3) scPick.nd rfl (Or.inl rfl) (pe_ix ix_list (pe_dget hu (pv 0) pe_str (fun _ _ => rfl)) (pe_dget hu (pv 0) pe_str (fun _ _ => rfl)) (fun _ _ => rfl)))
        (pss_cons (ps_dput hu (pv 0) pe_str (pe_op op_add (pe_dget hu (pv 0) pe_str (fun _ _ => rfl)) pe_int) rfl)
        (pss_one (ps_if (pt_cmpR op_ge (pv 3) (pe_op op_pow pe_int pe_int) (nomark _))
          (pss_cons (ps_dput hu (pv 0) pe_str (pe_op op_fdivN (pv 3) (pv 1)) rfl)
          (pss_one (ps_ret (pe_op op_mod (pe_callTy call_int1 (by rfl) mInt (by decide +kernel) (pa_cons (pv 3) pa_nil)) (pv 1))))) pss_nil)))) pss_nil)
      (pss_cons (ps_set (i := 2) scPick.nd rfl (Or.inl rfl) (pe_op op_mod (pe_callTy call_int1 (by rfl) mInt (by decide +kernel) (pa_cons (pe_op op_add (pe_op op_add (pe_op op_mul (pv 3) pe_int) (pe_op op_mul (pe_dget hu (pv 0) pe_str (fun _ _ => rfl)) pe_int)) (pe_op op_mul (pe_dget hu (pv 0) pe_str (fun _ _ => rfl)) pe_int)) pa_nil)) pe_int))
      (pss_cons (ps_set (i := 2) scPick.nd rfl (Or.inl rfl) (pe_op op_mod (pe_callTy call_int1 (by rfl) mInt (by decide +kernel) (pa_cons (pe_op op_add (pe_op op_mul (pv 2) pe_int) pe_int) pa_nil)) pe_int))
      (pss_cons (ps_dput hu (pv 0) pe_str (pe_op op_mod (pe_callTy call_int1 (by rfl) mInt (by decide +kernel) (pa_cons (pv 2) pa_nil)) pe_int) rfl)
      (pss_one (ps_ret (pe_op op_mod (pe_callTy call_int1 (by rfl) mInt (by decide +kernel) (pa_cons (pe_op op_fdiv (pv 2) pe_int) pa_nil)) (pv 1)))))))))), ?_⟩
    -- bag['count'] = bag['count'] + 1
    refine ⟨_, rfl, b, _, rfl, dg_count hb, _, _, rfl, rfl, _, rfl, b, _, rfl, dp_count _ hb, ?_⟩
    have nl : l ≠ b := ne_of hl hb (by intro z; cases z)
    have cm : ∀ i j : Int, -(2 ^ 64) < j → j < 2 ^ 64 → CMul i j := fun i j x y => .inr ⟨x, y⟩
    -- if bag['rest'] > 0
    refine ⟨_, rfl, b, _, rfl, dg_rest upd_same, _, _, rfl, rfl, _, rfl, ?_⟩
    refine ite2 (fun hc => ?_) (fun hc => ?_)
    · have hr0 : 0 < r := of_decide_eq_true hc
      -- number = bag['rest']; bag['rest'] = number // many; return int(number) % many
      refine ⟨_, rfl, b, _, rfl, dg_rest upd_same, ?_⟩
      refine ⟨_, rfl, _, rfl, _, _, rfl, rfl, ⟨by omega, by omega⟩, _, rfl, b, _, rfl, dp_rest _ upd_same, ?_⟩
      refine ⟨_, rfl, .inl ⟨_, rfl, _, rfl, _, _, rfl, rfl, hm, ?_⟩⟩
      rw [upd_upd]
      exact k _ _ (Int.emod_nonneg _ (by omega)) (Int.emod_lt_of_pos _ hm) ⟨ns, a, _, m, _, upd_same, by rw [upd_ne nl]; exact hl, hn⟩ (fun c o h n => by rw [upd_ne n]; exact h) fun c n => upd_ne n
    · refine ⟨_, rfl, b, _, rfl, dg_at upd_same, _, rfl, b, _, rfl, dg_cells upd_same, l, _, rfl, .inl (SqL.of (by rw [upd_ne nl]; exact hl)), _, _, rfl, rfl, _, rfl, ?_⟩
      refine ite2 (fun hc => ?_) (fun hc => ?_)
      · have hlt : (a : Int) < ((ns.map V.int).length : Int) := of_decide_eq_true hc
        have hlt' : a < ns.length := by rw [List.length_map] at hlt; omega
        have hat : (ns.map V.int)[a]? = some (V.int ns[a]) := by rw [List.getElem?_map, List.getElem?_eq_getElem hlt']; rfl
        -- cell = bag['cells'][bag['at']]; bag['at'] = bag['at'] + 1
        refine ⟨_, rfl, b, _, rfl, dg_cells upd_same, _, rfl, b, _, rfl, dg_at upd_same, l, _, _, _, rfl, rfl, SqL.of (by rw [upd_ne nl]; exact hl), atI_nat hat, ?_⟩
        refine ⟨_, rfl, b, _, rfl, dg_at upd_same, _, _, rfl, rfl, _, rfl, b, _, rfl, dp_at _ upd_same, ?_⟩
        rw [upd_upd]
        -- if cell >= 10 ** 18
        refine ⟨_, rfl, _, _, rfl, rfl, ⟨by decide, by decide, by decide⟩, _, _, rfl, rfl, _, rfl, ?_⟩
        refine ite2 (fun hc2 => ?_) (fun hc2 => ?_)
        · refine ⟨_, rfl, _, rfl, _, _, rfl, rfl, ⟨by omega, by omega⟩, _, rfl, b, _, rfl, dp_rest _ upd_same, ?_⟩
          refine ⟨_, rfl, .inl ⟨_, rfl, _, rfl, _, _, rfl, rfl, hm, ?_⟩⟩
          rw [upd_upd]
          exact k _ _ (Int.emod_nonneg _ (by omega)) (Int.emod_lt_of_pos _ hm) ⟨ns, a + 1, _, m, _, upd_same, by rw [upd_ne nl]; exact hl, hn⟩ (fun c o h n => by rw [upd_ne n]; exact h) fun c n => upd_ne n
        · refine ⟨_, rfl, _, _, rfl, rfl, cm _ _ (by decide) (by decide), _, rfl, b, _, rfl, dg_mixed upd_same, _, _, rfl, rfl, cm _ _ (by decide) (by decide), _, _, rfl, rfl, ?_⟩
          refine ⟨_, rfl, b, _, rfl, dg_count upd_same, _, _, rfl, rfl, cm _ _ (by decide) (by decide), _, _, rfl, rfl, .inl ⟨_, rfl, _, _, rfl, rfl, (by show (0 : Int) < 2147483647; decide), ?_⟩⟩
          refine ⟨_, rfl, _, _, rfl, rfl, cm _ _ (by decide) (by decide), _, _, rfl, rfl, .inl ⟨_, rfl, _, _, rfl, rfl, (by show (0 : Int) < 2147483647; decide), ?_⟩⟩
          refine ⟨_, rfl, .inl ⟨_, rfl, _, _, rfl, rfl, (by show (0 : Int) < 1000003; decide), _, rfl, b, _, rfl, dp_mixed _ upd_same, ?_⟩⟩
          refine ⟨_, rfl, _, _, rfl, rfl, ⟨by decide, by decide⟩, .inl ⟨_, rfl, _, rfl, _, _, rfl, rfl, hm, ?_⟩⟩
          rw [upd_upd]
          exact k _ _ (Int.emod_nonneg _ (by omega)) (Int.emod_lt_of_pos _ hm) ⟨ns, a + 1, _, _, _, upd_same, by rw [upd_ne nl]; exact hl, hn⟩ (fun c o h n => by rw [upd_ne n]; exact h) fun c n => upd_ne n
      · refine ⟨_, rfl, _, _, rfl, rfl, cm _ _ (by decide) (by decide), _, rfl, b, _, rfl, dg_mixed upd_same, _, _, rfl, rfl, cm _ _ (by decide) (by decide), _, _, rfl, rfl, ?_⟩
        refine ⟨_, rfl, b, _, rfl, dg_count upd_same, _, _, rfl, rfl, cm _ _ (by decide) (by decide), _, _, rfl, rfl, .inl ⟨_, rfl, _, _, rfl, rfl, (by show (0 : Int) < 2147483647; decide), ?_⟩⟩
        refine ⟨_, rfl, _, _, rfl, rfl, cm _ _ (by decide) (by decide), _, _, rfl, rfl, .inl ⟨_, rfl, _, _, rfl, rfl, (by show (0 : Int) < 2147483647; decide), ?_⟩⟩
        refine ⟨_, rfl, .inl ⟨_, rfl, _, _, rfl, rfl, (by show (0 : Int) < 1000003; decide), _, rfl, b, _, rfl, dp_mixed _ upd_same, ?_⟩⟩
        refine ⟨_, rfl, _, _, rfl, rfl, ⟨by decide, by decide⟩, .inl ⟨_, rfl, _, rfl, _, _, rfl, rfl, hm, ?_⟩⟩
        rw [upd_upd]
        exact k _ _ (Int.emod_nonneg _ (by omega)) (Int.emod_lt_of_pos _ hm) ⟨ns, a, _, _, _, upd_same, by rw [upd_ne nl]; exact hl, hn⟩ (fun c o h n => by rw [upd_ne n]; exact h) fun c n => upd_ne n
end
end K02

/-! k06, part b: data made of tuples and lists; numbers or not. -/
namespace K02
open PySem L2
abbrev sIsNum : Stmt := top 1
abbrev sInteger : Stmt := top 32
/-- a short text of signs -/
def Sh (z : Str) : Prop := z.length ≤ 1000 ∧ PyData.strOk z = true
mutual
/-- at v the data d is to be read, all of it tracked -/
inductive Rp (H : Hp) : V → PyData → Prop
  | non : Rp H .non .none
  | bl (b : Bool) : Rp H (.bl b) (.bool b)
  | int (i : Int) : Rp H (.int i) (.int i)
  | str (z : Str) (h : Sh z) : Rp H (.str z) (.str z)
  | lst {a : Addr} {xs : List V} {ds : List PyData} : H a = some (.lst xs) → Rps H xs ds → Rp H (.ref a) (.list ds)
  | tup {a : Addr} {xs : List V} {ds : List PyData} : H a = some (.tup xs) → Rps H xs ds → Rp H (.ref a) (.tuple ds)
inductive Rps (H : Hp) : List V → List PyData → Prop
  | nil : Rps H [] []
  | cons {v : V} {vs : List V} {d : PyData} {ds : List PyData} : Rp H v d → Rps H vs ds → Rps H (v :: vs) (d :: ds)
end
/-- tuples and lists of H stand in H' -/
def Sq (H H' : Hp) : Prop := (∀ a xs, H a = some (.tup xs) → H' a = some (.tup xs)) ∧ ∀ a xs, H a = some (.lst xs) → H' a = some (.lst xs)
mutual
theorem Rp.mono {H H' : Hp} (s : Sq H H') : ∀ {v : V} {d : PyData}, Rp H v d → Rp H' v d
  | _, _, .non => .non
  | _, _, .bl b => .bl b
  | _, _, .int i => .int i
  | _, _, .str z h => .str z h
  | _, _, .lst e r => .lst (s.2 _ _ e) (Rps.mono s r)
  | _, _, .tup e r => .tup (s.1 _ _ e) (Rps.mono s r)
theorem Rps.mono {H H' : Hp} (s : Sq H H') : ∀ {vs : List V} {ds : List PyData}, Rps H vs ds → Rps H' vs ds
  | _, _, .nil => .nil
  | _, _, .cons r rs => .cons (Rp.mono s r) (Rps.mono s rs)
end
mutual
theorem Rp.dp {K : PySem.W.Frag} {H : Hp} : ∀ {v : V} {d : PyData}, Rp H v d → Dp K H v d
  | _, _, .non => .non
  | _, _, .bl b => .bl b
  | _, _, .int i => .int i
  | _, _, .str z _ => .str z
  | _, _, .lst e r => .lst (SqL.of e) (Rps.dp r)
  | _, _, .tup e r => .tup (SqT.of e) (Rps.dp r)
theorem Rps.dp {K : PySem.W.Frag} {H : Hp} : ∀ {vs : List V} {ds : List PyData}, Rps H vs ds → DpAll K H vs ds
  | _, _, .nil => .nil
  | _, _, .cons r rs => .cons (Rp.dp r) (Rps.dp rs)
end
mutual
theorem Rp.lay {H : Hp} : ∀ {v : V} {d : PyData}, Rp H v d → d.canLay0 = true
  | _, _, .non => by simp only [PyData.canLay0]
  | _, _, .bl b => by simp only [PyData.canLay0]
  | _, _, .int i => by simp only [PyData.canLay0]
  | _, _, .str z h => by simp only [PyData.canLay0]; exact h.2
  | _, _, .lst e r => by simp only [PyData.canLay0]; exact Rps.lay r
  | _, _, .tup e r => by simp only [PyData.canLay0]; exact Rps.lay r
theorem Rps.lay {H : Hp} : ∀ {vs : List V} {ds : List PyData}, Rps H vs ds → PyData.canLayAll0 ds = true
  | _, _, .nil => by simp only [PyData.canLayAll0]
  | _, _, .cons r rs => by simp only [PyData.canLayAll0, Rp.lay r, Rps.lay rs, Bool.and_self]
end
theorem Sq.of {H H' : Hp} (s : Same H H') : Sq H H' := ⟨fun a xs e => s a _ e, fun a xs e => s a _ e⟩
theorem Sq.but {b l : Addr} {H H' : Hp} (B : BagL H b l) (s : But b H H') : Sq H H' := by
  obtain ⟨ns, a, r, m, c, hb, _⟩ := B
  exact ⟨fun p xs e => s p _ e (ne_of e hb (by intro z; cases z)), fun p xs e => s p _ e (ne_of e hb (by intro z; cases z))⟩
theorem Sq.trans {H H1 H2 : Hp} (x : Sq H H1) (y : Sq H1 H2) : Sq H H2 := ⟨fun a xs e => y.1 a xs (x.1 a xs e), fun a xs e => y.2 a xs (x.2 a xs e)⟩
theorem Sq.refl (H : Hp) : Sq H H := ⟨fun _ _ e => e, fun _ _ e => e⟩
theorem Rps.length {H : Hp} : ∀ {vs : List V} {ds : List PyData}, Rps H vs ds → vs.length = ds.length
  | _, _, .nil => rfl
  | _, _, .cons _ rs => by rw [List.length_cons, List.length_cons, Rps.length rs]
theorem Rps.get {H : Hp} : ∀ {vs : List V} {ds : List PyData}, Rps H vs ds → ∀ {i : Nat} {d : PyData}, ds[i]? = some d → ∃ v, vs[i]? = some v ∧ Rp H v d
  | _, _, .nil, i, d, h => by cases i <;> cases h
  | _, _, .cons r rs, 0, d, h => by cases h; exact ⟨_, rfl, r⟩
  | _, _, .cons r rs, i + 1, d, h => Rps.get rs h
def dI : PyData → Bool
  | .int _ => true
  | .bool _ => true
  | _ => false
def dB : PyData → Bool
  | .bool _ => true
  | _ => false
def dS : PyData → Bool
  | .str _ => true
  | _ => false
def dT : PyData → Bool
  | .tuple _ => true
  | _ => false
/-- an integer, and no truth -/
def dN : PyData → Bool
  | .int _ => true
  | _ => false
section
variable {K : PySem.W.Frag} {H : Hp} {x : V} {d : PyData}
theorem Rp.kInt (t : Rp H x d) : ∃ v, TyX K H x v ∧ PySem.W.kitOne K v (.type "int") = some (dI d) := by
  cases t with
  | non => exact ⟨_, .base .non, kit_ty (r := false) (by decide +kernel)⟩
  | bl b => exact ⟨_, .base (.bl b), kit_ty (r := true) (by decide +kernel)⟩
  | int i => exact ⟨_, .base (.int i), kit_ty (r := true) (by decide +kernel)⟩
  | str z _ => exact ⟨_, .base (.str z), kit_ty (r := false) (by decide +kernel)⟩
  | lst e _ => exact ⟨_, .base (.lst e), kit_ty (r := false) (by decide +kernel)⟩
  | tup e _ => exact ⟨_, .base (.tup e), kit_ty (r := false) (by decide +kernel)⟩
theorem Rp.kBool (t : Rp H x d) : ∃ v, TyX K H x v ∧ PySem.W.kitOne K v (.type "bool") = some (dB d) := by
  cases t with
  | non => exact ⟨_, .base .non, kit_ty (r := false) (by decide +kernel)⟩
  | bl b => exact ⟨_, .base (.bl b), kit_ty (r := true) (by decide +kernel)⟩
  | int i => exact ⟨_, .base (.int i), kit_ty (r := false) (by decide +kernel)⟩
  | str z _ => exact ⟨_, .base (.str z), kit_ty (r := false) (by decide +kernel)⟩
  | lst e _ => exact ⟨_, .base (.lst e), kit_ty (r := false) (by decide +kernel)⟩
  | tup e _ => exact ⟨_, .base (.tup e), kit_ty (r := false) (by decide +kernel)⟩
theorem Rp.kStr (t : Rp H x d) : ∃ v, TyX K H x v ∧ PySem.W.kitOne K v (.type "str") = some (dS d) := by
  cases t with
  | non => exact ⟨_, .base .non, kit_ty (r := false) (by decide +kernel)⟩
  | bl b => exact ⟨_, .base (.bl b), kit_ty (r := false) (by decide +kernel)⟩
  | int i => exact ⟨_, .base (.int i), kit_ty (r := false) (by decide +kernel)⟩
  | str z _ => exact ⟨_, .base (.str z), kit_ty (r := true) (by decide +kernel)⟩
  | lst e _ => exact ⟨_, .base (.lst e), kit_ty (r := false) (by decide +kernel)⟩
  | tup e _ => exact ⟨_, .base (.tup e), kit_ty (r := false) (by decide +kernel)⟩
theorem Rp.kTup (t : Rp H x d) : ∃ v, TyX K H x v ∧ PySem.W.kitOne K v (.type "tuple") = some (dT d) := by
  cases t with
  | non => exact ⟨_, .base .non, kit_ty (r := false) (by decide +kernel)⟩
  | bl b => exact ⟨_, .base (.bl b), kit_ty (r := false) (by decide +kernel)⟩
  | int i => exact ⟨_, .base (.int i), kit_ty (r := false) (by decide +kernel)⟩
  | str z _ => exact ⟨_, .base (.str z), kit_ty (r := false) (by decide +kernel)⟩
  | lst e _ => exact ⟨_, .base (.lst e), kit_ty (r := false) (by decide +kernel)⟩
  | tup e _ => exact ⟨_, .base (.tup e), kit_ty (r := true) (by decide +kernel)⟩
end
/-- the module's names that the built-ins keep -/
structure Nms (mg : Str → Option Value) : Prop where
  int : mg "int" = none
  len : mg "len" = none
  isi : mg "isinstance" = none
  bool : mg "bool" = none
  str : mg "str" = none
  tuple : mg "tuple" = none
  list : mg "list" = none
  range : mg "range" = none
  max : mg "max" = none
  all : mg "all" = none
  sorted : mg "sorted" = none
  reversed : mg "reversed" = none
  enumerate : mg "enumerate" = none
/-- isinstance(x, int) and not isinstance(x, bool) -/
def spNum : Sp := fun vs H Q _ => ∃ x d, vs = [x] ∧ Rp H x d ∧ Q (.bl (dN d)) H
section
variable {P : Program} {w : World} {K : PySem.W.Frag} {mg : Str → Option Value} {base : Heap}
theorem scIsNum : FnScope ["thing"] ["thing"] (defScope sIsNum) := ⟨rfl, rfl, rfl, by decide +kernel, rfl, by decide +kernel, by decide +kernel⟩
theorem scInteger : FnScope ["_law_thing"] ["_law_thing"] (defScope sInteger) := ⟨rfl, rfl, rfl, by decide +kernel, rfl, by decide +kernel, by decide +kernel⟩
theorem ok_isnum {f : Addr} {fd : FuncData} (F : Fun K "is_number" "is_number" sIsNum f fd) (N : Nms mg) : FnOk P w K mg base CX0 1 f fd ["thing"] spNum := by
  refine F.ok scIsNum (fun vs H Q E h => ?_) (fun cdv A outer s H vs Q E hr h => ?_)
  · obtain ⟨x, d, rfl, _⟩ := h
    rfl
  · obtain ⟨x, d, rfl, t, k⟩ := h
    refine ⟨_, pss_one (ps_ret (pe_and (pe_callB call_isi (by rfl) N.isi (by decide +kernel) (pa_cons (pv 0) (pa_cons (pe_bltn (v := .ty "int") (by rfl) N.int (by decide +kernel) rfl) pa_nil)))
      (pe_one (pe_not (pe_callB call_isi (by rfl) N.isi (by decide +kernel) (pa_cons (pv 0) (pa_cons (pe_bltn (v := .ty "bool") (by rfl) N.bool (by decide +kernel) rfl) pa_nil))))))), ?_⟩
    obtain ⟨v1, ty1, k1⟩ := t.kInt (K := K)
    obtain ⟨v2, ty2, k2⟩ := t.kBool (K := K)
    refine ⟨_, rfl, _, _, v1, _, _, rfl, .ty _, ty1, k1, _, rfl, ?_⟩
    cases e : dI d with
    | true =>
      refine iteT ?_
      refine ⟨_, rfl, _, _, v2, _, _, rfl, .ty _, ty2, k2, _, rfl, ?_⟩
      cases d <;> first | exact k | (cases e)
    | false =>
      refine iteF ?_
      cases d <;> first | exact k | (cases e)
theorem ok_integer {f : Addr} {fd : FuncData} (F : Fun K "_law_integer" "_law_integer" sInteger f fd) (N : Nms mg) : FnOk P w K mg base CX0 1 f fd ["_law_thing"] spNum := by
  refine F.ok scInteger (fun vs H Q E h => ?_) (fun cdv A outer s H vs Q E hr h => ?_)
  · obtain ⟨x, d, rfl, _⟩ := h
    rfl
  · obtain ⟨x, d, rfl, t, k⟩ := h
    refine ⟨_, pss_one (ps_ret (pe_and (pe_callB call_isi (by rfl) N.isi (by decide +kernel) (pa_cons (pv 0) (pa_cons (pe_bltn (v := .ty "int") (by rfl) N.int (by decide +kernel) rfl) pa_nil)))
      (pe_one (pe_not (pe_callB call_isi (by rfl) N.isi (by decide +kernel) (pa_cons (pv 0) (pa_cons (pe_bltn (v := .ty "bool") (by rfl) N.bool (by decide +kernel) rfl) pa_nil))))))), ?_⟩
    obtain ⟨v1, ty1, k1⟩ := t.kInt (K := K)
    obtain ⟨v2, ty2, k2⟩ := t.kBool (K := K)
    refine ⟨_, rfl, _, _, v1, _, _, rfl, .ty _, ty1, k1, _, rfl, ?_⟩
    cases e : dI d with
    | true =>
      refine iteT ?_
      refine ⟨_, rfl, _, _, v2, _, _, rfl, .ty _, ty2, k2, _, rfl, ?_⟩
      cases d <;> first | exact k | (cases e)
    | false =>
      refine iteF ?_
      cases d <;> first | exact k | (cases e)
end
end K02

/-! k06, part c: the bag made, choices. -/
namespace K02
open PySem L2
/-- _law_bag(script) -/
def spBag (K : PySem.W.Frag) : Sp := fun vs H Q _ => ∃ (a : Addr) (ns : List Int), vs = [.ref a] ∧ SqL K H a (ns.map V.int) ∧ ns.length ≤ 63 ∧ ∀ (b l : Addr) (H' : Hp), H b = none → H l = none → BagL H' b l → Same H H' → Q (.ref b) H'
/-- _law_one_in(bag, many) -/
def spOneIn : Sp := fun vs H Q _ => ∃ (b l : Addr) (many : Int), vs = [.ref b, .int many] ∧ 0 < many ∧ many < 1073741824 ∧ BagL H b l ∧
  ∀ (r : Bool) (H' : Hp), BagL H' b l → But b H H' → (∀ c, c ≠ b → H' c = H c) → Q (.bl r) H'
/-- _law_choice(bag, things): one of them -/
def spChoice (K : PySem.W.Frag) : Sp := fun vs H Q _ => ∃ (b bl l : Addr) (xs : List V), vs = [.ref b, .ref l] ∧ H l = some (.lst xs) ∧ l ≠ b ∧ 0 < xs.length ∧ xs.length < 1000 ∧ BagL H b bl ∧
  ∀ (x : V) (H' : Hp), x ∈ xs → BagL H' b bl → But b H H' → (∀ c, c ≠ b → H' c = H c) → Q x H'
/-- a comprehension without a test -/
theorem yesT {σ : St} {H : Hp} {A B : Hp → Prop} (h : A H) : tYes σ H fun b H3 => if b = true then A H3 else B H3 := by
  show if true = true then A H else B H
  rw [if_pos rfl]
  exact h
section
variable {P : Program} {w : World} {K : PySem.W.Frag} {mg : Str → Option Value} {base : Heap} {C : Addr}
theorem scBag : FnScope ["_law_script", "_law_mixed", "_law_cell"] ["_law_script"] (defScope sBag) := ⟨rfl, rfl, rfl, by decide +kernel, rfl, by decide +kernel, by decide +kernel⟩
theorem scChoice : FnScope ["_law_bag_here", "_law_things"] ["_law_bag_here", "_law_things"] (defScope sChoice) := ⟨rfl, rfl, rfl, by decide +kernel, rfl, by decide +kernel, by decide +kernel⟩
theorem scOneIn : FnScope ["_law_bag_here", "_law_many"] ["_law_bag_here", "_law_many"] (defScope sOneIn) := ⟨rfl, rfl, rfl, by decide +kernel, rfl, by decide +kernel, by decide +kernel⟩
theorem ok_onein {f fp : Addr} {fd fdp : FuncData} (F : Fun K "_law_one_in" "_law_one_in" sOneIn f fd) (FP : Fun K "_law_pick" "_law_pick" sPick fp fdp) (bP : Binds K fdp ["_law_bag_here", "_law_many"] []) (gP : mg "_law_pick" = some (.ref fp)) (N : Nms mg) :
    FnOk P w K mg base CX0 2 f fd ["_law_bag_here", "_law_many"] spOneIn := by
  have GP : FnOk P w K mg base CX0 1 fp fdp ["_law_bag_here", "_law_many"] spPick := ok_pick FP N.int N.len
  refine F.ok scOneIn (fun vs H Q E h => ?_) (fun cdv A outer s H vs Q E hr h => ?_)
  · obtain ⟨b, l, many, rfl, _⟩ := h
    rfl
  · obtain ⟨b, l, many, rfl, hm, hm2, B, k⟩ := h
    refine ⟨_, pss_one (ps_ret (pe_cmpR op_eq (pe_call GP hr rfl gP FP.kp bP .nil pass0 (pa_cons (pv 0) (pa_cons (pv 1) pa_nil))) pe_int (nomark _))), ?_⟩
    refine ⟨_, rfl, _, rfl, b, l, many, rfl, hm, hm2, B, fun r H' h0 h1 B' bt nw => ?_⟩
    exact ⟨rfl, k _ H' B' bt nw⟩
theorem ok_choice {f fp : Addr} {fd fdp : FuncData} (F : Fun K "_law_choice" "_law_choice" sChoice f fd) (FP : Fun K "_law_pick" "_law_pick" sPick fp fdp) (bP : Binds K fdp ["_law_bag_here", "_law_many"] []) (gP : mg "_law_pick" = some (.ref fp)) (N : Nms mg) :
    FnOk P w K mg base CX0 2 f fd ["_law_bag_here", "_law_things"] (spChoice K) := by
  have GP : FnOk P w K mg base CX0 1 fp fdp ["_law_bag_here", "_law_many"] spPick := ok_pick FP N.int N.len
  refine F.ok scChoice (fun vs H Q E h => ?_) (fun cdv A outer s H vs Q E hr h => ?_)
  · obtain ⟨b, bl, l, xs, rfl, _⟩ := h
    rfl
  · obtain ⟨b, bl, l, xs, rfl, hl, nl, h0, h1, B, k⟩ := h
    refine ⟨_, pss_one (ps_ret (pe_ix ix_list (pv 1) (pe_call GP hr rfl gP FP.kp bP .nil pass0 (pa_cons (pv 0) (pa_cons (pe_callB call_len_seq (by rfl) N.len PySem.boot_len (pa_cons (pv 1) pa_nil)) pa_nil))) (fun _ _ => rfl))), ?_⟩
    refine ⟨_, rfl, _, rfl, _, rfl, l, xs, rfl, .inl (SqL.of hl), b, bl, (xs.length : Int), rfl, by omega, by omega, B, fun r H' r0 r1 B' bt nw => ?_⟩
    obtain ⟨j, rfl⟩ := Int.eq_ofNat_of_zero_le r0
    have hj : j < xs.length := by omega
    exact ⟨l, xs, _, xs[j], rfl, rfl, SqL.of (bt _ _ hl nl), atI_nat (by rw [List.getElem?_eq_getElem hj]), k _ H' (List.getElem_mem hj) B' bt nw⟩
theorem ok_bag {f : Addr} {fd : FuncData} (F : Fun K "_law_bag" "_law_bag" sBag f fd) (N : Nms mg) : FnOk P w K mg base CX0 1 f fd ["_law_script"] (spBag K) := by
  refine F.ok scBag (fun vs H Q E h => ?_) (fun cdv A outer s H vs Q E hr h => ?_)
  · obtain ⟨a, ns, rfl, _⟩ := h
    rfl
  · obtain ⟨a, ns, rfl, hS, hn, k⟩ := h
    refine ⟨_, pss_cons (ps_set (i := 1) scBag.nd rfl (Or.inl rfl) pe_int)
      (pss_cons (ps_for PassesOwn.never rfl (pi_list (pv 0)) (pg_name (i := 2) scBag.nd rfl (Or.inl rfl))
        (pss_one (ps_set (i := 1) scBag.nd rfl (Or.inl rfl) (pe_op op_mod (pe_callTy call_int1 (by rfl) N.int (by decide +kernel) (pa_cons (pe_op op_add (pe_op op_add (pe_op op_mul (pv 1) pe_int) (pv 2)) pe_int) pa_nil)) pe_int))))
      (pss_one (ps_ret (pe_disp (pps_cons pe_str (pe_lc (own := [("_law_cell", 2)]) (g := gName 2) (tt := tYes) (te := tVar 2) rfl scBag.nd (pi_list (pv 0)) (blkOk_by (N := ["_law_script", "_law_mixed", "_law_cell"]) (sc := defScope sBag) (by decide +kernel)) (fun _ _ _ _ _ => pg_name (i := 2) scBag.nd rfl (Or.inl rfl)) (fun _ _ _ _ _ => pts_nil) (fun _ _ _ _ _ => pv 2))
        (pps_cons pe_str pe_int (pps_cons pe_str pe_int (pps_cons pe_str (pv 1) (pps_cons pe_str pe_int pps_nil))))) (by rfl) (by rfl) (fun z => by cases z) (by decide))))), ?_⟩
    refine ⟨_, rfl, a, rfl, ⟨_, hS⟩, for_list (K := K) (a := a) (xs := ns.map V.int) (fun i σ H' => ∃ (m : Int) (v : Option V), σ = [some (.ref a), some (.int m), v] ∧ H' = H) ⟨7, none, rfl, rfl⟩ (fun i σ H' _ ⟨_, _, _, e⟩ => by rw [e]; exact hS) ?_ ?_⟩
    · rintro i y σ H' hi ⟨m, v, rfl, rfl⟩
      obtain ⟨z, rfl⟩ : ∃ z, y = V.int z := by
        rw [List.getElem?_map] at hi
        cases e : ns[i]? with
        | none => rw [e] at hi; cases hi
        | some z => rw [e] at hi; exact ⟨z, (Option.some.inj hi).symm⟩
      refine ⟨_, rfl, _, _, rfl, rfl, .inr ⟨by decide, by decide⟩, _, rfl, _, _, rfl, rfl, _, _, rfl, rfl, .inl ⟨_, rfl, _, _, rfl, rfl, (by show (0 : Int) < 1000003; decide), ?_⟩⟩
      exact ⟨_, _, rfl, rfl⟩
    · rintro σ H' ⟨m, v, rfl, rfl⟩
      intro p np
      have np' : ∀ q o, H' q = some o → q ≠ p := fun q o e => ne_of_none e np
      have hS' : SqL K (upd H' p (.dK [])) a (ns.map V.int) := by
        rcases hS with (h | ⟨o, h⟩) | h
        · exact .inl (.inl (by rw [upd_ne (np' _ _ h)]; exact h))
        · exact .inl (.inr ⟨o, by rw [upd_ne (np' _ _ h)]; exact h⟩)
        · exact .inr h
      refine ⟨_, rfl, a, rfl, ⟨_, hS'⟩, fun D hD => ?_⟩
      have sD : Same (upd H' p (.dK [])) (upd (upd H' p (.dK [])) D (.lst [])) := fun q o e => by rw [upd_ne (ne_of_none e hD)]; exact e
      refine lc_list (K := K) (a := a) (xs := ns.map V.int) (fun i H2 => Same (upd H' p (.dK [])) H2 ∧ H2 D = some (.lst ((ns.map V.int).take i))) ⟨sD, upd_same⟩ (fun i H2 _ ⟨e, _⟩ => e.seq hS') ?_ ?_
      · rintro i x H2 hi ⟨e, hd⟩
        have hil : i < (ns.map V.int).length := (List.getElem?_eq_some_iff.mp hi).1
        have hx : (ns.map V.int).take (i + 1) = (ns.map V.int).take i ++ [x] := by rw [List.take_add_one, hi]; rfl
        have hD2 : ∀ q o, upd H' p (.dK []) q = some o → q ≠ D := fun q o z => ne_of_none z hD
        refine ⟨rfl, ?_⟩
        refine yesT ?_
        refine ⟨_, rfl, _, hd, ?_, fun q o z => ?_, ?_⟩
        · rw [List.length_take]
          exact small1000 (by rw [List.length_map]; omega)
        · rw [upd_ne (hD2 q o z)]
          exact e q o z
        · rw [hx]
          exact upd_same
      · rintro H2 ⟨e, hd⟩
        rw [List.take_length] at hd
        have hp2 : H2 p = some (.dK []) := e p _ upd_same
        have nD : D ≠ p := fun z => by rw [z, upd_same] at hD; cases hD
        refine ⟨_, rfl, hp2, [(Sum.inr "cells", .ref D), (Sum.inr "at", .int 0), (Sum.inr "rest", .int 0), (Sum.inr "mixed", .int m), (Sum.inr "count", .int 0)], rfl, Nat.le_of_ble_eq_true rfl, ?_⟩
        refine k p D _ np ?_ ⟨ns, 0, 0, m, 0, ?_, ?_, hn⟩ fun q o z => ?_
        · cases e : H' D with
          | none => rfl
          | some u => rw [upd_ne (np' D u e), e] at hD; cases hD
        · exact upd_same
        · rw [upd_ne nD]
          exact hd
        · rw [upd_ne (np' q o z)]
          exact e q o (by rw [upd_ne (np' q o z)]; exact z)
end
end K02

/-! k06, part d: names, headings' names. -/
namespace K02
open PySem L2
abbrev sIsName : Stmt := top 19
def letters : Str := "abcdefghijklmnopqrstuvwxyz"
def figures : Str := "0123456789"
def reserved : List Str := ["any", "none", "mix", "form", "state", "over", "from", "parts", "some", "each", "main", "falls", "not", "and", "or", "two", "ring", "open"]
abbrev resV : List V := reserved.map V.str
def isLet (c : Nat) : Bool := decide (c ∈ letters.cps.toList)
def isFig (c : Nat) : Bool := decide (c ∈ figures.cps.toList)
/-- is the text a name -/
def nmS (z : Str) : Bool := decide (1 ≤ (z.length : Int)) && decide ((z.length : Int) ≤ 12) && (z.cps.toList.all isLet && !inV (.str z) resV)
/-- is it a heading's name -/
def hdS (z : Str) : Bool := decide (1 ≤ (z.length : Int)) && decide ((z.length : Int) ≤ 8) && !inV (.str z) resV && z.cps.toList.all fun c => isLet c || isFig c
def nmD : PyData → Bool
  | .str z => nmS z
  | _ => false
def hdD : PyData → Bool
  | .str z => hdS z
  | _ => false
/-- what the module's constants are -/
structure Glb (K : PySem.W.Frag) (mg : Str → Option Value) : Prop where
  letters : ∃ u, mg "LETTERS" = some u ∧ RelV (.str letters) u
  longest : ∃ u, mg "LONGEST_NAME" = some u ∧ RelV (.int 12) u
  reserved : ∃ a, mg "RESERVED" = some (.ref a) ∧ ∀ H, SqT K H a resV
/-- a test of data: the answer, and nothing that stood has changed -/
def spTest (t : PyData → Bool) : Sp := fun vs H Q _ => ∃ x d, vs = [x] ∧ Rp H x d ∧ ∀ H', Same H H' → Q (.bl (t d)) H'
theorem same_new {H H1 : Hp} {p : Addr} {o : HO} (s : Same H H1) (n : H1 p = none) : Same H (upd H1 p o) := fun a u e => by
  rw [upd_ne (ne_of_none (s a u e) n)]
  exact s a u e
theorem same_put {H H1 : Hp} {p : Addr} {o : HO} (s : Same H H1) (n : H p = none) : Same H (upd H1 p o) := fun a u e => by
  rw [upd_ne (ne_of_none e n)]
  exact s a u e
theorem Same.rfl' {H : Hp} : Same H H := fun _ _ e => e
section
variable {P : Program} {w : World} {K : PySem.W.Frag} {mg : Str → Option Value} {base : Heap}
theorem scIsName : FnScope ["thing", "letter"] ["thing"] (defScope sIsName) := ⟨rfl, rfl, rfl, by decide +kernel, rfl, by decide +kernel, by decide +kernel⟩
theorem ok_isname {f : Addr} {fd : FuncData} (F : Fun K "is_name" "is_name" sIsName f fd) (N : Nms mg) (G : Glb K mg) : FnOk P w K mg base CX0 1 f fd ["thing"] (spTest nmD) := by
  obtain ⟨uL, mL, rL⟩ := G.letters
  obtain ⟨uM, mM, rM⟩ := G.longest
  obtain ⟨aR, mR, sR⟩ := G.reserved
  refine F.ok scIsName (fun vs H Q E h => ?_) (fun cdv A outer s H vs Q E hr h => ?_)
  · obtain ⟨x, d, rfl, _⟩ := h
    rfl
  · obtain ⟨x, d, rfl, t, k⟩ := h
    refine ⟨_, pss_cons (ps_if (PW.pt (pw_or (pt_not (pt_val (pe_callB call_isi (by rfl) N.isi (by decide +kernel) (pa_cons (pv 0) (pa_cons (pe_bltn (v := .ty "str") (by rfl) N.str (by decide +kernel) rfl) pa_nil)))))
        (pw_or1 (pt_not (pt_chain op_le op_le pe_int (pe_callB call_len_str (by rfl) N.len PySem.boot_len (pa_cons (pv 0) pa_nil)) (pe_glob rfl mM rM)))))) (pss_one (ps_ret pe_bl)) pss_nil)
      (pss_one (ps_ret (pe_and (pe_callB (cr_all rfl) (by rfl) N.all (by decide +kernel) (pa_cons
        (pe_lc (own := [("letter", 1)]) (g := gName 1) (tt := tYes) rfl scIsName.nd (pi_str (pv 0)) (blkOk_by (N := ["thing", "letter"]) (sc := defScope sIsName) (by decide +kernel)) (fun _ _ _ _ _ => pg_name (i := 1) scIsName.nd rfl (Or.inl rfl)) (fun _ _ _ _ _ => pts_nil)
          (fun _ _ _ _ _ => pe_cmpR op_in_sign (pv 1) (pe_glob rfl mL rL) rfl)) pa_nil)) (pe_one (pe_cmpR op_notIn_seq (pv 0) (pe_glob (v := .ref aR) rfl mR rfl) rfl))))), ?_⟩
    obtain ⟨v1, ty1, k1⟩ := t.kStr (K := K)
    refine ⟨_, rfl, _, _, v1, _, _, rfl, .ty _, ty1, k1, _, rfl, ?_⟩
    cases t with
    | non => exact iteT (k H Same.rfl')
    | bl b => exact iteT (k H Same.rfl')
    | int i => exact iteT (k H Same.rfl')
    | lst e r => exact iteT (k H Same.rfl')
    | tup e r => exact iteT (k H Same.rfl')
    | str z hz =>
      refine iteF ?_
      have hz' : z.length ≤ sizeLine := Nat.le_trans hz.1 (by decide)
      refine ⟨_, rfl, z, rfl, hz', _, _, rfl, rfl, _, rfl, ?_⟩
      by_cases h1 : (1 : Int) ≤ (z.length : Int)
      · rw [decide_eq_true h1]
        refine iteT ⟨_, _, rfl, rfl, _, rfl, ?_⟩
        by_cases h2 : (z.length : Int) ≤ 12
        · rw [decide_eq_true h2]
          refine iteF ?_
          refine ⟨_, rfl, z, rfl, fun D hD => ?_⟩
          have sD : Same H (upd H D (.lst [])) := same_new Same.rfl' hD
          refine lc_it walk_str (fun i H2 => Same H H2 ∧ H2 D = some (.lst ((z.cps.toList.take i).map fun c => .bl (isLet c)))) ⟨sD, upd_same⟩ (fun _ _ _ _ => True.intro) ?_ ?_
          · rintro i x H1 H2 hi ⟨s1, d1⟩ ⟨rfl, c, hc, rfl⟩
            have hx : (z.cps.toList.take (i + 1)).map (fun c => V.bl (isLet c)) = (z.cps.toList.take i).map (fun c => V.bl (isLet c)) ++ [.bl (isLet c)] := by
              rw [List.take_add_one, Array.getElem?_toList, hc, List.map_append]
              rfl
            refine ⟨rfl, yesT ⟨_, rfl, c, letters, rfl, rfl, _, d1, ?_, same_put s1 hD, ?_⟩⟩
            · rw [List.length_map, List.length_take]
              have : i < z.length := hi
              exact small1000 (by omega)
            · rw [upd_same]
              exact congrArg (fun l => some (HO.lst l)) hx.symm
          · rintro H2 ⟨s1, d1⟩
            refine ⟨D, z.cps.toList.map isLet, rfl, SqL.of ?_, _, rfl, ?_⟩
            · rw [d1, List.take_of_length_le (Nat.le_of_eq (Array.length_toList)), List.map_map]
              rfl
            · have e1 : (z.cps.toList.map isLet).all id = z.cps.toList.all isLet := by rw [List.all_map]; rfl
              rw [e1]
              cases e : z.cps.toList.all isLet with
              | true =>
                refine iteT ⟨_, rfl, aR, resV, rfl, .inr (sR _), rfl, by decide, ?_⟩
                have : nmD (.str z) = !inV (.str z) resV := by
                  show nmS z = _
                  unfold nmS
                  rw [decide_eq_true h1, decide_eq_true h2, e]
                  rfl
                have q := k H2 s1
                rw [this] at q
                exact q
              | false =>
                refine iteF ?_
                have : nmD (.str z) = false := by
                  show nmS z = _
                  unfold nmS
                  rw [e, Bool.false_and, Bool.and_false]
                have q := k H2 s1
                rw [this] at q
                exact q
        · rw [decide_eq_false h2]
          refine iteT ?_
          have : nmD (.str z) = false := by
            show nmS z = false
            unfold nmS
            rw [decide_eq_false h2, Bool.and_false, Bool.false_and]
          rw [← this]
          exact k H Same.rfl'
      · rw [decide_eq_false h1]
        refine iteF ⟨_, rfl, iteT ?_⟩
        have : nmD (.str z) = false := by
          show nmS z = false
          unfold nmS
          rw [decide_eq_false h1, Bool.false_and, Bool.false_and]
        rw [← this]
        exact k H Same.rfl'
end
/-- a def that stands, with its name -/
structure Df (K : PySem.W.Frag) (mg : Str → Option Value) (name : Str) (st : Stmt) (ps : List Str) (f : Addr) (fd : FuncData) : Prop where
  F : Fun K name name st f fd
  b : Binds K fd ps []
  g : mg name = some (.ref f)
def shD : PyData → PyData → Bool
  | .int p, .int q => decide (1 ≤ q) && decide (q ≤ 20) && (decide (0 ≤ p) && decide (p ≤ q) && decide (((Nat.gcd p.natAbs q.natAbs : Nat) : Int) = 1))
  | _, _ => false
end K02

/-! k06, the law, part a: drawn words. -/
namespace K02
open PySem L2 PySem.Spec PyProof.Rows
abbrev sLetters : Stmt := top 33
/-- behind draws: a bag again, and what stood but the bag stands -/
structure Dr (b l : Addr) (H H' : Hp) : Prop where
  bag : BagL H' b l
  but : But b H H'
theorem Dr.refl {b l : Addr} {H : Hp} (B : BagL H b l) : Dr b l H H := ⟨B, But.refl b H⟩
theorem Dr.trans {b l : Addr} {H H1 H2 : Hp} (x : Dr b l H H1) (y : Dr b l H1 H2) : Dr b l H H2 := ⟨y.bag, x.but.trans y.but⟩
theorem Dr.new {b l p : Addr} {H H1 : Hp} {o : HO} (x : Dr b l H H1) (n : H1 p = none) : Dr b l H (upd H1 p o) := ⟨x.bag.same (same_new Same.rfl' n), fun c u e nb => by
  have q := x.but c u e nb
  rw [upd_ne (ne_of_none q n)]
  exact q⟩
theorem BagL.ne_b {H : Hp} {b l p : Addr} (B : BagL H b l) (e : H p = none) : p ≠ b := by
  obtain ⟨ns, a, r, m, c, h, _⟩ := B
  intro z
  rw [z, h] at e
  cases e
theorem BagL.ne_l {H : Hp} {b l p : Addr} (B : BagL H b l) (e : H p = none) : p ≠ l := by
  obtain ⟨ns, a, r, m, c, _, h, _⟩ := B
  intro z
  rw [z, h] at e
  cases e
/-- a store to an object that was not there at first and is no part of the bag -/
theorem Dr.put {b l p : Addr} {H H1 : Hp} {o : HO} (x : Dr b l H H1) (n : H p = none) (nb : p ≠ b) (nl : p ≠ l) : Dr b l H (upd H1 p o) := by
  obtain ⟨⟨ns, a, r, m, c, h1, h2, h3⟩, bt⟩ := x
  refine ⟨⟨ns, a, r, m, c, by rw [upd_ne (Ne.symm nb)]; exact h1, by rw [upd_ne (Ne.symm nl)]; exact h2, h3⟩, fun c u e nc => ?_⟩
  rw [upd_ne (fun z => by rw [← z, e] at n; cases n)]
  exact bt c u e nc
/-- all signs of a text -/
def AllIn (p : Nat → Bool) (z : Str) : Prop := ∀ c ∈ z.cps.toList, p c = true
theorem allIn_app {p : Nat → Bool} {x y : Str} (hx : AllIn p x) (hy : AllIn p y) : AllIn p (x ++ y) := by
  intro c hc
  have e : (x ++ y).cps.toList = x.cps.toList ++ y.cps.toList := Array.toList_append
  rw [e] at hc
  rcases List.mem_append.mp hc with h | h
  · exact hx c h
  · exact hy c h
theorem join_signs {p : Nat → Bool} : ∀ {ys : List Str}, (∀ y ∈ ys, y.length = 1 ∧ AllIn p y) → (Str.join "" ys).length = ys.length ∧ AllIn p (Str.join "" ys)
  | [], _ => ⟨rfl, fun c hc => by cases hc⟩
  | [x], h => ⟨(h x List.mem_cons_self).1, (h x List.mem_cons_self).2⟩
  | x :: y :: r, h => by
    obtain ⟨h1, h2⟩ := join_signs (ys := y :: r) fun a ha => h a (List.mem_cons_of_mem _ ha)
    obtain ⟨g1, g2⟩ := h x List.mem_cons_self
    have e : Str.join "" (x :: y :: r) = x ++ "" ++ Str.join "" (y :: r) := rfl
    rw [e]
    refine ⟨?_, allIn_app (allIn_app g2 fun c hc => by cases hc) h2⟩
    rw [Str.length_append, Str.length_append, g1, h1]
    show 1 + 0 + (r.length + 1) = r.length + 1 + 1
    omega
theorem join_eq' (ys : List Str) : Txt.join "" ys = Str.join "" ys := PySem.StrLaws.glued_eq_join "" ys
def spLetters : Sp := fun vs H Q _ => ∃ (b l : Addr) (m : Nat), vs = [.ref b, .int (m : Nat)] ∧ m ≤ 20 ∧ BagL H b l ∧ ∀ z H', z.length = m → AllIn isLet z → Dr b l H H' → Q (.str z) H'
section
variable {P : Program} {w : World} {K : PySem.W.Frag} {mg : Str → Option Value} {base : Heap}
theorem scLetters : FnScope ["_law_bag_here", "_law_many", "_law_k"] ["_law_bag_here", "_law_many"] (defScope sLetters) := ⟨rfl, rfl, rfl, by decide +kernel, rfl, by decide +kernel, by decide +kernel⟩
theorem ok_letters {f fp : Addr} {fd fdp : FuncData} (F : Fun K "_law_letters" "_law_letters" sLetters f fd) (N : Nms mg) (DP : Df K mg "_law_pick" sPick ["_law_bag_here", "_law_many"] fp fdp) (GP : FnOk P w K mg base CX0 1 fp fdp ["_law_bag_here", "_law_many"] spPick) :
    FnOk P w K mg base CX0 2 f fd ["_law_bag_here", "_law_many"] spLetters := by
  refine F.ok scLetters (fun vs H Q E h => ?_) (fun cdv A outer s H vs Q E hr h => ?_)
  · obtain ⟨b, l, m, rfl, _⟩ := h
    rfl
  · obtain ⟨b, l, m, rfl, hm, B, k⟩ := h
    have nd := scLetters.nd
    refine ⟨_, pss_one (ps_ret (pe_join pe_str (pe_lc (own := [("_law_k", 2)]) (g := gName 2) (tt := tYes) (te := tOp rIxS (tC (.str letters)) (tCall spPick [] E0 (tCons (tVar 0) (tCons (tC (.int 26)) tNil)))) rfl nd (pi_range1 rfl N.range (pa_cons (pv 1) pa_nil))
      (blkOk_by (N := ["_law_bag_here", "_law_many", "_law_k"]) (sc := defScope sLetters) (by decide +kernel)) (fun _ _ _ _ _ => pg_name (i := 2) nd rfl (Or.inl rfl)) (fun _ _ _ _ _ => pts_nil)
      (fun _ _ _ _ _ => pe_ix ix_str pe_str (pe_call GP hr rfl DP.g DP.F.kp DP.b .nil pass0 (pa_cons (pv 0) (pa_cons pe_int pa_nil))) (fun _ _ => rfl))))), ?_⟩
    refine ⟨⟨_, rfl⟩, _, rfl, _, rfl, by omega, by omega, fun D hD => ?_⟩
    have nDb := B.ne_b hD
    have nDl := B.ne_l hD
    refine lc_range (lo := 0) (n := (m : Int).toNat) (fun i H2 => Dr b l H H2 ∧ ∃ ys : List Str, H2 D = some (.lst (ys.map V.str)) ∧ ys.length = i ∧ ∀ y ∈ ys, y.length = 1 ∧ AllIn isLet y) ⟨(Dr.refl B).new hD, [], upd_same, rfl, fun y hy => by cases hy⟩ ?_ ?_
    · rintro i H2 hi ⟨d2, ys, h2, hl, hy⟩
      refine ⟨rfl, yesT ?_⟩
      refine ⟨_, rfl, b, l, 26, rfl, by decide, by decide, d2.bag, fun r H3 r0 r1 B3 bt nw => ?_⟩
      obtain ⟨j, rfl⟩ := Int.eq_ofNat_of_zero_le r0
      have hj : j < letters.cps.toList.length := by
        have : letters.cps.toList.length = 26 := by decide
        omega
      have h3 : H3 D = some (.lst (ys.map V.str)) := bt _ _ h2 nDb
      refine ⟨letters, _, letters.cps.toList[j], rfl, rfl, by decide, atI_nat (List.getElem?_eq_getElem hj), ys.map V.str, h3, ?_, (d2.trans ⟨B3, bt⟩).put hD nDb nDl, ys ++ [⟨#[letters.cps.toList[j]]⟩], ?_, ?_, ?_⟩
      · rw [List.length_map, hl]; exact small1000 (by omega)
      · rw [upd_same, List.map_append]; rfl
      · rw [List.length_append, hl]; rfl
      · intro y hy2
        rcases List.mem_append.mp hy2 with z | z
        · exact hy y z
        · rw [List.mem_singleton.mp z]
          refine ⟨rfl, fun c hc => ?_⟩
          have : c = letters.cps.toList[j] := List.mem_singleton.mp hc
          rw [this]
          exact decide_eq_true (List.getElem_mem hj)
    · rintro H2 ⟨d2, ys, h2, hl, hy⟩
      obtain ⟨j1, j2⟩ := join_signs hy
      refine ⟨"", D, ys, rfl, rfl, .inl (SqL.of h2), ?_, ?_⟩
      · have : ∀ l : List Str, (∀ y ∈ l, y.length = 1 ∧ AllIn isLet y) → (l.map (·.length)).sum = l.length := by
          intro l
          induction l with
          | nil => intro _; rfl
          | cons a r ih =>
            intro h
            rw [List.map_cons, List.sum_cons, (h a List.mem_cons_self).1, ih fun y hy => h y (List.mem_cons_of_mem _ hy), List.length_cons]
            omega
        rw [this ys hy]
        show ys.length + ys.length * 0 ≤ _
        omega
      · rw [join_eq']
        exact k _ _ (by omega) j2 d2
end
end K02

/-! k02, part e: lists and tuples, listings. -/
namespace K02
open PySem L2 PySem.Spec PyProof.Rows
abbrev sIsList : Stmt := top 2
abbrev sIsListing : Stmt := top 3
/-- is it a list or a tuple -/
def dL : PyData → Bool
  | .list _ => true
  | .tuple _ => true
  | _ => false
/-- how many entries it has -/
def lenD : PyData → Nat
  | .list ds => ds.length
  | .tuple ds => ds.length
  | _ => 0
def listD (lo hi : Int) (d : PyData) : Bool := dL d && (decide (lo ≤ (lenD d : Int)) && decide ((lenD d : Int) ≤ hi))
section
variable {K : PySem.W.Frag} {H : Hp} {x : V} {d : PyData}
theorem kit2 {t a b : Value} {p q : Bool} (h1 : PySem.W.kitOne K t a = some p) (h2 : PySem.W.kitOne K t b = some q) : PySem.W.kitAny K t [a, b] = some (p || q) := by
  cases p <;> cases q <;> simp [PySem.W.kitAny, h1, h2]
theorem Rp.kLT (t : Rp H x d) : ∃ v, TyX K H x v ∧ PySem.W.kitAny K v [.type "list", .type "tuple"] = some (dL d) := by
  cases t with
  | non => exact ⟨_, .base .non, kit2 (kit_ty (r := false) (by decide +kernel)) (kit_ty (r := false) (by decide +kernel))⟩
  | bl b => exact ⟨_, .base (.bl b), kit2 (kit_ty (r := false) (by decide +kernel)) (kit_ty (r := false) (by decide +kernel))⟩
  | int i => exact ⟨_, .base (.int i), kit2 (kit_ty (r := false) (by decide +kernel)) (kit_ty (r := false) (by decide +kernel))⟩
  | str z _ => exact ⟨_, .base (.str z), kit2 (kit_ty (r := false) (by decide +kernel)) (kit_ty (r := false) (by decide +kernel))⟩
  | lst e _ => exact ⟨_, .base (.lst e), kit2 (kit_ty (r := true) (by decide +kernel)) (kit_ty (r := false) (by decide +kernel))⟩
  | tup e _ => exact ⟨_, .base (.tup e), kit2 (kit_ty (r := false) (by decide +kernel)) (kit_ty (r := true) (by decide +kernel))⟩
end
section
variable {P : Program} {w : World} {K : PySem.W.Frag} {mg : Str → Option Value} {base : Heap}
theorem scIsList : FnScope ["thing"] ["thing"] (defScope sIsList) := ⟨rfl, rfl, rfl, by decide +kernel, rfl, by decide +kernel, by decide +kernel⟩
theorem ok_islist {f : Addr} {fd : FuncData} (F : Fun K "is_list" "is_list" sIsList f fd) (N : Nms mg) : FnOk P w K mg base CX0 1 f fd ["thing"] (spTest dL) := by
  refine F.ok scIsList (fun vs H Q E h => ?_) (fun cdv A outer s H vs Q E hr h => ?_)
  · obtain ⟨x, d, rfl, _⟩ := h
    rfl
  · obtain ⟨x, d, rfl, t, k⟩ := h
    refine ⟨_, pss_one (ps_ret (pe_callB call_isiT (by rfl) N.isi (by decide +kernel) (pa_cons (pv 0) (pa_cons (pe_tup (pa_cons (pe_bltn (v := .ty "list") (by rfl) N.list (by decide +kernel) rfl) (pa_cons (pe_bltn (v := .ty "tuple") (by rfl) N.tuple (by decide +kernel) rfl) pa_nil))) pa_nil)))), ?_⟩
    refine ⟨_, rfl, by decide, fun p hp => ?_⟩
    have S : Same H (upd H p (.tup [.ty "list", .ty "tuple"])) := same_new Same.rfl' hp
    obtain ⟨v, ty, e⟩ := (t.mono (Sq.of S)).kLT (K := K)
    exact ⟨x, p, _, v, _, _, rfl, upd_same, .cons (.ty _) (.cons (.ty _) .nil), ty, e, k _ S⟩
/-- is it a list or a tuple with so many entries -/
def spListing : Sp := fun vs H Q _ => ∃ x d lo hi, vs = [x, .int lo, .int hi] ∧ Rp H x d ∧ ∀ H', Same H H' → Q (.bl (listD lo hi d)) H'
theorem Rps.len {H : Hp} : ∀ {vs : List V} {ds : List PyData}, Rps H vs ds → vs.length = ds.length
  | _, _, .nil => rfl
  | _, _, .cons _ r => by rw [List.length_cons, List.length_cons, Rps.len r]
theorem Rp.lenV {K : PySem.W.Frag} {H : Hp} {x : V} {d : PyData} (t : Rp H x d) (e : dL d = true) : LenV K x H (lenD d) := by
  cases t with
  | lst a r => exact .inl ⟨_, .inl (.inl a), (Rps.len r).symm⟩
  | tup a r => exact .inr ⟨_, .inl (.inl a), (Rps.len r).symm⟩
  | _ => cases e
theorem scIsListing : FnScope ["thing", "least", "most"] ["thing", "least", "most"] (defScope sIsListing) := ⟨rfl, rfl, rfl, by decide +kernel, rfl, by decide +kernel, by decide +kernel⟩
theorem ok_islisting {f fl : Addr} {fd fdl : FuncData} (F : Fun K "is_listing" "is_listing" sIsListing f fd) (N : Nms mg) (DL : Df K mg "is_list" sIsList ["thing"] fl fdl) (GL : FnOk P w K mg base CX0 1 fl fdl ["thing"] (spTest dL)) : FnOk P w K mg base CX0 2 f fd ["thing", "least", "most"] spListing := by
  refine F.ok scIsListing (fun vs H Q E h => ?_) (fun cdv A outer s H vs Q E hr h => ?_)
  · obtain ⟨x, d, lo, hi, rfl, _⟩ := h
    rfl
  · obtain ⟨x, d, lo, hi, rfl, t, k⟩ := h
    refine ⟨_, pss_one (ps_ret (pe_and (pe_call GL hr rfl DL.g DL.F.kp DL.b .nil pass0 (pa_cons (pv 0) pa_nil)) (pe_one (pe_chain op_le op_le (pv 1) (pe_callB call_len (by rfl) N.len PySem.boot_len (pa_cons (pv 0) pa_nil)) (pv 2))))), ?_⟩
    refine ⟨_, rfl, x, d, rfl, t, fun H1 S => ⟨_, rfl, ?_⟩⟩
    cases e : dL d with
    | false =>
      refine iteF ?_
      have q : listD lo hi d = false := by unfold listD; rw [e]; rfl
      rw [← q]
      exact k H1 S
    | true =>
      refine iteT ⟨_, rfl, _, rfl, _, _, rfl, (t.mono (Sq.of S)).lenV e, _, _, rfl, rfl, _, rfl, ?_⟩
      have q : listD lo hi d = (decide (lo ≤ (lenD d : Int)) && decide ((lenD d : Int) ≤ hi)) := by unfold listD; rw [e]; rfl
      by_cases h1 : lo ≤ (lenD d : Int)
      · rw [decide_eq_true h1]
        refine iteT ⟨_, rfl, _, _, rfl, rfl, ?_⟩
        rw [decide_eq_true h1] at q
        have q' : decide ((lenD d : Int) ≤ hi) = listD lo hi d := q.symm
        show Q (.bl (decide ((lenD d : Int) ≤ hi))) H1
        rw [q']
        exact k H1 S
      · rw [decide_eq_false h1]
        refine iteF ?_
        rw [decide_eq_false h1] at q
        have q' : false = listD lo hi d := q.symm
        show Q (.bl false) H1
        rw [q']
        exact k H1 S
end
end K02

/-! k02, part f: a comparison with three signs. -/
namespace K02
open PySem L2 PySem.Spec PyProof.Rows
def tChain3 (r r' r'' : R2) (ta tb tc td : TE) : TE := fun σ H Q => ta σ H fun x H1 => tb σ H1 fun y H2 => r x y H2 fun z H3 => ∃ k, z = .bl k ∧ if k = true then tc σ H3 (fun u H4 => r' y u H4 fun z' H5 => ∃ k', z' = .bl k' ∧ if k' = true then td σ H5 (fun q H6 => r'' u q H6 Q) else Q (.bl false) H5) else Q (.bl false) H3
theorem pe_chain3 {X : Cx} {a b c d : Expr} {ta tb tc td : TE} {pos : Pos} {op op' op'' : CmpOp} {r r' r'' : R2} (ho : OpR X (compareOp op) r) (ho' : OpR X (compareOp op') r') (ho'' : OpR X (compareOp op'') r'') (ha : PE X a ta) (hb : PE X b tb) (hc : PE X c tc) (hd : PE X d td)
    (hm : lastMarks [op, op', op''] [b, c, d] = false := by rfl) : PE X (.Compare a [op, op', op''] [b, c, d] pos) (tChain3 r r' r'' ta tb tc td) :=
  ⟨fun pins s σ H Q I h => Compare_chain (thn (ha.run pins s σ H _ I h) fun v s1 ⟨x, H1, I1, r1, q1⟩ =>
    chain_link (thn (hb.run pins s1 σ H1 _ I1 q1) fun u s2 ⟨y, H2, I2, r2, q2⟩ =>
      thn (ho pins s2 σ H2 x y v u _ I2 r1 r2 q2) fun e s3 ⟨z, H3, I3, r3, k, ek, q3⟩ => by
        subst ek
        have r3' : e = .bool k := r3
        subst r3'
        refine wpAny_truthy_bool ?_
        cases k with
        | false => exact ite_ff ⟨V.bl false, H3, I3, rfl, q3⟩
        | true =>
          refine ite_tt (chain_link (thn (hc.run pins s3 σ H3 _ I3 q3) fun u' s4 ⟨y', H4, I4, r4, q4⟩ =>
            thn (ho' pins s4 σ H4 y y' u u' _ I4 r2 r4 q4) fun e' s5 ⟨z', H5, I5, r5, k', ek', q5⟩ => ?_))
          subst ek'
          have r5' : e' = .bool k' := r5
          subst r5'
          refine wpAny_truthy_bool ?_
          cases k' with
          | false => exact ite_ff ⟨V.bl false, H5, I5, rfl, q5⟩
          | true =>
            exact ite_tt (chain_last (thn (hd.run pins s5 σ H5 _ I5 q5) fun w' s6 ⟨y'', H6, I6, r6, q6⟩ => ho'' pins s6 σ H6 y' y'' u' w' Q I6 r4 r6 q6)))
    ) hm⟩
end K02

/-! k02, part g: rows of forms. -/
namespace K02
open PySem L2 PySem.Spec PyProof.Rows
abbrev sIsRow : Stmt := top 22
def atD (d : PyData) (k : Nat) : PyData := match d with
  | .list ds => ds.getD k .none
  | .tuple ds => ds.getD k .none
  | _ => .none
def intD : PyData → Int
  | .int i => i
  | _ => 0
def rowD (d : PyData) : Bool := listD 4 4 d && (dN (atD d 1) && (dN (atD d 2) && (decide (1 ≤ intD (atD d 1)) && (decide (intD (atD d 1) ≤ intD (atD d 2)) && (decide (intD (atD d 2) ≤ 4) && (dL (atD d 3) && decide (0 < lenD (atD d 3))))))))
/-- x is a list or a tuple of these -/
def SqD (H : Hp) (a : Addr) (xs : List V) : Prop := H a = some (.lst xs) ∨ H a = some (.tup xs)
theorem SqD.same {H H' : Hp} {a : Addr} {xs : List V} (s : SqD H a xs) (e : Same H H') : SqD H' a xs := s.imp (e _ _) (e _ _)
theorem SqD.ix {K : PySem.W.Frag} {H : Hp} {a : Addr} {xs : List V} {i : Int} {v : V} {Q : VK} (s : SqD H a xs) (e : atI xs i = some v) (q : Q v H) : rIx K (.ref a) (.int i) H Q := by
  rcases s with s | s
  · exact .inl ⟨a, xs, i, v, rfl, rfl, .inl (.inl s), e, q⟩
  · exact .inr (.inl ⟨a, xs, i, v, rfl, rfl, .inl (.inl s), e, q⟩)
theorem Rp.four {H : Hp} {x : V} {d : PyData} (t : Rp H x d) (e : listD 4 4 d = true) : ∃ a v0 v1 v2 v3, x = .ref a ∧ SqD H a [v0, v1, v2, v3] ∧ Rp H v0 (atD d 0) ∧ Rp H v1 (atD d 1) ∧ Rp H v2 (atD d 2) ∧ Rp H v3 (atD d 3) := by
  have key : ∀ {vs : List V} {ds : List PyData}, Rps H vs ds → ds.length = 4 → ∃ v0 v1 v2 v3, vs = [v0, v1, v2, v3] ∧ Rp H v0 (ds.getD 0 .none) ∧ Rp H v1 (ds.getD 1 .none) ∧ Rp H v2 (ds.getD 2 .none) ∧ Rp H v3 (ds.getD 3 .none) := by
    intro vs ds r n
    cases r with
    | nil => cases n
    | cons r0 r =>
      cases r with
      | nil => cases n
      | cons r1 r =>
        cases r with
        | nil => cases n
        | cons r2 r =>
          cases r with
          | nil => cases n
          | cons r3 r =>
            cases r with
            | nil => exact ⟨_, _, _, _, rfl, r0, r1, r2, r3⟩
            | cons r4 r =>
              simp only [List.length_cons] at n
              omega
  unfold listD at e
  simp only [Bool.and_eq_true, decide_eq_true_eq] at e
  obtain ⟨e1, e2, e3⟩ := e
  cases t with
  | lst a r =>
    obtain ⟨v0, v1, v2, v3, rfl, q⟩ := key r (by simp only [lenD] at e2 e3; omega)
    exact ⟨_, v0, v1, v2, v3, rfl, .inl a, q⟩
  | tup a r =>
    obtain ⟨v0, v1, v2, v3, rfl, q⟩ := key r (by simp only [lenD] at e2 e3; omega)
    exact ⟨_, v0, v1, v2, v3, rfl, .inr a, q⟩
  | _ => cases e1
theorem Rp.num {H : Hp} {x : V} {d : PyData} (t : Rp H x d) (e : dN d = true) : x = .int (intD d) := by
  cases t <;> first | rfl | (cases e)
section
variable {P : Program} {w : World} {K : PySem.W.Frag} {mg : Str → Option Value} {base : Heap}
theorem scIsRow : FnScope ["row"] ["row"] (defScope sIsRow) := ⟨rfl, rfl, rfl, by decide +kernel, rfl, by decide +kernel, by decide +kernel⟩
theorem ok_isrow {f fg fn fl : Addr} {fd fdg fdn fdl : FuncData} (F : Fun K "is_form_row" "is_form_row" sIsRow f fd) (N : Nms mg) (MP : ∃ u, mg "MOST_PARTS" = some u ∧ RelV (.int 4) u)
    (DG : Df K mg "is_listing" sIsListing ["thing", "least", "most"] fg fdg) (GG : FnOk P w K mg base CX0 2 fg fdg ["thing", "least", "most"] spListing) (DN : Df K mg "is_number" sIsNum ["thing"] fn fdn) (GN : FnOk P w K mg base CX0 1 fn fdn ["thing"] spNum)
    (DL : Df K mg "is_list" sIsList ["thing"] fl fdl) (GL : FnOk P w K mg base CX0 1 fl fdl ["thing"] (spTest dL)) : FnOk P w K mg base CX0 3 f fd ["row"] (spTest rowD) := by
  obtain ⟨uP, mP, rP⟩ := MP
  refine F.ok scIsRow (fun vs H Q E h => ?_) (fun cdv A outer s H vs Q E hr h => ?_)
  · obtain ⟨x, d, rfl, _⟩ := h
    rfl
  · obtain ⟨x, d, rfl, t, k⟩ := h
    have r1 := hr.mono (show 1 ≤ 2 by decide)
    refine ⟨_, pss_cons (ps_if (PW.pt (pw_or (pt_not (pt_val (pe_call GG hr rfl DG.g DG.F.kp DG.b .nil pass0 (pa_cons (pv 0) (pa_cons pe_int (pa_cons pe_int pa_nil))))))
        (pw_or (pt_not (pt_val (pe_call GN r1 rfl DN.g DN.F.kp DN.b .nil pass0 (pa_cons (pe_ix ix_seq (pv 0) pe_int (fun _ _ => rfl)) pa_nil))))
        (pw_or1 (pt_not (pt_val (pe_call GN r1 rfl DN.g DN.F.kp DN.b .nil pass0 (pa_cons (pe_ix ix_seq (pv 0) pe_int (fun _ _ => rfl)) pa_nil)))))))) (pss_one (ps_ret pe_bl)) pss_nil)
      (pss_one (ps_ret (pe_and (pe_chain3 op_le op_le op_le pe_int (pe_ix ix_seq (pv 0) pe_int (fun _ _ => rfl)) (pe_ix ix_seq (pv 0) pe_int (fun _ _ => rfl)) (pe_glob rfl mP rP))
        (pe_and (pe_call GL r1 rfl DL.g DL.F.kp DL.b .nil pass0 (pa_cons (pe_ix ix_seq (pv 0) pe_int (fun _ _ => rfl)) pa_nil))
        (pe_one (pe_cmpR op_gt (pe_callB call_len (by rfl) N.len PySem.boot_len (pa_cons (pe_ix ix_seq (pv 0) pe_int (fun _ _ => rfl)) pa_nil)) pe_int (nomark _))))))), ?_⟩
    refine ⟨_, rfl, x, d, 4, 4, rfl, t, fun H1 S1 => ⟨_, rfl, ?_⟩⟩
    cases e0 : listD 4 4 d with
    | false =>
      have q : rowD d = false := by unfold rowD; rw [e0]; rfl
      refine iteT ?_
      show Q (.bl false) H1
      rw [← q]
      exact k H1 S1
    | true =>
      refine iteF ?_
      obtain ⟨a, v0, v1, v2, v3, rfl, sq, t0, t1, t2, t3⟩ := (t.mono (Sq.of S1)).four e0
      refine ⟨_, rfl, sq.ix rfl ⟨v1, _, rfl, t1, _, rfl, ?_⟩⟩
      cases e1 : dN (atD d 1) with
      | false =>
        have q : rowD d = false := by unfold rowD; rw [e0, e1]; rfl
        refine iteT ?_
        show Q (.bl false) H1
        rw [← q]
        exact k H1 S1
      | true =>
        refine iteF ⟨_, rfl, sq.ix rfl ⟨v2, _, rfl, t2, _, rfl, ?_⟩⟩
        cases e2 : dN (atD d 2) with
        | false =>
          have q : rowD d = false := by unfold rowD; rw [e0, e1, e2]; rfl
          refine iteT ?_
          show Q (.bl false) H1
          rw [← q]
          exact k H1 S1
        | true =>
          have q1 := t1.num e1
          have q2 := t2.num e2
          subst q1 q2
          have q : rowD d = (decide (1 ≤ intD (atD d 1)) && (decide (intD (atD d 1) ≤ intD (atD d 2)) && (decide (intD (atD d 2) ≤ 4) && (dL (atD d 3) && decide (0 < lenD (atD d 3)))))) := by unfold rowD; rw [e0, e1, e2]; rfl
          have stop : rowD d = false → Q (.bl false) H1 := fun z => by rw [← z]; exact k H1 S1
          refine iteF ⟨_, rfl, sq.ix rfl ⟨_, _, rfl, rfl, _, rfl, ?_⟩⟩
          by_cases h1 : 1 ≤ intD (atD d 1)
          · rw [decide_eq_true h1]
            refine iteT ⟨_, rfl, sq.ix rfl ⟨_, _, rfl, rfl, _, rfl, ?_⟩⟩
            by_cases h2 : intD (atD d 1) ≤ intD (atD d 2)
            · rw [decide_eq_true h2]
              refine iteT ⟨_, _, rfl, rfl, _, rfl, ?_⟩
              by_cases h3 : intD (atD d 2) ≤ 4
              · rw [decide_eq_true h3]
                refine iteT ⟨_, rfl, sq.ix rfl ⟨v3, _, rfl, t3, fun H2 S2 => ⟨_, rfl, ?_⟩⟩⟩
                rw [decide_eq_true h1, decide_eq_true h2, decide_eq_true h3] at q
                cases e3 : dL (atD d 3) with
                | false =>
                  refine iteF ?_
                  rw [e3] at q
                  have z : false = rowD d := q.symm
                  show Q (.bl false) H2
                  rw [z]
                  exact k H2 (S1.trans S2)
                | true =>
                  refine iteT ⟨_, rfl, (sq.same S2).ix rfl ⟨_, _, rfl, (t3.mono (Sq.of S2)).lenV e3, _, _, rfl, rfl, ?_⟩⟩
                  rw [e3] at q
                  have z : decide ((0 : Int) < (lenD (atD d 3) : Int)) = rowD d := by
                    rw [q]
                    show _ = decide (0 < lenD (atD d 3))
                    by_cases h : 0 < lenD (atD d 3)
                    · rw [decide_eq_true h, decide_eq_true (by omega)]
                    · rw [decide_eq_false h, decide_eq_false (by omega)]
                  show Q (.bl (decide ((0 : Int) < (lenD (atD d 3) : Int)))) H2
                  rw [z]
                  exact k H2 (S1.trans S2)
              · rw [decide_eq_false h3]
                exact iteF (stop (by rw [q, decide_eq_false h3, Bool.false_and, Bool.and_false, Bool.and_false]))
            · rw [decide_eq_false h2]
              exact iteF ⟨_, rfl, iteF (stop (by rw [q, decide_eq_false h2, Bool.false_and, Bool.and_false]))⟩
          · rw [decide_eq_false h1]
            exact iteF ⟨_, rfl, iteF (stop (by rw [q, decide_eq_false h1, Bool.false_and]))⟩
end
end K02

/-! k06, part x: an own error whose __init__ says super().__init__(f'..{place}') and keeps the place. -/
namespace K02X
open PySem PySem.W PySem.Calls PyProof.Rows PySem.HandSPX
abbrev eA (f : Str) (p1 p2 : Pos) : Arguments := { posonlyargs := [], args := [{ arg := "self", annotation := none, pos := p1 }, { arg := f, annotation := none, pos := p2 }], vararg := none, kwonlyargs := [], kw_defaults := [], kwarg := none, defaults := [] }
abbrev eB (f msg : Str) (a1 a2 a3 a4 a5 a6 a7 a8 a9 b1 b2 b3 b4 : Pos) : List Stmt :=
  [.Expr (.Call (.Attribute (.Call (.Name "super" a1) [] [] a2) "__init__" a3) [.JoinedStr [.Constant (.str msg) 0 a4, .FormattedValue (.Name f a5) (-1) none a6] a7] [] a8) a9,
   .Assign [.Attribute (.Name "self" b1) f b2] (.Name f b3) b4]
abbrev eS (f : Str) : Scope := { kind := .function, names := [("self", .local), (f, .local), ("__class__", .free), ("super", .globalImplicit)], isGenerator := false, isCoroutine := false, more := [] }
/-- what the written part says of such an error's class, at C, and of its __init__, at fI -/
structure ErrTxt (prog : Program) (K : Frag) (mg : Str → Option Value) (C fI : Addr) (cn qual f msg : Str) : Prop where
  gC : mg cn = some (.ref C)
  cls : ∃ nm q N bs bm sn sub ab col dd k0 k1 k2 k3 k5, K.lookup C = some (excClassObj nm q C N bs bm true sn sub ab col dd k0 k1 k2 k3 k5 "ValueError.__new__") ∧ refsVE bm = true
  sa : findIn K (.ref C) "__setattr__" = some (some (.builtin "object.__setattr__"))
  ga : findIn K (.ref C) "__getattribute__" = some (some (.builtin "BaseException.__getattribute__"))
  gg : findIn K (.ref C) "__getattr__" = some none
  noN : findIn K (.ref C) f = some none
  iC : findIn K (.ref C) "__init__" = some (some (.ref fI))
  tC : typeIn K (.ref fI) = some (.type "function")
  kC : keepIn K (.ref C) = true
  exC : subIn K (.ref C) (.type "BaseException") = some true
  tyC : typeIn K (.ref C) = some (.type "type")
  hdC : hasDictIn K C = true
  te : exmOne K (.ref C) (.ref C) = some true
  ve : subIn K (.ref C) (.type "ValueError") = some true
  su : ks_superIn K C C "__init__" = some (some (.builtin "ValueError.__init__"))
  me : mroIn K C (.ref C) = some true
  tp : nsIn K cStatics "thirdparty.any" = some none
  gs : mg "super" = none
  fn : ∃ (oc : Value) (od : Option Addr) (doc pm : Value) (an : Option Addr) (cda cc : Addr) (ct : Value) (osl : Array (Option Value)) (p1 p2 a1 a2 a3 a4 a5 a6 a7 a8 a9 b1 b2 b3 b4 : Pos)
    (ccl : Value) (cdd : Option Addr) (vs : Array Value) (ccs : Array (Option Value)) (file : Str) (tf : Tok) (cl : Value) (cld : Option Addr) (csl : Array (Option Value)),
    K.lookup fI = some ⟨oc, od, .func (ksFn "__init__" qual (eA f p1 p2) (eB f msg a1 a2 a3 a4 a5 a6 a7 a8 a9 b1 b2 b3 b4) (eS f) .none .none doc pm an (.ref cda) ct cc), osl⟩ ∧ codeIn K (.ref cda) qual = true ∧
    K.lookup cda = some ⟨ccl, cdd, .fields vs, ccs⟩ ∧ vs[2]? = some (.str file tf) ∧ ((prog.main.file : Str) == file) = true ∧ K.lookup cc = some ⟨cl, cld, .cell (some (.ref C)), csl⟩ ∧ (a3.endLine == a8.line) = true
/-- the text of v in an f-string has at most n signs, whatever comes to the heap -/
def Rep (prog : Program) (w : World) (n : Nat) (h : Heap) (v : Value) : Prop :=
  ∀ (A : Around) (E : Value → Shared → Prop) (Q : Value → Shared → Prop) (s : Shared), (∀ b o, h.get? b = some o → s.heap.get? b = some o) → A.units + 64 < cLine →
    (∀ (z : Str) (tk : Tok) (t' : Nat), z.length ≤ n → Q (.str z tk) { s with toks := t' }) → wpAny (model prog w) A (formatField v Str.empty) Q E s
theorem Rep.keeps {prog : Program} {w : World} {n : Nat} {h h' : Heap} {v : Value} (r : Rep prog w n h v) (k : ∀ b o, h.get? b = some o → h'.get? b = some o) : Rep prog w n h' v :=
  fun A E Q s ks hu hq => r A E Q s (fun b o e => ks b o (k b o e)) hu hq
theorem mc_eq (env : Env) (o : Expr) (n : Str) (a3 a8 : Pos) (e : Expr) (hp : (a3.endLine == a8.line) = true) (hs : starEach [e] env = [(false, eval e env)]) : eval (.Call (.Attribute o n a3) [e] [] a8) env = (do
      let ov ← attributeBase o n env (eval o env)
      standAt a3.atName
      let (f, first) ← holding [ov] (getMethod ov n (do return (← importBound o env).getD true))
      callWith a8 f first (backTo a8 (starEach [e] env)) []) := by
  have h0 : eval (.Call (.Attribute o n a3) [e] [] a8) env = (do
      let ov ← attributeBase o n env (eval o env)
      standAt a3.atName
      methodCall o n a3 a8 env ov 1 (backTo a8 (starEach [e] env)) []) := by first | rfl | with_unfolding_all rfl
  have few : methodCallForm 1 (backTo a8 (starEach [e] env)) [] = true := by rw [hs]; rfl
  have h1 : ∀ ov, methodCall o n a3 a8 env ov 1 (backTo a8 (starEach [e] env)) [] = (do
      let (f, first) ← holding [ov] (getMethod ov n (do return (← importBound o env).getD true))
      callWith a8 f first (backTo a8 (starEach [e] env)) []) := fun ov => by
    unfold methodCall
    rw [few]
    unfold calleeOf methodCallPos
    simp only [hp, Bool.not_true, Bool.false_or, if_true, pure_bind]
  rw [h0]
  simp only [h1]
section
variable {prog : Program} {w : World} {A : Around} {E : Value → Shared → Prop} {h : Heap} {g : Array GenState} {d : Drawn} {t : Nat} {os : OsState}
variable {nm q : Str} {C N : Addr} {bs bm : List Value} {hdct : Bool} {sn : List Str} {sub : List Value} {ab : Bool} {col : Option Bool} {dd : Option Addr} {k0 k1 k2 k3 k5 : Option Value}
/-- ValueError.__init__ bound to an error, called -/
theorem call_mw {u e t0 : Addr} {rest : List Value} {Q : Value → Shared → Prop}
    (hC : h.get? C = some (excClassObj nm q C N bs bm hdct sn sub ab col dd k0 k1 k2 k3 k5 "ValueError.__new__")) (he : h.get? e = some (excO C t0)) (hu : h.get? u = some (kxs_mw "ValueError.__init__" e)) (hl : rest.length ≤ sizeLine)
    (fin : ∀ h' t1, (∀ b o, b ≠ e → h.get? b = some o → h'.get? b = some o) → h'.get? e = some (excO C t1) → Q .none ⟨h', g, d, t, os⟩) :
    wpAny (model prog w) A (call (.ref u) rest) Q E ⟨h, g, d, t, os⟩ := by
  refine wpAny_call (codeAny_of_tree ?_)
  show wpAny _ A.in1 (callAny (.ref u) ⟨rest, []⟩) _ _ _
  simp only [callAny]
  refine wpAny_bind (wpAny_load hu ?_)
  simp only [kxs_mw, show (Value.type "method-wrapper" == Value.type "method" || Value.type "method-wrapper" == Value.type "builtin_function_or_method" || Value.type "method-wrapper" == Value.type "method-wrapper") = true by decide, if_true]
  refine KFB.if_so (by decide) ?_
  refine wpAny_bind (PySem.ESX.check_bound F.excBase_ValueError hC he rfl ?_)
  refine wpAny_bind (wpAny_pure (wpAny_pure ?_))
  refine ⟨Code.quiet_builtin _ (by decide +kernel), codeAny_builtin F.excBase_ValueError.initEntry ?_⟩
  rw [Around.under_plainId F.excBase_ValueError.init.plain _]
  wp_walk
  refine fin _ h.objs.size (fun b o hb ho => ?_) ?_
  · rw [Heap.get?_update_other _ _ (Ne.symm hb)]
    exact Heap.get?_push_of_some _ ho
  · rw [Heap.get?_update_self _ (Heap.get?_push_of_some _ he) rfl]
    rfl
end
/-- what __init__ leaves of a fresh error at x -/
structure Left (f : Str) (h h' : Heap) (x C dx t1 : Addr) (v : Value) : Prop where
  keep : ∀ b o, b ≠ x → h.get? b = some o → h'.get? b = some o
  obj : h'.get? x = some { cls := .ref C, dict := some dx, data := .fields #[.ref t1, .none, .none, .none, .bool false, .none] }
  big : h.objs.size ≤ dx
  ne : dx ≠ x
  ns : h'.Ns1 dx (fun y => if y = f then some v else none)
theorem noClass (f : Str) : ((f : Str) == ("__class__" : Str)) = true ∨ ((f : Str) == ("__class__" : Str)) = false := by cases (f == ("__class__" : Str)) <;> simp
section
variable {prog : Program} {w : World} {A : Around} {R : Result → Shared → Prop} {s : Shared} {K : Frag} {mg : Str → Option Value} {C fI : Addr} {cn qual f msg : Str}
theorem init_of (T : ErrTxt prog K mg C fI cn qual f msg) (hf1 : (f == ("self" : Str)) = false) (hf2 : (f == ("__class__" : Str)) = false) (hf3 : (f == ("super" : Str)) = false) (hf4 : (f == ("__debug__" : Str)) = false) (hm : msg.length ≤ 1000)
    {x t0 : Addr} {v : Value} (X : K.In s.heap) (G : s.heap.Ns mainGlobals mg) (B : ∃ mb, s.heap.Ns builtinsNs mb ∧ mb "super" = some (.type "super")) (hlim : s.heap.NoLimit)
    (hx : s.heap.get? x = some (excO C t0)) (hnx : K.lookup x = none) (hroom : A.depth < recursionLimit) (hun : ∀ env, (A.deeper env).units + 64 < cLine) (htop : (prog.main.scope.names.lookup ("super" : Str)).isSome = false) (rep : Rep prog w 100000 s.heap v)
    (hbd : ∀ doc pm an cda cc ct p1 p2 body, bindArgs (ksFn "__init__" qual (eA f p1 p2) body (eS f) .none .none doc pm an cda ct cc) ⟨[.ref x, v], []⟩ = pure [(("self" : Str), Value.ref x), (f, v)])
    (hq : ∀ h' d' tk dx t1, Left f s.heap h' x C dx t1 v → R (.ok (.ret .none)) { s with heap := h', drawn := d', toks := tk }) :
    codeAny (model prog w) A (.call (.ref fI) ⟨[.ref x, v], []⟩) R s := by
  obtain ⟨oc, od, doc, pm, an, cda, cc, ct, osl, p1, p2, a1, a2, a3, a4, a5, a6, a7, a8, a9, b1, b2, b3, b4, ccl, cdd, vs, ccs, file, tf, cl, cld, csl, ho, hcd, hcda, hvs, hfile, hcell, hps⟩ := T.fn
  obtain ⟨nm, q, N, bs, bm, sn, sub, ab, col, dd, k0, k1, k2, k3, k5, hC, hbm⟩ := T.cls
  obtain ⟨mb, Bn, hmb⟩ := B
  have hcl : clsIn K C = some { name := nm, bases := bs, mro := .ref C :: bm, ns := N, qualname := q, hasDict := true, slotNames := sn, subclasses := sub, abstract := ab, collection := col, hasDel := false } := by
    unfold clsIn
    rw [hC] <;> rfl
  have lk : (eS f).names.lookup f = some .local := by simp [List.lookup, hf1]
  refine ks_codeAny_call_defAt (fd := ksFn "__init__" qual (eA f p1 p2) (eB f msg a1 a2 a3 a4 a5 a6 a7 a8 a9 b1 b2 b3 b4) (eS f) .none .none doc pm an (.ref cda) ct cc) (body := eB f msg a1 a2 a3 a4 a5 a6 a7 a8 a9 b1 b2 b3 b4)
    (binds := [("self", .ref x), (f, v)]) hroom (X _ _ ho) rfl hlim (codeRec_of X hcd) rfl (BindsTo.of_eq ?_) ?_ ?_ (fun h1 hns kp1 => ?_) rfl rfl rfl
  · exact hbd _ _ _ _ _ _ _ _ _
  · intro y hy
    simp only [List.mem_cons, List.not_mem_nil, or_false] at hy
    rcases hy with rfl | rfl | rfl | rfl <;> simp
  · intro y hy
    simp only [List.mem_cons, List.not_mem_nil, or_false] at hy
    rcases hy with rfl | rfl
    · rfl
    · exact lk
  · have ne0 : (("self" : Str) == f) = false := by
      have z : f ≠ ("self" : Str) := by simpa using hf1
      simpa using fun y => z y.symm
    have vs0 : ([(("self" : Str), Value.ref x), (f, v)].reverse).lookup ("self" : Str) = some (.ref x) := by
      show (match ("self" : Str) == f with | true => some v | false => _) = _
      rw [ne0]
      rfl
    have vf : ([(("self" : Str), Value.ref x), (f, v)].reverse).lookup f = some v := by
      show (match f == f with | true => some v | false => _) = _
      rw [beq_self_eq_true]
    have ne1 : (("__class__" : Str) == f) = false := by
      have z : f ≠ ("__class__" : Str) := by simpa using hf2
      simpa using fun y => z y.symm
    have ne2 : (("super" : Str) == f) = false := by
      have z : f ≠ ("super" : Str) := by simpa using hf3
      simpa using fun y => z y.symm
    have kc : (eS f).names.lookup ("__class__" : Str) = some .free := by
      show (match ("__class__" : Str) == "self" with | true => some NameKind.local | false => match ("__class__" : Str) == f with | true => some NameKind.local | false => _) = _
      rw [ne1]
      rfl
    have kl : (eS f).names.lookup ("super" : Str) = some .globalImplicit := by
      show (match ("super" : Str) == "self" with | true => some NameKind.local | false => match ("super" : Str) == f with | true => some NameKind.local | false => _) = _
      rw [ne2]
      rfl
    let env : Env := ksEnv qual (eS f) s.heap.objs.size fI (.ref cda) cc
    have X1 : K.In h1 := X.keeps kp1
    have hx1 := kp1 _ _ hx
    have xC : x ≠ C := fun z => by
      have e := X _ _ hC
      rw [← z, hx] at e
      cases e
    have hC1 := X1 _ _ hC
    show PySem.wpAt _ (A.deeper env) (.func _ env) (execs (_ :: _) env) _ _ _
    refine ks_wpAt_execs_cons (ks_wpAt_Expr_any (ks_wpAt_MethodCall ?_ (mc_eq env _ _ a3 a8 _ hps rfl)) rfl rfl)
    refine ks_wpAt_super_base (env := env) (oc := ⟨ccl, cdd, .fields vs, ccs⟩) kl kc rfl rfl (X1 _ _ ho) rfl rfl rfl (X1 _ _ hcda) rfl hvs hfile htop ?_
    have G1 : h1.Ns mainGlobals mg := G.keeps kp1
    have B1 : h1.Ns builtinsNs mb := Bn.keeps kp1
    refine ks_loadName_global rfl kl (loadGlobal_builtin (env := env) G1 T.gs B1 hmb ⟨rfl, ?_⟩)
    refine wpAny_loadName_free rfl kc rfl ⟨_, X1 _ _ hcell, rfl⟩ ?_
    refine wpAny_loadName_local rfl rfl hns vs0 ?_
    refine ks_wpAny_isType_cls hC1 rfl ⟨rfl, ?_⟩
    refine ks_wpAny_call_super hC1 rfl hx1 rfl (fun c e => by cases e) (looks_mroIn X1 T.me) (fun h2 e2 kp2 => ?_)
    have X2 : K.In h2 := X1.keeps kp2
    have hx2 := kp2 _ _ hx1
    have I2 : InstAt h2 x (excO C t0) C none := ⟨hx2, rfl, rfl, trivial⟩
    have isVE : Looks (model prog w) h2 (isInstance (.ref x) (.type "ValueError")) true := I2.type.andThen (looks_subIn X2 T.ve)
    have su : alongIn K "__init__" (((Value.ref C :: bm).dropWhile (· != .ref C)).drop 1) = some (some (.builtin "ValueError.__init__")) := by
      have z := T.su
      unfold ks_superIn at z
      rw [hcl] at z
      exact z
    have mro2 : Looks (model prog w) h2 (mroOf (.ref C)) (Value.ref C :: bm) := (looks_clsIn X2 hcl).andThen (f := fun cd => pure cd.mro) .now
    refine kxs_getMethod kxs_ValueError e2 (looks_opaque X2 T.tp) mro2 rfl X2 su isVE xC rfl ?_
    have hu3 : (h2.push (kxs_mw "ValueError.__init__" x)).get? h2.objs.size = some (kxs_mw "ValueError.__init__" x) := Heap.get?_push_at rfl rfl
    have kp3 : ∀ b o, h2.get? b = some o → (h2.push (kxs_mw "ValueError.__init__" x)).get? b = some o := fun b o e => Heap.get?_push_of_some _ e
    show wpAny _ _ (callWith a8 (.ref h2.objs.size) [] ((false, eval _ env) :: backTo a8 (starEach [] env)) []) _ _ _
    refine kxs_callWith (i := "ValueError.__init__") (x := x) rfl (evalArgs_plain (spliced_cons ?_))
    -- f'..{thing!r}'
    refine wpAny_JoinedStr ?_
    have ev0 : evalEach [Expr.Constant (Const.str msg) 0 a4, (Expr.Name f a5).FormattedValue (-1) none a6] env = [eval (.Constant (.str msg) 0 a4) env, eval (.FormattedValue (.Name f a5) (-1) none a6) env] := by first | rfl | simp [evalEach]
    rw [ev0]
    have hns3 := (hns.keeps kp2).keeps kp3
    have len0 : (Str.empty ++ msg).length = msg.length := by
      rw [Str.length_append]
      show 0 + msg.length = _
      omega
    have line : (200000 : Nat) ≤ sizeLine := by rw [sizeLine_eq]; decide
    refine wpAny_Constant_str ⟨msg, _, rfl, by rw [len0]; omega, ?_⟩
    refine wpAny_FormattedValue_plain (PySem.ESX.ldL (env := env) hns3 vf ?_ rfl lk hf4)
    refine rep _ _ _ _ (fun b o e => kp3 _ _ (kp2 _ _ (kp1 _ _ e))) (hun _) (fun z tk t4 hz => ?_)
    have X4 : K.In (h2.push (kxs_mw "ValueError.__init__" x)) := X2.keeps kp3
    have lz : (Str.empty ++ msg ++ z).length ≤ sizeLine := by
      rw [Str.length_append, len0]
      omega
    have hx4 := kp3 _ _ hx2
    · refine ⟨z, _, rfl, lz, lz, spliced_nil ⟨hu3, ?_⟩⟩
      refine call_mw (X4 _ _ hC) hx4 hu3 (by show 1 ≤ sizeLine; omega) (fun h5 t1 kp5 hx5 => ?_)
      have X5 : K.In h5 := fun a o e => kp5 a o (fun y => by rw [y, hnx] at e; cases e) (X4 _ _ e)
      have Lx : s.heap.objs.size ≠ x := Nat.ne_of_gt (Heap.lt_size hx)
      have hns5 : h5.Ns env.locals _ := hns3.at (h' := h5) (fun o e => kp5 _ o Lx e)
      show PySem.wpAt _ _ _ (execs [_] env) _ _ _
      refine ks_wpAt_execs_cons (ks_wpAt_Assign_Attr (wpAt_of_wpAny (PySem.ESX.ldL (env := env) hns5 vf ?_ rfl lk hf4)) rfl)
      refine PySem.ESX.ldL (env := env) hns5 vs0 ?_ rfl rfl
      refine set_plain X5 (ox := excO C t1) (od := none) ⟨hx5, rfl, rfl, trivial⟩ T.sa ?_
      refine exc_osa X5 hx5 hcl (show refsVE (.ref C :: bm) = true from hbm) rfl T.noN (fun h6 tk6 dx kp6 dn dne hx6 hn6 => ?_)
      have lt5 : s.heap.objs.size < h5.objs.size := hns5.lt
      show PySem.wpAt _ _ _ (execs [] env) _ _ _
      refine wpAt_of_wpAny (wpAny_execs_nil ?_)
      exact hq h6 _ tk6 dx t1 ⟨fun b o hb e => kp6 b o hb (kp5 b o hb (kp3 _ _ (kp2 _ _ (kp1 _ _ e)))), hx6, Nat.le_trans (Nat.le_of_lt lt5) dn, dne, hn6⟩
end
end K02X

/-! k06, part y: such an error made, raised, and read. -/
namespace K02X
open PySem PySem.W PySem.Calls PyProof.Rows PySem.HandSPX
/-- a made error -/
structure Made (f : Str) (h h' : Heap) (e C d : Addr) (v : Value) : Prop where
  keep : ∀ b o, h.get? b = some o → h'.get? b = some o
  new : h.objs.size ≤ e
  obj : ∃ oe vs, h'.get? e = some oe ∧ oe.cls = .ref C ∧ oe.dict = some d ∧ oe.data = .fields vs ∧ vs[1]? = some .none
  big : h.objs.size ≤ d
  ne : d ≠ e
  ns : h'.Ns1 d (fun y => if y = f then some v else none)
/-- the names that the law's proof needs of a field's name -/
structure FldOk (f msg : Str) : Prop where
  f1 : (f == ("self" : Str)) = false
  f2 : (f == ("__class__" : Str)) = false
  f3 : (f == ("super" : Str)) = false
  f4 : (f == ("__debug__" : Str)) = false
  m : msg.length ≤ 1000
section
variable {prog : Program} {w : World} {A : Around} {R : Result → Shared → Prop} {s : Shared} {K : Frag} {mg : Str → Option Value} {C fI : Addr} {cn qual f msg : Str}
theorem made_of (T : ErrTxt prog K mg C fI cn qual f msg) (O : FldOk f msg) {v : Value} (X : K.In s.heap) (G : s.heap.Ns mainGlobals mg) (B : ∃ mb, s.heap.Ns builtinsNs mb ∧ mb "super" = some (.type "super")) (hlim : s.heap.NoLimit)
    (hroom : A.depth + 1 < recursionLimit) (hun : ∀ us env, ((A.under (.builtin "type.__call__" ⟨.ref C :: us, []⟩)).deeper env).units + 64 < cLine) (htop : (prog.main.scope.names.lookup ("super" : Str)).isSome = false) (rep : Rep prog w 100000 s.heap v)
    (hbd : ∀ x doc pm an cda cc ct p1 p2 body, bindArgs (ksFn "__init__" qual (eA f p1 p2) body (eS f) .none .none doc pm an cda ct cc) ⟨[.ref x, v], []⟩ = pure [(("self" : Str), Value.ref x), (f, v)])
    (hq : ∀ h' d' tk e d, Made f s.heap h' e C d v → R (.ok (.ret (.ref e))) { s with heap := h', drawn := d', toks := tk }) :
    codeAny (model prog w) A (.call (.ref C) ⟨[v], []⟩) R s := by
  obtain ⟨nm, q, N, bs, bm, sn, sub, ab, col, dd, k0, k1, k2, k3, k5, hC, hbm⟩ := T.cls
  obtain ⟨hp, g, dr, tk, os⟩ := s
  have kp : ∀ b o, hp.get? b = some o → ((hp.push (kdv_tup [v])).push (excO C hp.objs.size)).get? b = some o := fun b o e => Heap.get?_push_of_some _ (Heap.get?_push_of_some _ e)
  have at1 : ((hp.push (kdv_tup [v])).push (excO C hp.objs.size)).get? (hp.objs.size + 1) = some (excO C hp.objs.size) := by heap_get
  have hnx : K.lookup (hp.objs.size + 1) = none := by
    cases e : K.lookup (hp.objs.size + 1) with
    | none => rfl
    | some o =>
      have z : hp.get? (hp.objs.size + 1) = some o := X _ _ e
      exact absurd (Nat.lt_of_succ_lt (Heap.lt_size z)) (Nat.lt_irrefl _)
  obtain ⟨mb, Bn, hmb⟩ := B
  refine call_own F.excBase_ValueError (fun X => refsVE_contains X bm hbm) (X _ _ hC) (looks_findIn X T.iC) (fun self => bind_fn X self T.tC) (by show 1 ≤ sizeLine; rw [sizeLine_eq]; decide) ?_
  refine init_of (s := ⟨(hp.push (kdv_tup [v])).push (excO C hp.objs.size), g, dr, tk, os⟩) T O.f1 O.f2 O.f3 O.f4 O.m (X.keeps kp) (G.keeps kp) ⟨mb, Bn.keeps kp, hmb⟩ (hlim.keeps kp) at1 hnx ?_ (hun _) htop (rep.keeps kp) (hbd _) fun h' d' tk' dx t1 ⟨k', hx, dn, dne, hns⟩ => ?_
  · show A.depth + 1 < recursionLimit
    exact hroom
  · have old : ∀ b o, hp.get? b = some o → h'.get? b = some o := fun b o e => k' b o (Nat.ne_of_lt (Nat.lt_succ_of_lt (Heap.lt_size e))) (kp b o e)
    have z : hp.objs.size + 1 + 1 ≤ dx := by
      first
        | (simpa only [Heap.size_push] using dn)
        | exact dn
        | (have q := dn; rw [Heap.size_push, Heap.size_push] at q; exact q)
    exact ⟨rfl, hq h' d' tk' (hp.objs.size + 1) dx ⟨old, Nat.le_succ _, ⟨_, _, hx, rfl, rfl, rfl, rfl⟩, Nat.le_trans (Nat.le_trans (Nat.le_succ _) (Nat.le_succ _)) z, dne, hns⟩⟩
end
end K02X
namespace K02
open PySem L2 PySem.Spec PyProof.Rows K02X
theorem relO_one {v : V} {v' : Value} (n : Str) (r : RelV v v') (f : Str) : RelO (List.lookup f [(n, v)]) (if f = n then some v' else none) := by
  by_cases hw : f = n
  · subst hw
    rw [if_pos rfl]
    have q : List.lookup f [(f, v)] = some v := by simp [List.lookup]
    rw [q]
    exact r
  · rw [if_neg hw]
    have qw : (f == n) = false := by simpa using hw
    have q2 : List.lookup f [(n, v)] = none := by simp [List.lookup, qw]
    rw [q2]
    trivial
theorem inv_drawn {X : Cx} {pins : List (Addr × Obj)} {σ : L2.St} {H : Hp} {s : Shared} (I : Inv X pins σ H s) (d' : Drawn) : Inv X pins σ H { s with drawn := d' } :=
  ⟨I.ok, I.os, I.bare, I.base, I.loc, I.cell, I.free, I.freeC, I.pin, I.hok, I.len⟩
/-- repr of the value is a text, whatever heap holds H -/
def RepV (P : Program) (w : World) (K : PySem.W.Frag) (H : Hp) (x : V) : Prop := ∀ (h : Heap) (u : Value), HOk P w H h → K.In h → RelV x u → Rep P w 100000 h u
section
variable {X : Cx} {C fI : Addr} {cn qual f msg : Str}
/-- Err(e) -/
def tMkE (P : Program) (w : World) (K : PySem.W.Frag) (C : Addr) (f : Str) (ta : TA) : L2.St → Hp → XK → Prop := fun σ H Q => ta σ H fun vs H1 => ∃ v, vs = [v] ∧ RepV P w K H1 v ∧ ∀ d, H1 d = none → Q (.ref C) (some d) (upd H1 d (.xd [(f, v)]))
theorem pmk_err {a : Expr} {ta : TA} {p pos : Pos} {k : Nat} (T : ErrTxt X.prog X.K X.mg C fI cn qual f msg) (O : FldOk f msg) (hr : Room (k + 2) X.A) (htop : (X.prog.main.scope.names.lookup ("super" : Str)).isSome = false)
    (hbd : ∀ x v doc pm an cda cc ct p1 p2 body, bindArgs (PySem.W.ksFn "__init__" qual (eA f p1 p2) body (eS f) .none .none doc pm an cda ct cc) ⟨[.ref x, v], []⟩ = pure [(("self" : Str), Value.ref x), (f, v)])
    (ha : PA X [a] ta) (hg : Gl X cn) (hdb : (cn == ("__debug__" : Str)) = false)
    (he : starEach (a :: []) X.env = (false, eval a X.env) :: starEach [] X.env := by rfl) (hpl : (backTo pos (starEach [] X.env)).any (·.1) = false := by rfl) :
    PMk X (.Call (.Name cn p) [a] [] pos) (tMkE X.prog X.w X.K C f ta) := by
  intro pins s σ H Q I h
  refine wpAny_Call_Name_kw (ld_glob I hg T.gC ?_ hdb)
  refine PySem.W.callWith_K (h₀ := X.base) I.ok.mod.kin T.kC (thn (ha.run pos pins s σ H _ I h) fun us s1 hh => ?_) he hpl
  obtain ⟨vs, H1, I1, r1, v, ev, rp, q1⟩ := hh
  subst ev
  refine ⟨I1.kIn, ?_⟩
  cases r1 with
  | cons rv rn =>
    rename_i v' us'
    cases rn
    show wpAny _ _ (call (.ref C) [v']) _ _ _
    have hlim := I1.nolimit
    have rep := rp s1.heap v' I1.hok I1.kIn rv
    obtain ⟨mb, Bn, hb⟩ := I1.mod.blt
    have hroom : X.A.depth + 1 < recursionLimit := by have := hr.dp; omega
    have hun : ∀ us env, ((X.A.under (.builtin "type.__call__" ⟨.ref C :: us, []⟩)).deeper env).units + 64 < cLine := fun us env => by
      have z : Room (k + 2) X.A := hr
      have z1 : Room (k + 1) (X.A.under (.builtin "type.__call__" ⟨.ref C :: us, []⟩)) := Room.make z C us []
      exact (Room.deeper z1 env).units
    have G := I1.mod.glob.keeps I1.bk
    have B := Bn.keeps I1.bk
    obtain ⟨hp, g, dr, tk, os⟩ := s1
    refine wpAny_call (made_of T O I1.kIn G ⟨mb, B, (hb _ (by decide)).trans (by decide +kernel)⟩ hlim hroom hun htop rep (fun x => hbd x _) fun h' d' tk' e d M => ?_)
    show MkP X pins σ Q (.ref e) ⟨h', g, d', tk', os⟩
    obtain ⟨oe, fv, hoe, hc, hd, hdat, h1⟩ := M.obj
    have hns := M.ns
    obtain ⟨G', g1, g2⟩ := restrict h' fun b => decide (b ≠ e)
    have gk : ∀ b, b ≠ e → G'.get? b = h'.get? b := fun b hb => g1 b (decide_eq_true hb)
    have ge : G'.get? e = none := g2 e (by simp)
    have old : ∀ b o, hp.get? b = some o → G'.get? b = some o := fun b o q => (gk b (Nat.ne_of_lt (Nat.lt_of_lt_of_le (Heap.lt_size q) M.new))).trans (M.keep b o q)
    have ob : ObjOk X.prog X.w (upd H1 d (.xd [(f, v)])) G' d (.xd [(f, v)]) := ⟨_, hns.at (fun o q => (gk d M.ne).trans q), fun n => relO_one f rv n⟩
    have J0 : Inv X pins σ (upd H1 d (.xd [(f, v)])) ⟨G', g, dr, tk', os⟩ := I1.laid (t' := tk') old M.big ob
    have J : Inv X pins σ (upd H1 d (.xd [(f, v)])) ⟨G', g, d', tk', os⟩ := inv_drawn J0 d'
    refine ⟨e, oe, fv, ⟨G', g, d', tk', os⟩, _, .ref C, some d, rfl, J, fun b o q => ?_, ge, hoe, ⟨hc, hd⟩, hdat, h1, ?_, rfl, I1.bare, raises_own T.exC T.tyC, q1 d (I1.hok.fresh M.big)⟩
    · by_cases hb : b = e
      · have q' : G'.get? b = some o := q
        rw [hb, ge] at q'; cases q'
      · exact (gk b hb).symm.trans q
    · rw [upd_ne (Ne.symm M.ne)]
      exact I1.hok.fresh M.new
/-- raise Err(e) -/
def tRaiseE (P : Program) (w : World) (K : PySem.W.Frag) (C : Addr) (f : Str) (W : WX) (ta : TA) : TS := fun _ σ H => tMkE P w K C f ta σ H fun cls d H' => W cls d σ H'
theorem ps_raiseE {a : Expr} {ta : TA} {W : WX} {p pos pos2 : Pos} {k : Nat} (hc : X.calm = true) (T : ErrTxt X.prog X.K X.mg C fI cn qual f msg) (O : FldOk f msg) (hr : Room (k + 2) X.A) (htop : (X.prog.main.scope.names.lookup ("super" : Str)).isSome = false)
    (hbd : ∀ x v doc pm an cda cc ct p1 p2 body, bindArgs (PySem.W.ksFn "__init__" qual (eA f p1 p2) body (eS f) .none .none doc pm an cda ct cc) ⟨[.ref x, v], []⟩ = pure [(("self" : Str), Value.ref x), (f, v)])
    (tk : Takes X W) (ha : PA X [a] ta) (hg : Gl X cn) (hdb : (cn == ("__debug__" : Str)) = false)
    (he : starEach (a :: []) X.env = (false, eval a X.env) :: starEach [] X.env := by rfl) (hpl : (backTo pos (starEach [] X.env)).any (·.1) = false := by rfl) :
    PS X (.Raise (some (.Call (.Name cn p) [a] [] pos)) none pos2) (tRaiseE X.prog X.w X.K C f W ta) := ps_raise hc tk (pmk_err T O hr htop hbd ha hg hdb he hpl)
/-- err.f, err the error that the suite holds (at a; its class cls, its dict d) -/
def tByE (C : Addr) (f : Str) (a : Addr) (cls : Value) (d : Option Addr) (te : TE) : TE := fun σ H Q => te σ H fun x H1 => x = .ref a ∧ cls = .ref C ∧ ∃ (dd : Addr) (v : V), d = some dd ∧ H1 dd = some (.xd [(f, v)]) ∧ Q v H1
theorem pe_byE {a : Addr} {oe : Obj} {cls : Value} {d : Option Addr} {pn : List (Addr × Obj)} {e : Expr} {te : TE} {pos : Pos} (T : ErrTxt X.prog X.K X.mg C fI cn qual f msg) (hz : Zc cls d oe) (hf : ∃ vs, oe.data = .fields vs) (he : PE (X.suite a ((a, oe) :: pn)) e te)
    (hb : attributeBase e f X.env (eval e X.env) = eval e X.env) :
    PE (X.suite a ((a, oe) :: pn)) (.Attribute e f pos) (tByE C f a cls d te) := by
  refine ⟨fun pins s σ H Q I h => ?_⟩
  refine attr_of hb (thn (he.run pins s σ H _ I h) fun u s1 hh => ?_)
  obtain ⟨x, H1, I1, rx, ex, ec, dd, v, ed, ea, q⟩ := hh
  subst ex
  obtain rfl : u = Value.ref a := rx
  subst ec
  subst ed
  obtain ⟨ha, _⟩ := I1.pin (a, oe) (List.mem_append_left _ List.mem_cons_self)
  obtain ⟨vs, hd⟩ := hf
  have hx : ObjOk X.prog X.w H1 s1.heap dd (.xd [(f, v)]) := I1.hok dd _ ea
  obtain ⟨mA, hns, hr⟩ := hx
  obtain ⟨od, ho, hl⟩ := lookIn_ns hns
  have l : List.lookup f [(f, v)] = some v := by simp [List.lookup]
  obtain ⟨u, hu, ru⟩ := RelO.some_of (v := v) (o := mA f) (by rw [← l]; exact hr f)
  have J : PySem.W.InstAt s1.heap a oe C (some od) := ⟨ha, hz.1, by unfold PySem.W.notCls; rw [hd] <;> rfl, by rw [hz.2]; exact ho⟩
  exact HandSPX.exc_get I1.kIn J T.ga T.gg T.exC (PySem.W.findObj_own T.hdC T.noN rfl (by rw [hl, hu])) (handed_of ru) ⟨v, H1, I1.tok _, ru, q⟩
end
end K02

/-! k02, part h: one of two readings. -/
namespace K02
open PySem L2 PySem.Spec PyProof.Rows K02X
theorem pe_either {X : Cx} {e : Expr} {t u : TE} (h1 : PE X e t) (h2 : PE X e u) : PE X e (fun σ H Q => t σ H Q ∨ u σ H Q) :=
  ⟨fun pins s σ H Q I h => h.elim (h1.run pins s σ H Q I) (h2.run pins s σ H Q I)⟩
theorem pi_either {X : Cx} {tg l : Expr} {t u : TI} (h1 : PI X tg l t) (h2 : PI X tg l u) : PI X tg l (fun σ H R => t σ H R ∨ u σ H R) :=
  ⟨fun pins s σ H R I h => h.elim (h1.run pins s σ H R I) (h2.run pins s σ H R I)⟩
theorem rep_str {P : Program} {w : World} {K : PySem.W.Frag} {H : Hp} {z : Str} (hz : z.length ≤ 1000) : RepV P w K H (.str z) := by
  intro h u _ _ rv
  obtain ⟨t, rfl⟩ := rv
  intro A E Q s _ _ hq
  exact wpAny_formatField_str (hq _ _ s.toks (Nat.le_trans hz (by decide))) (hq _ _ _ (Nat.le_trans hz (by decide))) (Nat.le_trans hz (by decide))
end K02

/-! k02, part i: the parts of a stock are looked at. -/
namespace K02
open PySem L2 PySem.Spec PyProof.Rows K02X
abbrev sCheckParts : Stmt := top 21
def itemsD : PyData → List PyData
  | .list ds => ds
  | .tuple ds => ds
  | _ => []
theorem Rps.nth {H : Hp} : ∀ {vs : List V} {ds : List PyData} {i : Nat} {v : V}, Rps H vs ds → vs[i]? = some v → ∃ d, ds[i]? = some d ∧ Rp H v d
  | _, _, 0, v, .cons r0 r, e => ⟨_, rfl, by cases e; exact r0⟩
  | _, _, i + 1, v, .cons r0 r, e => Rps.nth (i := i) r e
/-- the first part of a stock that is none -/
def partsErr (d1 d2 d3 d4 : PyData) : Option Str :=
  if listD 1 5 d1 = false then some ("stuffs" : Str) else if listD 1 4 d2 = false then some ("states" : Str) else if listD 1 4 d3 = false then some ("lands" : Str)
  else if (listD 1 6 d4 && (itemsD d4).all rowD) = false then some ("forms" : Str) else none
def spCheckParts (CS : Addr) : Sp := fun vs H Q E => ∃ x1 x2 x3 x4 d1 d2 d3 d4, vs = [x1, x2, x3, x4] ∧ Rp H x1 d1 ∧ Rp H x2 d2 ∧ Rp H x3 d3 ∧ Rp H x4 d4 ∧ match partsErr d1 d2 d3 d4 with
  | none => ∀ H', Same H H' → Q .non H'
  | some z => ∀ H' dd, Same H H' → H dd = none → H' dd = some (.xd [("part", .str z)]) → E (.ref CS) (some dd) H'
/-- the numbers of the module -/
structure GlbS (mg : Str → Option Value) : Prop where
  stuffs : ∃ u, mg "MOST_STUFFS" = some u ∧ RelV (.int 5) u
  states : ∃ u, mg "MOST_STATES" = some u ∧ RelV (.int 4) u
  lands : ∃ u, mg "MOST_LANDS" = some u ∧ RelV (.int 4) u
  forms : ∃ u, mg "MOST_FORMS" = some u ∧ RelV (.int 6) u
  parts : ∃ u, mg "MOST_PARTS" = some u ∧ RelV (.int 4) u
section
variable {P : Program} {w : World} {K : PySem.W.Frag} {mg : Str → Option Value} {base : Heap}
theorem scCheckParts : FnScope ["stuffs", "states", "lands", "forms", "row"] ["stuffs", "states", "lands", "forms"] (defScope sCheckParts) := ⟨rfl, rfl, rfl, by decide +kernel, rfl, by decide +kernel, by decide +kernel⟩
theorem partO : FldOk "part" "no such part of a stock: " := ⟨rfl, rfl, rfl, rfl, by decide⟩
theorem none_of {H H' : Hp} {a : Addr} (s : Same H H') (n : H' a = none) : H a = none := by
  cases e : H a with
  | none => rfl
  | some u => rw [s _ _ e] at n; cases n
theorem ok_checkparts {f fg fr CS fI : Addr} {fd fdg fdr : FuncData} (F : Fun K "check_parts" "check_parts" sCheckParts f fd) (N : Nms mg) (G : GlbS mg) (htop : (P.main.scope.names.lookup ("super" : Str)).isSome = false) (TB : ErrTxt P K mg CS fI "BadStock" "BadStock.__init__" "part" "no such part of a stock: ")
    (DG : Df K mg "is_listing" sIsListing ["thing", "least", "most"] fg fdg) (GG : FnOk P w K mg base CX0 2 fg fdg ["thing", "least", "most"] spListing) (DR : Df K mg "is_form_row" sIsRow ["row"] fr fdr) (GR : FnOk P w K mg base CX0 3 fr fdr ["row"] (spTest rowD)) :
    FnOk P w K mg base (L2.CX P w) 5 f fd ["stuffs", "states", "lands", "forms"] (spCheckParts CS) := by
  obtain ⟨u1, m1, r1⟩ := G.stuffs
  obtain ⟨u2, m2, r2⟩ := G.states
  obtain ⟨u3, m3, r3⟩ := G.lands
  obtain ⟨u4, m4, r4⟩ := G.forms
  refine F.okX scCheckParts (fun vs H Q E h => ?_) (fun cdv A outer s H vs Q E hr h => ?_)
  · obtain ⟨x1, x2, x3, x4, d1, d2, d3, d4, rfl, _⟩ := h
    rfl
  · obtain ⟨x1, x2, x3, x4, d1, d2, d3, d4, rfl, t1, t2, t3, t4, k⟩ := h
    have nd := scCheckParts.nd
    have hg := hr.mono (show 2 ≤ 4 by decide)
    have hh := hr.mono (show 3 ≤ 4 by decide)
    refine ⟨_, pss_cons (ps_if (pt_not (pt_val (pe_call GG hg rfl DG.g DG.F.kp DG.b .nil pass0 (pa_cons (pv 0) (pa_cons pe_int (pa_cons (pe_glob rfl m1 r1) pa_nil)))))) (pss_one (ps_raiseE (k := 2) rfl TB partO hr htop (by intros; rfl) (takes_of rfl rfl rfl rfl) (pa_cons pe_str pa_nil) rfl rfl)) pss_nil)
      (pss_cons (ps_if (pt_not (pt_val (pe_call GG hg rfl DG.g DG.F.kp DG.b .nil pass0 (pa_cons (pv 1) (pa_cons pe_int (pa_cons (pe_glob rfl m2 r2) pa_nil)))))) (pss_one (ps_raiseE (k := 2) rfl TB partO hr htop (by intros; rfl) (takes_of rfl rfl rfl rfl) (pa_cons pe_str pa_nil) rfl rfl)) pss_nil)
      (pss_cons (ps_if (pt_not (pt_val (pe_call GG hg rfl DG.g DG.F.kp DG.b .nil pass0 (pa_cons (pv 2) (pa_cons pe_int (pa_cons (pe_glob rfl m3 r3) pa_nil)))))) (pss_one (ps_raiseE (k := 2) rfl TB partO hr htop (by intros; rfl) (takes_of rfl rfl rfl rfl) (pa_cons pe_str pa_nil) rfl rfl)) pss_nil)
      (pss_one (ps_if (PW.pt (pw_or (pt_not (pt_val (pe_call GG hg rfl DG.g DG.F.kp DG.b .nil pass0 (pa_cons (pv 3) (pa_cons pe_int (pa_cons (pe_glob rfl m4 r4) pa_nil))))))
        (pw_or1 (pt_not (pt_val (pe_callB (cr_all rfl) (by rfl) N.all (by decide +kernel) (pa_cons
          (pe_lc (own := [("row", 4)]) (g := gName 4) (tt := tYes) rfl nd (pi_either (pi_list (pv 3)) (pi_tup (pv 3))) (blkOk_by (N := ["stuffs", "states", "lands", "forms", "row"]) (sc := defScope sCheckParts) (by decide +kernel)) (fun _ _ _ _ _ => pg_name (i := 4) nd rfl (Or.inl rfl)) (fun _ _ _ _ _ => pts_nil)
            (fun _ _ _ _ _ => pe_call GR hh rfl DR.g DR.F.kp DR.b .nil pass0 (pa_cons (pv 4) pa_nil))) pa_nil))))))) (pss_one (ps_raiseE (k := 2) rfl TB partO hr htop (by intros; rfl) (takes_of rfl rfl rfl rfl) (pa_cons pe_str pa_nil) rfl rfl)) pss_nil)))), ?_⟩
    refine ⟨_, rfl, x1, d1, 1, 5, rfl, t1, fun H1 s1 => ⟨_, rfl, ?_⟩⟩
    cases e1 : listD 1 5 d1 with
    | false =>
      refine iteT ⟨_, rfl, rep_str (by decide), fun dd hd => ?_⟩
      have q : partsErr d1 d2 d3 d4 = some ("stuffs" : Str) := by unfold partsErr; rw [if_pos e1]
      rw [q] at k
      exact k _ dd (same_new s1 hd) (none_of s1 hd) upd_same
    | true =>
      refine iteF ⟨_, rfl, x2, d2, 1, 4, rfl, t2.mono (Sq.of s1), fun H2 s2' => ⟨_, rfl, ?_⟩⟩
      have s2 := s1.trans s2'
      cases e2 : listD 1 4 d2 with
      | false =>
        refine iteT ⟨_, rfl, rep_str (by decide), fun dd hd => ?_⟩
        have q : partsErr d1 d2 d3 d4 = some ("states" : Str) := by unfold partsErr; rw [e1, if_neg (by decide), if_pos e2]
        rw [q] at k
        exact k _ dd (same_new s2 hd) (none_of s2 hd) upd_same
      | true =>
        refine iteF ⟨_, rfl, x3, d3, 1, 4, rfl, t3.mono (Sq.of s2), fun H3 s3' => ⟨_, rfl, ?_⟩⟩
        have s3 := s2.trans s3'
        cases e3 : listD 1 4 d3 with
        | false =>
          refine iteT ⟨_, rfl, rep_str (by decide), fun dd hd => ?_⟩
          have q : partsErr d1 d2 d3 d4 = some ("lands" : Str) := by unfold partsErr; rw [e1, e2, if_neg (by decide), if_neg (by decide), if_pos e3]
          rw [q] at k
          exact k _ dd (same_new s3 hd) (none_of s3 hd) upd_same
        | true =>
        refine iteF ⟨_, rfl, x4, d4, 1, 6, rfl, t4.mono (Sq.of s3), fun H4 s4' => ⟨_, rfl, ?_⟩⟩
        have s4 := s3.trans s4'
        have q4 : partsErr d1 d2 d3 d4 = if (listD 1 6 d4 && (itemsD d4).all rowD) = false then some ("forms" : Str) else none := by unfold partsErr; rw [e1, e2, e3, if_neg (by decide), if_neg (by decide), if_neg (by decide)]
        have bad : (listD 1 6 d4 && (itemsD d4).all rowD) = false → ∀ H5 dd, Same H H5 → H5 dd = none → E (.ref CS) (some dd) (upd H5 dd (.xd [("part", .str "forms")])) := fun z H5 dd s5 hd => by
          rw [q4, if_pos z] at k
          exact k _ dd (same_new s5 hd) (none_of s5 hd) upd_same
        cases e4 : listD 1 6 d4 with
        | false =>
          refine iteT ⟨_, rfl, rep_str (by decide), fun dd hd => ?_⟩
          exact bad (by rw [e4]; rfl) _ dd s4 hd
        | true =>
          refine iteF ?_
          have t4' := t4.mono (Sq.of s4)
          have small : (itemsD d4).length ≤ 6 := by
            have e4' := e4
            unfold listD at e4'
            simp only [Bool.and_eq_true, decide_eq_true_eq] at e4'
            obtain ⟨z1, _, z3⟩ := e4'
            cases d4 <;> first | (cases z1; done) | (simp only [lenD] at z3; show _ ≤ 6; simp only [itemsD]; omega)
          cases t4' with
          | @lst a xs ds ha r =>
            refine .inl ⟨_, rfl, a, rfl, ⟨_, SqL.of ha⟩, fun D hD => ?_⟩
            have sD : Same H4 (upd H4 D (.lst [])) := same_new Same.rfl' hD
            have hl : xs.length = ds.length := Rps.len r
            refine lc_it (walk_list (K := K) (a := a) (xs := xs)) (fun i H5 => Same H4 H5 ∧ H5 D = some (.lst ((ds.take i).map fun d => .bl (rowD d)))) ⟨sD, upd_same⟩ (fun _ _ _ h => SqL.of (h.1 _ _ ha)) ?_ ?_
            · rintro i x H5 H6 hi ⟨s5, d5⟩ ⟨rfl, hx⟩
              obtain ⟨d, hd, rd⟩ := r.nth hx
              have hz : (ds.take (i + 1)).map (fun d => V.bl (rowD d)) = (ds.take i).map (fun d => V.bl (rowD d)) ++ [.bl (rowD d)] := by
                rw [List.take_add_one, hd, List.map_append]
                rfl
              refine ⟨rfl, yesT ⟨_, rfl, x, d, rfl, rd.mono (Sq.of s5), fun H7 s7 => ⟨_, s7 _ _ d5, ?_, same_put (s5.trans s7) hD, ?_⟩⟩⟩
              · rw [List.length_map, List.length_take]
                have sm : ds.length ≤ 6 := small
                exact small1000 (by omega)
              · rw [upd_same]
                exact congrArg (fun l => some (HO.lst l)) hz.symm
            · rintro H5 ⟨s5, d5⟩
              refine ⟨D, ds.map rowD, rfl, SqL.of ?_, _, rfl, ?_⟩
              · rw [d5, List.take_of_length_le (Nat.le_of_eq hl.symm), List.map_map]
                rfl
              · have ea : (ds.map rowD).all id = ds.all rowD := by rw [List.all_map]; rfl
                rw [ea]
                cases ea2 : ds.all rowD with
                | false => exact iteT ⟨_, rfl, rep_str (by decide), fun dd hd => bad (by rw [e4]; exact ea2) _ dd (s4.trans s5) hd⟩
                | true =>
                  refine iteF ?_
                  rw [q4, if_neg (by rw [e4]; show ¬ ds.all rowD = false; rw [ea2]; decide)] at k
                  exact k _ (s4.trans s5)
          | @tup a xs ds ha r =>
            refine .inr ⟨_, rfl, a, rfl, ⟨_, SqT.of ha⟩, fun D hD => ?_⟩
            have sD : Same H4 (upd H4 D (.lst [])) := same_new Same.rfl' hD
            have hl : xs.length = ds.length := Rps.len r
            refine lc_it (walk_tup (K := K) (a := a) (xs := xs)) (fun i H5 => Same H4 H5 ∧ H5 D = some (.lst ((ds.take i).map fun d => .bl (rowD d)))) ⟨sD, upd_same⟩ (fun _ _ _ h => SqT.of (h.1 _ _ ha)) ?_ ?_
            · rintro i x H5 H6 hi ⟨s5, d5⟩ ⟨rfl, hx⟩
              obtain ⟨d, hd, rd⟩ := r.nth hx
              have hz : (ds.take (i + 1)).map (fun d => V.bl (rowD d)) = (ds.take i).map (fun d => V.bl (rowD d)) ++ [.bl (rowD d)] := by
                rw [List.take_add_one, hd, List.map_append]
                rfl
              refine ⟨rfl, yesT ⟨_, rfl, x, d, rfl, rd.mono (Sq.of s5), fun H7 s7 => ⟨_, s7 _ _ d5, ?_, same_put (s5.trans s7) hD, ?_⟩⟩⟩
              · rw [List.length_map, List.length_take]
                have sm : ds.length ≤ 6 := small
                exact small1000 (by omega)
              · rw [upd_same]
                exact congrArg (fun l => some (HO.lst l)) hz.symm
            · rintro H5 ⟨s5, d5⟩
              refine ⟨D, ds.map rowD, rfl, SqL.of ?_, _, rfl, ?_⟩
              · rw [d5, List.take_of_length_le (Nat.le_of_eq hl.symm), List.map_map]
                rfl
              · have ea : (ds.map rowD).all id = ds.all rowD := by rw [List.all_map]; rfl
                rw [ea]
                cases ea2 : ds.all rowD with
                | false => exact iteT ⟨_, rfl, rep_str (by decide), fun dd hd => bad (by rw [e4]; exact ea2) _ dd (s4.trans s5) hd⟩
                | true =>
                  refine iteF ?_
                  rw [q4, if_neg (by rw [e4]; show ¬ ds.all rowD = false; rw [ea2]; decide)] at k
                  exact k _ (s4.trans s5)
          | _ => cases e4
end
end K02

/-! k01, part x: an own error whose __init__ says super().__init__(f'..{thing!r}') and keeps the thing. -/
namespace K02R
open PySem PySem.W PySem.Calls PyProof.Rows PySem.HandSPX
abbrev eA (f : Str) (p1 p2 : Pos) : Arguments := { posonlyargs := [], args := [{ arg := "self", annotation := none, pos := p1 }, { arg := f, annotation := none, pos := p2 }], vararg := none, kwonlyargs := [], kw_defaults := [], kwarg := none, defaults := [] }
abbrev eB (f msg : Str) (a1 a2 a3 a4 a5 a6 a7 a8 a9 b1 b2 b3 b4 : Pos) : List Stmt :=
  [.Expr (.Call (.Attribute (.Call (.Name "super" a1) [] [] a2) "__init__" a3) [.JoinedStr [.Constant (.str msg) 0 a4, .FormattedValue (.Name f a5) 114 none a6] a7] [] a8) a9,
   .Assign [.Attribute (.Name "self" b1) f b2] (.Name f b3) b4]
abbrev eS (f : Str) : Scope := { kind := .function, names := [("self", .local), (f, .local), ("__class__", .free), ("super", .globalImplicit)], isGenerator := false, isCoroutine := false, more := [] }
/-- what the written part says of such an error's class, at C, and of its __init__, at fI -/
structure ErrTxt (prog : Program) (K : Frag) (mg : Str → Option Value) (C fI : Addr) (cn qual f msg : Str) : Prop where
  gC : mg cn = some (.ref C)
  cls : ∃ nm q N bs bm sn sub ab col dd k0 k1 k2 k3 k5, K.lookup C = some (excClassObj nm q C N bs bm true sn sub ab col dd k0 k1 k2 k3 k5 "ValueError.__new__") ∧ refsVE bm = true
  sa : findIn K (.ref C) "__setattr__" = some (some (.builtin "object.__setattr__"))
  ga : findIn K (.ref C) "__getattribute__" = some (some (.builtin "BaseException.__getattribute__"))
  gg : findIn K (.ref C) "__getattr__" = some none
  noN : findIn K (.ref C) f = some none
  iC : findIn K (.ref C) "__init__" = some (some (.ref fI))
  tC : typeIn K (.ref fI) = some (.type "function")
  kC : keepIn K (.ref C) = true
  exC : subIn K (.ref C) (.type "BaseException") = some true
  tyC : typeIn K (.ref C) = some (.type "type")
  hdC : hasDictIn K C = true
  te : exmOne K (.ref C) (.ref C) = some true
  ve : subIn K (.ref C) (.type "ValueError") = some true
  su : ks_superIn K C C "__init__" = some (some (.builtin "ValueError.__init__"))
  me : mroIn K C (.ref C) = some true
  tp : nsIn K cStatics "thirdparty.any" = some none
  gs : mg "super" = none
  fn : ∃ (oc : Value) (od : Option Addr) (doc pm : Value) (an : Option Addr) (cda cc : Addr) (ct : Value) (osl : Array (Option Value)) (p1 p2 a1 a2 a3 a4 a5 a6 a7 a8 a9 b1 b2 b3 b4 : Pos)
    (ccl : Value) (cdd : Option Addr) (vs : Array Value) (ccs : Array (Option Value)) (file : Str) (tf : Tok) (cl : Value) (cld : Option Addr) (csl : Array (Option Value)),
    K.lookup fI = some ⟨oc, od, .func (ksFn "__init__" qual (eA f p1 p2) (eB f msg a1 a2 a3 a4 a5 a6 a7 a8 a9 b1 b2 b3 b4) (eS f) .none .none doc pm an (.ref cda) ct cc), osl⟩ ∧ codeIn K (.ref cda) qual = true ∧
    K.lookup cda = some ⟨ccl, cdd, .fields vs, ccs⟩ ∧ vs[2]? = some (.str file tf) ∧ ((prog.main.file : Str) == file) = true ∧ K.lookup cc = some ⟨cl, cld, .cell (some (.ref C)), csl⟩ ∧ (a3.endLine == a8.line) = true
/-- repr(v) gives a text of at most n signs, whatever comes to the heap -/
def Rep (prog : Program) (w : World) (n : Nat) (h : Heap) (v : Value) : Prop :=
  ∀ (A : Around) (E : Value → Shared → Prop) (Q : Value → Shared → Prop) (s : Shared), (∀ b o, h.get? b = some o → s.heap.get? b = some o) → A.units + 64 < cLine →
    (∀ (z : Str) (tk : Tok) (h' : Heap) (d' : Drawn) (t' : Nat), z.length ≤ n → (∀ b o, s.heap.get? b = some o → h'.get? b = some o) → Q (.str z tk) { s with heap := h', drawn := d', toks := t' }) →
    wpAny (model prog w) A (pyReprObj v) Q E s
theorem Rep.keeps {prog : Program} {w : World} {n : Nat} {h h' : Heap} {v : Value} (r : Rep prog w n h v) (k : ∀ b o, h.get? b = some o → h'.get? b = some o) : Rep prog w n h' v :=
  fun A E Q s ks hu hq => r A E Q s (fun b o e => ks b o (k b o e)) hu hq
theorem mc_eq (env : Env) (o : Expr) (n : Str) (a3 a8 : Pos) (e : Expr) (hp : (a3.endLine == a8.line) = true) (hs : starEach [e] env = [(false, eval e env)]) : eval (.Call (.Attribute o n a3) [e] [] a8) env = (do
      let ov ← attributeBase o n env (eval o env)
      standAt a3.atName
      let (f, first) ← holding [ov] (getMethod ov n (do return (← importBound o env).getD true))
      callWith a8 f first (backTo a8 (starEach [e] env)) []) := by
  have h0 : eval (.Call (.Attribute o n a3) [e] [] a8) env = (do
      let ov ← attributeBase o n env (eval o env)
      standAt a3.atName
      methodCall o n a3 a8 env ov 1 (backTo a8 (starEach [e] env)) []) := by first | rfl | with_unfolding_all rfl
  have few : methodCallForm 1 (backTo a8 (starEach [e] env)) [] = true := by rw [hs]; rfl
  have h1 : ∀ ov, methodCall o n a3 a8 env ov 1 (backTo a8 (starEach [e] env)) [] = (do
      let (f, first) ← holding [ov] (getMethod ov n (do return (← importBound o env).getD true))
      callWith a8 f first (backTo a8 (starEach [e] env)) []) := fun ov => by
    unfold methodCall
    rw [few]
    unfold calleeOf methodCallPos
    simp only [hp, Bool.not_true, Bool.false_or, if_true, pure_bind]
  rw [h0]
  simp only [h1]
section
variable {prog : Program} {w : World} {A : Around} {E : Value → Shared → Prop} {h : Heap} {g : Array GenState} {d : Drawn} {t : Nat} {os : OsState}
variable {nm q : Str} {C N : Addr} {bs bm : List Value} {hdct : Bool} {sn : List Str} {sub : List Value} {ab : Bool} {col : Option Bool} {dd : Option Addr} {k0 k1 k2 k3 k5 : Option Value}
/-- ValueError.__init__ bound to an error, called -/
theorem call_mw {u e t0 : Addr} {rest : List Value} {Q : Value → Shared → Prop}
    (hC : h.get? C = some (excClassObj nm q C N bs bm hdct sn sub ab col dd k0 k1 k2 k3 k5 "ValueError.__new__")) (he : h.get? e = some (excO C t0)) (hu : h.get? u = some (kxs_mw "ValueError.__init__" e)) (hl : rest.length ≤ sizeLine)
    (fin : ∀ h' t1, (∀ b o, b ≠ e → h.get? b = some o → h'.get? b = some o) → h'.get? e = some (excO C t1) → Q .none ⟨h', g, d, t, os⟩) :
    wpAny (model prog w) A (call (.ref u) rest) Q E ⟨h, g, d, t, os⟩ := by
  refine wpAny_call (codeAny_of_tree ?_)
  show wpAny _ A.in1 (callAny (.ref u) ⟨rest, []⟩) _ _ _
  simp only [callAny]
  refine wpAny_bind (wpAny_load hu ?_)
  simp only [kxs_mw, show (Value.type "method-wrapper" == Value.type "method" || Value.type "method-wrapper" == Value.type "builtin_function_or_method" || Value.type "method-wrapper" == Value.type "method-wrapper") = true by decide, if_true]
  refine KFB.if_so (by decide) ?_
  refine wpAny_bind (PySem.ESX.check_bound F.excBase_ValueError hC he rfl ?_)
  refine wpAny_bind (wpAny_pure (wpAny_pure ?_))
  refine ⟨Code.quiet_builtin _ (by decide +kernel), codeAny_builtin F.excBase_ValueError.initEntry ?_⟩
  rw [Around.under_plainId F.excBase_ValueError.init.plain _]
  wp_walk
  refine fin _ h.objs.size (fun b o hb ho => ?_) ?_
  · rw [Heap.get?_update_other _ _ (Ne.symm hb)]
    exact Heap.get?_push_of_some _ ho
  · rw [Heap.get?_update_self _ (Heap.get?_push_of_some _ he) rfl]
    rfl
end
/-- what __init__ leaves of a fresh error at x -/
structure Left (f : Str) (h h' : Heap) (x C dx t1 : Addr) (v : Value) : Prop where
  keep : ∀ b o, b ≠ x → h.get? b = some o → h'.get? b = some o
  obj : h'.get? x = some { cls := .ref C, dict := some dx, data := .fields #[.ref t1, .none, .none, .none, .bool false, .none] }
  big : h.objs.size ≤ dx
  ne : dx ≠ x
  ns : h'.Ns1 dx (fun y => if y = f then some v else none)
theorem noClass (f : Str) : ((f : Str) == ("__class__" : Str)) = true ∨ ((f : Str) == ("__class__" : Str)) = false := by cases (f == ("__class__" : Str)) <;> simp
section
variable {prog : Program} {w : World} {A : Around} {R : Result → Shared → Prop} {s : Shared} {K : Frag} {mg : Str → Option Value} {C fI : Addr} {cn qual f msg : Str}
theorem init_of (T : ErrTxt prog K mg C fI cn qual f msg) (hf1 : (f == ("self" : Str)) = false) (hf2 : (f == ("__class__" : Str)) = false) (hf3 : (f == ("super" : Str)) = false) (hf4 : (f == ("__debug__" : Str)) = false) (hm : msg.length ≤ 1000)
    {x t0 : Addr} {v : Value} (X : K.In s.heap) (G : s.heap.Ns mainGlobals mg) (B : ∃ mb, s.heap.Ns builtinsNs mb ∧ mb "super" = some (.type "super")) (hlim : s.heap.NoLimit)
    (hx : s.heap.get? x = some (excO C t0)) (hnx : K.lookup x = none) (hroom : A.depth < recursionLimit) (hun : ∀ env, (A.deeper env).units + 64 < cLine) (htop : (prog.main.scope.names.lookup ("super" : Str)).isSome = false) (rep : Rep prog w 100000 s.heap v)
    (hbd : ∀ doc pm an cda cc ct p1 p2 body, bindArgs (ksFn "__init__" qual (eA f p1 p2) body (eS f) .none .none doc pm an cda ct cc) ⟨[.ref x, v], []⟩ = pure [(("self" : Str), Value.ref x), (f, v)])
    (hq : ∀ h' d' tk dx t1, Left f s.heap h' x C dx t1 v → R (.ok (.ret .none)) { s with heap := h', drawn := d', toks := tk }) :
    codeAny (model prog w) A (.call (.ref fI) ⟨[.ref x, v], []⟩) R s := by
  obtain ⟨oc, od, doc, pm, an, cda, cc, ct, osl, p1, p2, a1, a2, a3, a4, a5, a6, a7, a8, a9, b1, b2, b3, b4, ccl, cdd, vs, ccs, file, tf, cl, cld, csl, ho, hcd, hcda, hvs, hfile, hcell, hps⟩ := T.fn
  obtain ⟨nm, q, N, bs, bm, sn, sub, ab, col, dd, k0, k1, k2, k3, k5, hC, hbm⟩ := T.cls
  obtain ⟨mb, Bn, hmb⟩ := B
  have hcl : clsIn K C = some { name := nm, bases := bs, mro := .ref C :: bm, ns := N, qualname := q, hasDict := true, slotNames := sn, subclasses := sub, abstract := ab, collection := col, hasDel := false } := by
    unfold clsIn
    rw [hC] <;> rfl
  have lk : (eS f).names.lookup f = some .local := by simp [List.lookup, hf1]
  refine ks_codeAny_call_defAt (fd := ksFn "__init__" qual (eA f p1 p2) (eB f msg a1 a2 a3 a4 a5 a6 a7 a8 a9 b1 b2 b3 b4) (eS f) .none .none doc pm an (.ref cda) ct cc) (body := eB f msg a1 a2 a3 a4 a5 a6 a7 a8 a9 b1 b2 b3 b4)
    (binds := [("self", .ref x), (f, v)]) hroom (X _ _ ho) rfl hlim (codeRec_of X hcd) rfl (BindsTo.of_eq ?_) ?_ ?_ (fun h1 hns kp1 => ?_) rfl rfl rfl
  · exact hbd _ _ _ _ _ _ _ _ _
  · intro y hy
    simp only [List.mem_cons, List.not_mem_nil, or_false] at hy
    rcases hy with rfl | rfl | rfl | rfl <;> simp
  · intro y hy
    simp only [List.mem_cons, List.not_mem_nil, or_false] at hy
    rcases hy with rfl | rfl
    · rfl
    · exact lk
  · have ne0 : (("self" : Str) == f) = false := by
      have z : f ≠ ("self" : Str) := by simpa using hf1
      simpa using fun y => z y.symm
    have vs0 : ([(("self" : Str), Value.ref x), (f, v)].reverse).lookup ("self" : Str) = some (.ref x) := by
      show (match ("self" : Str) == f with | true => some v | false => _) = _
      rw [ne0]
      rfl
    have vf : ([(("self" : Str), Value.ref x), (f, v)].reverse).lookup f = some v := by
      show (match f == f with | true => some v | false => _) = _
      rw [beq_self_eq_true]
    have ne1 : (("__class__" : Str) == f) = false := by
      have z : f ≠ ("__class__" : Str) := by simpa using hf2
      simpa using fun y => z y.symm
    have ne2 : (("super" : Str) == f) = false := by
      have z : f ≠ ("super" : Str) := by simpa using hf3
      simpa using fun y => z y.symm
    have kc : (eS f).names.lookup ("__class__" : Str) = some .free := by
      show (match ("__class__" : Str) == "self" with | true => some NameKind.local | false => match ("__class__" : Str) == f with | true => some NameKind.local | false => _) = _
      rw [ne1]
      rfl
    have kl : (eS f).names.lookup ("super" : Str) = some .globalImplicit := by
      show (match ("super" : Str) == "self" with | true => some NameKind.local | false => match ("super" : Str) == f with | true => some NameKind.local | false => _) = _
      rw [ne2]
      rfl
    let env : Env := ksEnv qual (eS f) s.heap.objs.size fI (.ref cda) cc
    have X1 : K.In h1 := X.keeps kp1
    have hx1 := kp1 _ _ hx
    have xC : x ≠ C := fun z => by
      have e := X _ _ hC
      rw [← z, hx] at e
      cases e
    have hC1 := X1 _ _ hC
    show PySem.wpAt _ (A.deeper env) (.func _ env) (execs (_ :: _) env) _ _ _
    refine ks_wpAt_execs_cons (ks_wpAt_Expr_any (ks_wpAt_MethodCall ?_ (mc_eq env _ _ a3 a8 _ hps rfl)) rfl rfl)
    refine ks_wpAt_super_base (env := env) (oc := ⟨ccl, cdd, .fields vs, ccs⟩) kl kc rfl rfl (X1 _ _ ho) rfl rfl rfl (X1 _ _ hcda) rfl hvs hfile htop ?_
    have G1 : h1.Ns mainGlobals mg := G.keeps kp1
    have B1 : h1.Ns builtinsNs mb := Bn.keeps kp1
    refine ks_loadName_global rfl kl (loadGlobal_builtin (env := env) G1 T.gs B1 hmb ⟨rfl, ?_⟩)
    refine wpAny_loadName_free rfl kc rfl ⟨_, X1 _ _ hcell, rfl⟩ ?_
    refine wpAny_loadName_local rfl rfl hns vs0 ?_
    refine ks_wpAny_isType_cls hC1 rfl ⟨rfl, ?_⟩
    refine ks_wpAny_call_super hC1 rfl hx1 rfl (fun c e => by cases e) (looks_mroIn X1 T.me) (fun h2 e2 kp2 => ?_)
    have X2 : K.In h2 := X1.keeps kp2
    have hx2 := kp2 _ _ hx1
    have I2 : InstAt h2 x (excO C t0) C none := ⟨hx2, rfl, rfl, trivial⟩
    have isVE : Looks (model prog w) h2 (isInstance (.ref x) (.type "ValueError")) true := I2.type.andThen (looks_subIn X2 T.ve)
    have su : alongIn K "__init__" (((Value.ref C :: bm).dropWhile (· != .ref C)).drop 1) = some (some (.builtin "ValueError.__init__")) := by
      have z := T.su
      unfold ks_superIn at z
      rw [hcl] at z
      exact z
    have mro2 : Looks (model prog w) h2 (mroOf (.ref C)) (Value.ref C :: bm) := (looks_clsIn X2 hcl).andThen (f := fun cd => pure cd.mro) .now
    refine kxs_getMethod kxs_ValueError e2 (looks_opaque X2 T.tp) mro2 rfl X2 su isVE xC rfl ?_
    have hu3 : (h2.push (kxs_mw "ValueError.__init__" x)).get? h2.objs.size = some (kxs_mw "ValueError.__init__" x) := Heap.get?_push_at rfl rfl
    have kp3 : ∀ b o, h2.get? b = some o → (h2.push (kxs_mw "ValueError.__init__" x)).get? b = some o := fun b o e => Heap.get?_push_of_some _ e
    show wpAny _ _ (callWith a8 (.ref h2.objs.size) [] ((false, eval _ env) :: backTo a8 (starEach [] env)) []) _ _ _
    refine kxs_callWith (i := "ValueError.__init__") (x := x) rfl (evalArgs_plain (spliced_cons ?_))
    -- f'..{thing!r}'
    refine wpAny_JoinedStr ?_
    have ev0 : evalEach [Expr.Constant (Const.str msg) 0 a4, (Expr.Name f a5).FormattedValue 114 none a6] env = [eval (.Constant (.str msg) 0 a4) env, eval (.FormattedValue (.Name f a5) 114 none a6) env] := by first | rfl | simp [evalEach]
    rw [ev0]
    have hns3 := (hns.keeps kp2).keeps kp3
    have len0 : (Str.empty ++ msg).length = msg.length := by
      rw [Str.length_append]
      show 0 + msg.length = _
      omega
    have line : (200000 : Nat) ≤ sizeLine := by rw [sizeLine_eq]; decide
    refine wpAny_Constant_str ⟨msg, _, rfl, by rw [len0]; omega, ?_⟩
    refine wpAny_FormattedValue_repr (PySem.ESX.ldL (env := env) hns3 vf ?_ rfl lk hf4)
    refine rep _ _ _ _ (fun b o e => kp3 _ _ (kp2 _ _ (kp1 _ _ e))) (hun _) (fun z tk h4 d4 t4 hz kp4 => ?_)
    have X4 : K.In h4 := (X2.keeps kp3).keeps kp4
    have lz : (Str.empty ++ msg ++ z).length ≤ sizeLine := by
      rw [Str.length_append, len0]
      omega
    have hx4 := kp4 _ _ (kp3 _ _ hx2)
    have hns4 := hns3.keeps kp4
    refine wpAny_formatField_str ?g1 ?g2 (by omega)
    all_goals
      refine ⟨z, _, rfl, lz, lz, spliced_nil ⟨kp4 _ _ hu3, ?_⟩⟩
      refine call_mw (X4 _ _ hC) hx4 (kp4 _ _ hu3) (by show 1 ≤ sizeLine; omega) (fun h5 t1 kp5 hx5 => ?_)
      have X5 : K.In h5 := fun a o e => kp5 a o (fun y => by rw [y, hnx] at e; cases e) (X4 _ _ e)
      have Lx : s.heap.objs.size ≠ x := Nat.ne_of_gt (Heap.lt_size hx)
      have hns5 : h5.Ns env.locals _ := hns4.at (h' := h5) (fun o e => kp5 _ o Lx e)
      show PySem.wpAt _ _ _ (execs [_] env) _ _ _
      refine ks_wpAt_execs_cons (ks_wpAt_Assign_Attr (wpAt_of_wpAny (PySem.ESX.ldL (env := env) hns5 vf ?_ rfl lk hf4)) rfl)
      refine PySem.ESX.ldL (env := env) hns5 vs0 ?_ rfl rfl
      refine set_plain X5 (ox := excO C t1) (od := none) ⟨hx5, rfl, rfl, trivial⟩ T.sa ?_
      refine exc_osa X5 hx5 hcl (show refsVE (.ref C :: bm) = true from hbm) rfl T.noN (fun h6 tk6 dx kp6 dn dne hx6 hn6 => ?_)
      have lt5 : s.heap.objs.size < h5.objs.size := hns5.lt
      show PySem.wpAt _ _ _ (execs [] env) _ _ _
      refine wpAt_of_wpAny (wpAny_execs_nil ?_)
      exact hq h6 d4 tk6 dx t1 ⟨fun b o hb e => kp6 b o hb (kp5 b o hb (kp4 _ _ (kp3 _ _ (kp2 _ _ (kp1 _ _ e))))), hx6, Nat.le_trans (Nat.le_of_lt lt5) dn, dne, hn6⟩
end
end K02R

/-! k01, part y: such an error made, raised, and read. -/
namespace K02R
open PySem PySem.W PySem.Calls PyProof.Rows PySem.HandSPX
/-- a made error -/
structure Made (f : Str) (h h' : Heap) (e C d : Addr) (v : Value) : Prop where
  keep : ∀ b o, h.get? b = some o → h'.get? b = some o
  new : h.objs.size ≤ e
  obj : ∃ oe vs, h'.get? e = some oe ∧ oe.cls = .ref C ∧ oe.dict = some d ∧ oe.data = .fields vs ∧ vs[1]? = some .none
  big : h.objs.size ≤ d
  ne : d ≠ e
  ns : h'.Ns1 d (fun y => if y = f then some v else none)
/-- the names that the law's proof needs of a field's name -/
structure FldOk (f msg : Str) : Prop where
  f1 : (f == ("self" : Str)) = false
  f2 : (f == ("__class__" : Str)) = false
  f3 : (f == ("super" : Str)) = false
  f4 : (f == ("__debug__" : Str)) = false
  m : msg.length ≤ 1000
section
variable {prog : Program} {w : World} {A : Around} {R : Result → Shared → Prop} {s : Shared} {K : Frag} {mg : Str → Option Value} {C fI : Addr} {cn qual f msg : Str}
theorem made_of (T : ErrTxt prog K mg C fI cn qual f msg) (O : FldOk f msg) {v : Value} (X : K.In s.heap) (G : s.heap.Ns mainGlobals mg) (B : ∃ mb, s.heap.Ns builtinsNs mb ∧ mb "super" = some (.type "super")) (hlim : s.heap.NoLimit)
    (hroom : A.depth + 1 < recursionLimit) (hun : ∀ us env, ((A.under (.builtin "type.__call__" ⟨.ref C :: us, []⟩)).deeper env).units + 64 < cLine) (htop : (prog.main.scope.names.lookup ("super" : Str)).isSome = false) (rep : Rep prog w 100000 s.heap v)
    (hbd : ∀ x doc pm an cda cc ct p1 p2 body, bindArgs (ksFn "__init__" qual (eA f p1 p2) body (eS f) .none .none doc pm an cda ct cc) ⟨[.ref x, v], []⟩ = pure [(("self" : Str), Value.ref x), (f, v)])
    (hq : ∀ h' d' tk e d, Made f s.heap h' e C d v → R (.ok (.ret (.ref e))) { s with heap := h', drawn := d', toks := tk }) :
    codeAny (model prog w) A (.call (.ref C) ⟨[v], []⟩) R s := by
  obtain ⟨nm, q, N, bs, bm, sn, sub, ab, col, dd, k0, k1, k2, k3, k5, hC, hbm⟩ := T.cls
  obtain ⟨hp, g, dr, tk, os⟩ := s
  have kp : ∀ b o, hp.get? b = some o → ((hp.push (kdv_tup [v])).push (excO C hp.objs.size)).get? b = some o := fun b o e => Heap.get?_push_of_some _ (Heap.get?_push_of_some _ e)
  have at1 : ((hp.push (kdv_tup [v])).push (excO C hp.objs.size)).get? (hp.objs.size + 1) = some (excO C hp.objs.size) := by heap_get
  have hnx : K.lookup (hp.objs.size + 1) = none := by
    cases e : K.lookup (hp.objs.size + 1) with
    | none => rfl
    | some o =>
      have z : hp.get? (hp.objs.size + 1) = some o := X _ _ e
      exact absurd (Nat.lt_of_succ_lt (Heap.lt_size z)) (Nat.lt_irrefl _)
  obtain ⟨mb, Bn, hmb⟩ := B
  refine call_own F.excBase_ValueError (fun X => refsVE_contains X bm hbm) (X _ _ hC) (looks_findIn X T.iC) (fun self => bind_fn X self T.tC) (by show 1 ≤ sizeLine; rw [sizeLine_eq]; decide) ?_
  refine init_of (s := ⟨(hp.push (kdv_tup [v])).push (excO C hp.objs.size), g, dr, tk, os⟩) T O.f1 O.f2 O.f3 O.f4 O.m (X.keeps kp) (G.keeps kp) ⟨mb, Bn.keeps kp, hmb⟩ (hlim.keeps kp) at1 hnx ?_ (hun _) htop (rep.keeps kp) (hbd _) fun h' d' tk' dx t1 ⟨k', hx, dn, dne, hns⟩ => ?_
  · show A.depth + 1 < recursionLimit
    exact hroom
  · have old : ∀ b o, hp.get? b = some o → h'.get? b = some o := fun b o e => k' b o (Nat.ne_of_lt (Nat.lt_succ_of_lt (Heap.lt_size e))) (kp b o e)
    have z : hp.objs.size + 1 + 1 ≤ dx := by
      first
        | (simpa only [Heap.size_push] using dn)
        | exact dn
        | (have q := dn; rw [Heap.size_push, Heap.size_push] at q; exact q)
    exact ⟨rfl, hq h' d' tk' (hp.objs.size + 1) dx ⟨old, Nat.le_succ _, ⟨_, _, hx, rfl, rfl, rfl, rfl⟩, Nat.le_trans (Nat.le_trans (Nat.le_succ _) (Nat.le_succ _)) z, dne, hns⟩⟩
end
end K02R
namespace K02Q
open PySem L2 PySem.Spec PyProof.Rows K02R K02
theorem relO_one {v : V} {v' : Value} (n : Str) (r : RelV v v') (f : Str) : RelO (List.lookup f [(n, v)]) (if f = n then some v' else none) := by
  by_cases hw : f = n
  · subst hw
    rw [if_pos rfl]
    have q : List.lookup f [(f, v)] = some v := by simp [List.lookup]
    rw [q]
    exact r
  · rw [if_neg hw]
    have qw : (f == n) = false := by simpa using hw
    have q2 : List.lookup f [(n, v)] = none := by simp [List.lookup, qw]
    rw [q2]
    trivial
theorem inv_drawn {X : Cx} {pins : List (Addr × Obj)} {σ : L2.St} {H : Hp} {s : Shared} (I : Inv X pins σ H s) (d' : Drawn) : Inv X pins σ H { s with drawn := d' } :=
  ⟨I.ok, I.os, I.bare, I.base, I.loc, I.cell, I.free, I.freeC, I.pin, I.hok, I.len⟩
/-- repr of the value is a text, whatever heap holds H -/
def RepV (P : Program) (w : World) (K : PySem.W.Frag) (H : Hp) (x : V) : Prop := ∀ (h : Heap) (u : Value), HOk P w H h → K.In h → RelV x u → Rep P w 100000 h u
section
variable {X : Cx} {C fI : Addr} {cn qual f msg : Str}
/-- Err(e) -/
def tMkE (P : Program) (w : World) (K : PySem.W.Frag) (C : Addr) (f : Str) (ta : TA) : L2.St → Hp → XK → Prop := fun σ H Q => ta σ H fun vs H1 => ∃ v, vs = [v] ∧ RepV P w K H1 v ∧ ∀ d, H1 d = none → Q (.ref C) (some d) (upd H1 d (.xd [(f, v)]))
theorem pmk_err {a : Expr} {ta : TA} {p pos : Pos} {k : Nat} (T : ErrTxt X.prog X.K X.mg C fI cn qual f msg) (O : FldOk f msg) (hr : Room (k + 2) X.A) (htop : (X.prog.main.scope.names.lookup ("super" : Str)).isSome = false)
    (hbd : ∀ x v doc pm an cda cc ct p1 p2 body, bindArgs (PySem.W.ksFn "__init__" qual (eA f p1 p2) body (eS f) .none .none doc pm an cda ct cc) ⟨[.ref x, v], []⟩ = pure [(("self" : Str), Value.ref x), (f, v)])
    (ha : PA X [a] ta) (hg : Gl X cn) (hdb : (cn == ("__debug__" : Str)) = false)
    (he : starEach (a :: []) X.env = (false, eval a X.env) :: starEach [] X.env := by rfl) (hpl : (backTo pos (starEach [] X.env)).any (·.1) = false := by rfl) :
    PMk X (.Call (.Name cn p) [a] [] pos) (tMkE X.prog X.w X.K C f ta) := by
  intro pins s σ H Q I h
  refine wpAny_Call_Name_kw (ld_glob I hg T.gC ?_ hdb)
  refine PySem.W.callWith_K (h₀ := X.base) I.ok.mod.kin T.kC (thn (ha.run pos pins s σ H _ I h) fun us s1 hh => ?_) he hpl
  obtain ⟨vs, H1, I1, r1, v, ev, rp, q1⟩ := hh
  subst ev
  refine ⟨I1.kIn, ?_⟩
  cases r1 with
  | cons rv rn =>
    rename_i v' us'
    cases rn
    show wpAny _ _ (call (.ref C) [v']) _ _ _
    have hlim := I1.nolimit
    have rep := rp s1.heap v' I1.hok I1.kIn rv
    obtain ⟨mb, Bn, hb⟩ := I1.mod.blt
    have hroom : X.A.depth + 1 < recursionLimit := by have := hr.dp; omega
    have hun : ∀ us env, ((X.A.under (.builtin "type.__call__" ⟨.ref C :: us, []⟩)).deeper env).units + 64 < cLine := fun us env => by
      have z : Room (k + 2) X.A := hr
      have z1 : Room (k + 1) (X.A.under (.builtin "type.__call__" ⟨.ref C :: us, []⟩)) := Room.make z C us []
      exact (Room.deeper z1 env).units
    have G := I1.mod.glob.keeps I1.bk
    have B := Bn.keeps I1.bk
    obtain ⟨hp, g, dr, tk, os⟩ := s1
    refine wpAny_call (made_of T O I1.kIn G ⟨mb, B, (hb _ (by decide)).trans (by decide +kernel)⟩ hlim hroom hun htop rep (fun x => hbd x _) fun h' d' tk' e d M => ?_)
    show MkP X pins σ Q (.ref e) ⟨h', g, d', tk', os⟩
    obtain ⟨oe, fv, hoe, hc, hd, hdat, h1⟩ := M.obj
    have hns := M.ns
    obtain ⟨G', g1, g2⟩ := restrict h' fun b => decide (b ≠ e)
    have gk : ∀ b, b ≠ e → G'.get? b = h'.get? b := fun b hb => g1 b (decide_eq_true hb)
    have ge : G'.get? e = none := g2 e (by simp)
    have old : ∀ b o, hp.get? b = some o → G'.get? b = some o := fun b o q => (gk b (Nat.ne_of_lt (Nat.lt_of_lt_of_le (Heap.lt_size q) M.new))).trans (M.keep b o q)
    have ob : ObjOk X.prog X.w (upd H1 d (.xd [(f, v)])) G' d (.xd [(f, v)]) := ⟨_, hns.at (fun o q => (gk d M.ne).trans q), fun n => relO_one f rv n⟩
    have J0 : Inv X pins σ (upd H1 d (.xd [(f, v)])) ⟨G', g, dr, tk', os⟩ := I1.laid (t' := tk') old M.big ob
    have J : Inv X pins σ (upd H1 d (.xd [(f, v)])) ⟨G', g, d', tk', os⟩ := inv_drawn J0 d'
    refine ⟨e, oe, fv, ⟨G', g, d', tk', os⟩, _, .ref C, some d, rfl, J, fun b o q => ?_, ge, hoe, ⟨hc, hd⟩, hdat, h1, ?_, rfl, I1.bare, raises_own T.exC T.tyC, q1 d (I1.hok.fresh M.big)⟩
    · by_cases hb : b = e
      · have q' : G'.get? b = some o := q
        rw [hb, ge] at q'; cases q'
      · exact (gk b hb).symm.trans q
    · rw [upd_ne (Ne.symm M.ne)]
      exact I1.hok.fresh M.new
/-- raise Err(e) -/
def tRaiseE (P : Program) (w : World) (K : PySem.W.Frag) (C : Addr) (f : Str) (W : WX) (ta : TA) : TS := fun _ σ H => tMkE P w K C f ta σ H fun cls d H' => W cls d σ H'
theorem ps_raiseE {a : Expr} {ta : TA} {W : WX} {p pos pos2 : Pos} {k : Nat} (hc : X.calm = true) (T : ErrTxt X.prog X.K X.mg C fI cn qual f msg) (O : FldOk f msg) (hr : Room (k + 2) X.A) (htop : (X.prog.main.scope.names.lookup ("super" : Str)).isSome = false)
    (hbd : ∀ x v doc pm an cda cc ct p1 p2 body, bindArgs (PySem.W.ksFn "__init__" qual (eA f p1 p2) body (eS f) .none .none doc pm an cda ct cc) ⟨[.ref x, v], []⟩ = pure [(("self" : Str), Value.ref x), (f, v)])
    (tk : Takes X W) (ha : PA X [a] ta) (hg : Gl X cn) (hdb : (cn == ("__debug__" : Str)) = false)
    (he : starEach (a :: []) X.env = (false, eval a X.env) :: starEach [] X.env := by rfl) (hpl : (backTo pos (starEach [] X.env)).any (·.1) = false := by rfl) :
    PS X (.Raise (some (.Call (.Name cn p) [a] [] pos)) none pos2) (tRaiseE X.prog X.w X.K C f W ta) := ps_raise hc tk (pmk_err T O hr htop hbd ha hg hdb he hpl)
/-- err.f, err the error that the suite holds (at a; its class cls, its dict d) -/
def tByE (C : Addr) (f : Str) (a : Addr) (cls : Value) (d : Option Addr) (te : TE) : TE := fun σ H Q => te σ H fun x H1 => x = .ref a ∧ cls = .ref C ∧ ∃ (dd : Addr) (v : V), d = some dd ∧ H1 dd = some (.xd [(f, v)]) ∧ Q v H1
theorem pe_byE {a : Addr} {oe : Obj} {cls : Value} {d : Option Addr} {pn : List (Addr × Obj)} {e : Expr} {te : TE} {pos : Pos} (T : ErrTxt X.prog X.K X.mg C fI cn qual f msg) (hz : Zc cls d oe) (hf : ∃ vs, oe.data = .fields vs) (he : PE (X.suite a ((a, oe) :: pn)) e te)
    (hb : attributeBase e f X.env (eval e X.env) = eval e X.env) :
    PE (X.suite a ((a, oe) :: pn)) (.Attribute e f pos) (tByE C f a cls d te) := by
  refine ⟨fun pins s σ H Q I h => ?_⟩
  refine attr_of hb (thn (he.run pins s σ H _ I h) fun u s1 hh => ?_)
  obtain ⟨x, H1, I1, rx, ex, ec, dd, v, ed, ea, q⟩ := hh
  subst ex
  obtain rfl : u = Value.ref a := rx
  subst ec
  subst ed
  obtain ⟨ha, _⟩ := I1.pin (a, oe) (List.mem_append_left _ List.mem_cons_self)
  obtain ⟨vs, hd⟩ := hf
  have hx : ObjOk X.prog X.w H1 s1.heap dd (.xd [(f, v)]) := I1.hok dd _ ea
  obtain ⟨mA, hns, hr⟩ := hx
  obtain ⟨od, ho, hl⟩ := lookIn_ns hns
  have l : List.lookup f [(f, v)] = some v := by simp [List.lookup]
  obtain ⟨u, hu, ru⟩ := RelO.some_of (v := v) (o := mA f) (by rw [← l]; exact hr f)
  have J : PySem.W.InstAt s1.heap a oe C (some od) := ⟨ha, hz.1, by unfold PySem.W.notCls; rw [hd] <;> rfl, by rw [hz.2]; exact ho⟩
  exact HandSPX.exc_get I1.kIn J T.ga T.gg T.exC (PySem.W.findObj_own T.hdC T.noN rfl (by rw [hl, hu])) (handed_of ru) ⟨v, H1, I1.tok _, ru, q⟩
end
end K02Q

/-! k01, part z: repr of what is refused, whatever runs around. -/
namespace K02R
open PySem PySem.W PySem.Calls PyProof.Rows
section
variable {prog : Program} {w : World} {M : Model} {A : Around} {E : Value → Shared → Prop} {s : Shared} {a : Addr}
/-- a list's repr: its own text, or the one of a list that is being told -/
theorem list_any {o : Obj} {x : Value} {l : List Value} {n b : Nat} {Q : Fin → Shared → Prop} (at_ : s.heap.get? a = some o) (dat : o.data = .seq (x :: l).toArray n)
    (h1 : wpAny M A (do again (.builtin "list.__repr__.loop" ⟨[.ref a, rawInt 0, ← newList [], rawInt b], []⟩)) Q E s) (h2 : ∀ u tk, Q (.done (.ret (.str "[...]" u))) { s with toks := tk }) :
    wpAny M A (Builtin.listReprAt b ⟨[.ref a], []⟩) Q E s := by
  intro Γ p hΓ
  have g1 := h1 Γ p hΓ
  unfold Builtin.listReprAt
  simp [slotArgs, Builtin.List.listItems, seqItems?, Sem.wp_load_of (h := at_), dat, stack]
  show Sem.wp M Γ (if (Γ.below.any _) = true then _ else _) _ _ p s
  split
  · have g2 : wpAny M A (do rule "list.__repr__.in-itself"; retStr "[...]") Q E s := by
      refine wpAny_bind (wpAny_rule ?_)
      refine wpAny_bind (wpAny_mkStr (wpAny_pure (h2 _ _)) ?_)
      decide
    exact g2 Γ p hΓ
  · exact g1
end
section
variable {prog : Program} {w : World} {A : Around} {E : Value → Shared → Prop} {s : Shared} {a : Addr} {x : Value} {l : List Value} {n : Nat} {ts : List Str} {oa : Obj}
theorem repr_list {Q : Value → Shared → Prop} (hu : A.units < cLine) (hc : oa.cls = .type "list") (at_ : s.heap.get? a = some oa) (dat : oa.data = .seq (x :: l).toArray n) (hl : ts.length = (x :: l).toArray.size)
    (hT : ∀ (i : Nat) (y : Value), (x :: l).toArray[i]? = some y → ∃ t, ts[i]? = some t ∧ ReprIs prog w y t) (hz : (listText ts).length ≤ 1000)
    (hQ : ∀ z h' u tk, z.length ≤ 1000 → (∀ b o, s.heap.get? b = some o → h'.get? b = some o) → Q (.str z u) { s with heap := h', toks := tk }) : wpAny (model prog w) A (pyReprObj (.ref a)) Q E s := by
  have ty : s.TypeIs (.ref a) "list" := ⟨_, at_, hc⟩
  have line : (1000 : Nat) ≤ sizeLine := by rw [sizeLine_eq]; decide
  have goCall : wpAny (model prog w) A (call (.builtin "list.__repr__") [.ref a]) (fun v s' => ∃ z u h' tk, v = .str z u ∧ z.length ≤ 1000 ∧ (∀ b o, s.heap.get? b = some o → h'.get? b = some o) ∧ s' = { s with heap := h', toks := tk }) E s := by
    refine wpAny_call (codeAny_call_builtin F.slot_list_repr.plain F.entry_list_repr (F.slot_list_repr.check _ _ _ _ _ _ _ _ ty (F.args_list_repr_1 _) ?_))
    refine list_any (b := 0) at_ dat ?_ (fun u tk => ?_)
    · refine wpAny_bind (m := newList []) (wpAny_newObj_type ?_)
      refine wpAny_pure ⟨F.quiet_list_repr_loop _, ?_⟩
      refine codeAny_list_repr_start (P := s.heap.objs.size) (Nat.ne_of_lt (Heap.lt_size at_)) hl hT (Heap.get?_push_of_some _ at_) dat (Heap.get?_push_size _ rfl) (fun h' u tk hk => ?_) (by omega)
      exact ⟨_, u, h', tk, rfl, hz, fun b o e => hk b o (Nat.ne_of_lt (Heap.lt_size e)) (Heap.get?_push_of_some _ e), rfl⟩
    · exact ⟨_, u, s.heap, tk, rfl, by decide, fun _ _ e => e, rfl⟩
  unfold pyReprObj
  refine wpAny_bind (wpAny_cRoomFor hu ?_)
  refine wpAny_bind (wpAny_specialOf (name := Str.ofString "__repr__") ty F.slot_list_repr.lookup ?_)
  refine wpAny_bind (m := callSpecialIfBound? (.ref a) (Str.ofString "__repr__")) (wpAny_callSpecialIfBound?_slot (name := Str.ofString "__repr__") ty F.slot_list_repr (wpAny_mono goCall (fun v s' hv => ?_) fun _ _ e => e))
  obtain ⟨z, u, h', tk, rfl, hz', hk, rfl⟩ := hv
  exact wpAny_bind (wpAny_isInstance (T := "str") (b := true) rfl isSubtype_str_str (wpAny_pure (hQ z h' u tk hz' hk)))
theorem repr_tup {items : Array Value} {Q : Value → Shared → Prop} (hu : A.units < cLine) (hc : oa.cls = .type "tuple") (at_ : s.heap.get? a = some oa) (dat : oa.data = .seq items n) (hT : ReprAll prog w items.toList ts) (hz : (tupleText ts).length ≤ 1000)
    (hQ : ∀ z u tk, z.length ≤ 1000 → Q (.str z u) { s with toks := tk }) : wpAny (model prog w) A (pyReprObj (.ref a)) Q E s := by
  have ty : s.TypeIs (.ref a) "tuple" := ⟨_, at_, hc⟩
  have line : (1000 : Nat) ≤ sizeLine := by rw [sizeLine_eq]; decide
  have goCall : wpAny (model prog w) A (call (.builtin "tuple.__repr__") [.ref a]) (fun v s' => ∃ z u tk, v = .str z u ∧ z.length ≤ 1000 ∧ s' = { s with toks := tk }) E s := by
    refine wpAny_call (codeAny_call_builtin_own (Code.quiet_builtin _ (by decide +kernel)) F.entry_tuple_repr (F.slot_tuple_repr.check _ _ _ _ _ _ _ _ ty (F.args_tuple_repr_1 _) ?_))
    refine wpOwn_of_wpAny ?_
    show wpAny _ _ (Builtin.tupleReprAt 0 ⟨[.ref a], []⟩) _ _ _
    rw [tuple_repr_tree, tupleReprUnderWay_eq]
    refine wpAny_bind (wpAny_bind (wpAny_stack fun st _ _ _ => wpAny_pure ?_))
    split
    · refine wpAny_bind (wpAny_rule ?_)
      refine wpAny_bind (wpAny_mkStr (wpAny_pure ?_) (by decide))
      exact ⟨_, _, _, rfl, by decide, rfl⟩
    · exact wpAny_tupleReprRest at_ dat hT (fun u tk => ⟨_, u, tk, rfl, hz, rfl⟩) (by omega)
  unfold pyReprObj
  refine wpAny_bind (wpAny_cRoomFor hu ?_)
  refine wpAny_bind (wpAny_specialOf (name := Str.ofString "__repr__") ty F.slot_tuple_repr.lookup ?_)
  refine wpAny_bind (m := callSpecialIfBound? (.ref a) (Str.ofString "__repr__")) (wpAny_callSpecialIfBound?_slotG (name := Str.ofString "__repr__") ty F.slot_tuple_repr (wpAny_mono goCall (fun v s' hv => ?_) fun _ _ e => e))
  obtain ⟨z, u, tk, rfl, hz', rfl⟩ := hv
  exact wpAny_bind (wpAny_isInstance (T := "str") (b := true) rfl isSubtype_str_str (wpAny_pure (hQ z u tk hz')))
end
end K02R

/-! k02, part j: what is told of a wrong name. -/
namespace K02
open PySem L2 PySem.Spec PyProof.Rows
/-- a thing whose repr is short: None, a truth, a small number, a short text -/
def small1 : PyData → Prop
  | .none => True
  | .bool _ => True
  | .int i => 0 ≤ i ∧ i < 10 ^ 9
  | .str z => (reprText z).length ≤ 500
  | _ => False
theorem rep_small {P : Program} {w : World} {K : PySem.W.Frag} {H : Hp} {x : V} {d : PyData} (t : Rp H x d) (h : small1 d) : K02Q.RepV P w K H x := by
  intro hh u _ _ rv A E Q s _ _ hq
  cases t with
  | non =>
    have : u = .none := rv
    subst this
    exact pyReprObj_none (hq _ _ s.heap s.drawn _ (by decide) fun _ _ e => e)
  | bl b =>
    have : u = .bool b := rv
    subst this
    exact pyReprObj_bool (hq _ _ s.heap s.drawn _ (by cases b <;> decide) fun _ _ e => e)
  | int i =>
    obtain ⟨tk, rfl⟩ := rv
    obtain ⟨h0, hn⟩ := h
    have hl : i.natAbs.log2 < 1920 := by
      have h1 : i.natAbs < 2 ^ 30 := by omega
      by_cases z : i.natAbs = 0
      · rw [z]; decide
      · have := (Nat.log2_lt z).mpr h1
        omega
    exact pyReprObj_int hl (hq _ _ s.heap s.drawn _ (Nat.le_trans (toString_length_le h0 (k := 9) (by decide) hn) (by decide)) fun _ _ e => e)
  | str z hz =>
    obtain ⟨tk, rfl⟩ := rv
    have hz' : (reprText z).length ≤ 500 := h
    exact wpAny_pyReprObj_str (hq _ _ s.heap s.drawn _ (Nat.le_trans hz' (by decide)) fun _ _ e => e) (Nat.le_trans hz' (by decide))
  | lst _ _ => exact h.elim
  | tup _ _ => exact h.elim
end K02

/-! k02, part k: what is told of a tuple of one text. -/
namespace K02
open PySem L2 PySem.Spec PyProof.Rows
theorem app_len (x y : Str) : (x ++ y).length = x.length + y.length := by
  show (x.cps ++ y.cps).size = _
  exact Array.size_append
theorem one_text (t : Str) : (tupleText [t]).length ≤ t.length + 4 := by
  have e : tupleText [t] = Str.ofString "(" ++ (Str.ofString ", ").join [t] ++ Str.ofString ",)" := rfl
  have j : (Str.ofString ", ").join [t] = t := rfl
  rw [e, j, app_len, app_len]
  have a : (Str.ofString "(").length = 1 := by decide +kernel
  have b : (Str.ofString ",)").length = 2 := by decide +kernel
  omega
theorem rep_one {P : Program} {w : World} {K : PySem.W.Frag} {H : Hp} {pl : Addr} {z : Str} (e : H pl = some (.tup [.str z])) (hz : (reprText z).length ≤ 500) : K02Q.RepV P w K H (.ref pl) := by
  intro h u ok kin r
  cases r
  obtain ⟨z0, its, rv, o, ho, hc, n, hd⟩ := ok pl _ e
  intro A E Q s ks hu hq
  cases rv with
  | cons r1 r2 =>
    cases r2
    obtain ⟨t, rfl⟩ := r1
    have line : (500 : Nat) ≤ sizeLine := by rw [sizeLine_eq]; decide
    exact K02R.repr_tup (ts := [reprText z]) (by omega) hc (ks _ _ ho) hd (.cons (ReprIs.str z t (by omega)) .nil) (Nat.le_trans (one_text _) (by omega)) fun m u tk hm => hq m u s.heap s.drawn tk (Nat.le_trans hm (by decide)) fun _ _ e => e
end K02

/-! k02, part l: the names of a stock are looked at. -/
namespace K02
open PySem L2 PySem.Spec PyProof.Rows
abbrev sCheckNames : Stmt := top 23
/-- a thing whose repr is short -/
def shw (d : PyData) : Prop := small1 d ∨ ∃ z, d = .tuple [.str z] ∧ (reprText z).length ≤ 500
theorem rep_shw {P : Program} {w : World} {K : PySem.W.Frag} {H : Hp} {x : V} {d : PyData} (t : Rp H x d) (h : shw d) : K02Q.RepV P w K H x := by
  rcases h with h | ⟨z, rfl, hz⟩
  · exact rep_small t h
  · cases t with
    | tup e r =>
      cases r with
      | cons r0 r =>
        cases r
        cases r0
        exact rep_one e hz
/-- the first of them that is none -/
def firstBad : List PyData → Option Nat
  | [] => none
  | d :: r => if nmD d = true then (firstBad r).map (· + 1) else some 0
/-- the first of them that stands ahead already, from place i on -/
def firstTwice (xs : List V) : Nat → List V → Option Nat
  | _, [] => none
  | i, x :: r => if inV x (xs.take i) = true then some i else firstTwice xs (i + 1) r
theorem firstBad_none : ∀ {ds : List PyData}, firstBad ds = none → ∀ d ∈ ds, nmD d = true
  | d :: r, h, e, he => by
    unfold firstBad at h
    by_cases hd : nmD d = true
    · rw [if_pos hd] at h
      rcases List.mem_cons.mp he with rfl | he
      · exact hd
      · exact firstBad_none (by cases e2 : firstBad r with | none => rfl | some k => rw [e2] at h; cases h) e he
    · rw [if_neg hd] at h; cases h
theorem firstBad_drop : ∀ {ds : List PyData} {i : Nat}, (∀ d ∈ ds.take i, nmD d = true) → firstBad ds = (firstBad (ds.drop i)).map (· + i)
  | [], i, _ => by rw [List.drop_nil]; rfl
  | d :: r, 0, _ => by
    rw [List.drop_zero]
    cases firstBad (d :: r) <;> rfl
  | d :: r, i + 1, h => by
    rw [List.drop_succ_cons]
    have h1 : firstBad (d :: r) = (firstBad r).map (· + 1) := by
      show (if nmD d = true then _ else _) = _
      rw [if_pos (h d List.mem_cons_self)]
    rw [h1, firstBad_drop (ds := r) (i := i) fun e he => h e (List.mem_cons_of_mem _ he)]
    cases firstBad (r.drop i) with
    | none => rfl
    | some k => exact congrArg some (by show k + i + 1 = k + (i + 1); omega)
theorem nmD_str {d : PyData} (h : nmD d = true) : ∃ z, d = .str z ∧ nmS z = true := by
  cases d <;> first | exact ⟨_, rfl, h⟩ | cases h
theorem texts_of {H : Hp} : ∀ {xs : List V} {ds : List PyData}, Rps H xs ds → (∀ d ∈ ds, nmD d = true) → ∃ zs : List Str, xs = zs.map V.str ∧ ds = zs.map PyData.str ∧ ∀ z ∈ zs, nmS z = true
  | _, _, .nil, _ => ⟨[], rfl, rfl, fun z hz => by cases hz⟩
  | _, _, .cons r rs, h => by
    obtain ⟨zs, e1, e2, e3⟩ := texts_of rs fun d hd => h d (List.mem_cons_of_mem _ hd)
    obtain ⟨z, rfl, hz⟩ := nmD_str (h _ List.mem_cons_self)
    cases r
    refine ⟨z :: zs, by rw [e1]; rfl, by rw [e2]; rfl, fun y hy => ?_⟩
    rcases List.mem_cons.mp hy with rfl | hy
    · exact hz
    · exact e3 y hy
theorem let_small {c : Nat} (h : isLet c = true) : c < 16 ^ 8 := by
  have h' : c ∈ letters.cps.toList := of_decide_eq_true h
  have : ∀ c ∈ letters.cps.toList, c < 16 ^ 8 := by decide +kernel
  exact this c h'
theorem name_short {z : Str} (h : nmS z = true) : (reprText z).length ≤ 500 ∧ z.length ≤ 12 := by
  unfold nmS at h
  simp only [Bool.and_eq_true, decide_eq_true_eq, List.all_eq_true] at h
  obtain ⟨⟨h1, h2⟩, h3, h4⟩ := h
  have hl : z.length ≤ 12 := by omega
  exact ⟨Nat.le_trans (PySem.StrLaws.reprText_len z fun c hc => let_small (h3 c hc)) (by omega), hl⟩
def spCheckNames (CN CT : Addr) : Sp := fun vs H Q E => ∃ L xs ds, vs = [.ref L] ∧ H L = some (.lst xs) ∧ Rps H xs ds ∧ (∀ d ∈ ds, shw d) ∧ ds.length ≤ 100 ∧ match firstBad ds with
  | some i => ∀ v H' dd, xs[i]? = some v → Same H H' → H dd = none → H' dd = some (.xd [("name", v)]) → E (.ref CN) (some dd) H'
  | none => match firstTwice xs 0 xs with
    | some i => ∀ v H' dd, xs[i]? = some v → Same H H' → H dd = none → H' dd = some (.xd [("name", v)]) → E (.ref CT) (some dd) H'
    | none => ∀ H', Same H H' → Q .non H'
theorem twice_drop : ∀ {xs : List V} {i : Nat}, i ≤ xs.length → (∀ j, j < i → ∀ x, xs[j]? = some x → inV x (xs.take j) = false) → firstTwice xs 0 xs = firstTwice xs i (xs.drop i)
  | xs, 0, _, _ => by rw [List.drop_zero]
  | xs, i + 1, hi, h => by
    rw [twice_drop (i := i) (by omega) fun j hj => h j (by omega)]
    have hx : xs.drop i = xs[i] :: xs.drop (i + 1) := List.drop_eq_getElem_cons (by omega)
    rw [hx]
    show (if inV xs[i] (xs.take i) = true then some i else firstTwice xs (i + 1) (xs.drop (i + 1))) = _
    rw [if_neg (by rw [h i (Nat.lt_succ_self i) _ (List.getElem?_eq_getElem (by omega))]; exact Bool.false_ne_true)]
section
variable {P : Program} {w : World} {K : PySem.W.Frag} {mg : Str → Option Value} {base : Heap}
theorem scCheckNames : FnScope ["names", "name", "number"] ["names"] (defScope sCheckNames) := ⟨rfl, rfl, rfl, by decide +kernel, rfl, by decide +kernel, by decide +kernel⟩
theorem nameO : K02R.FldOk "name" "no name: " := ⟨rfl, rfl, rfl, rfl, by decide⟩
theorem twiceO : K02R.FldOk "name" "the name has come already: " := ⟨rfl, rfl, rfl, rfl, by decide⟩
theorem ok_checknames {f fn CN CT fN fT : Addr} {fd fdn : FuncData} (F : Fun K "check_names" "check_names" sCheckNames f fd) (N : Nms mg) (htop : (P.main.scope.names.lookup ("super" : Str)).isSome = false)
    (TN : K02R.ErrTxt P K mg CN fN "BadName" "BadName.__init__" "name" "no name: ") (TT : K02R.ErrTxt P K mg CT fT "Twice" "Twice.__init__" "name" "the name has come already: ")
    (DN : Df K mg "is_name" sIsName ["thing"] fn fdn) (GN : FnOk P w K mg base CX0 1 fn fdn ["thing"] (spTest nmD)) : FnOk P w K mg base (L2.CX P w) 5 f fd ["names"] (spCheckNames CN CT) := by
  refine F.okX scCheckNames (fun vs H Q E h => ?_) (fun cdv A outer s H vs Q E hr h => ?_)
  · obtain ⟨L, xs, ds, rfl, _⟩ := h
    rfl
  · obtain ⟨L, xs, ds, rfl, hL, rs, sh, hl, k⟩ := h
    have nd := scCheckNames.nd
    have h1 := hr.mono (show 1 ≤ 4 by decide)
    have hlen : xs.length = ds.length := rs.length
    refine ⟨_, pss_cons (ps_for PassesOwn.leaving rfl (pi_list (pv 0)) (pg_name (i := 1) nd rfl (Or.inl rfl))
        (pss_one (ps_if (pt_not (pt_val (pe_call GN h1 rfl DN.g DN.F.kp DN.b .nil pass0 (pa_cons (pv 1) pa_nil)))) (pss_one (K02Q.ps_raiseE (k := 2) rfl TN nameO hr htop (by intros; rfl) (takes_of rfl rfl rfl rfl) (pa_cons (pv 1) pa_nil) rfl rfl)) pss_nil)))
      (pss_one (ps_for PassesOwn.leaving rfl (pi_enum (by rfl) N.enumerate (pa_cons (pv 0) pa_nil)) (pg_tup (by rfl) (pgs_cons (pg_name (i := 2) nd rfl (Or.inl rfl)) (pgs_cons (pg_name (i := 1) nd rfl (Or.inl rfl)) pgs_nil)))
        (pss_one (ps_if (pt_cmpR op_in_seq (pv 1) (pe_slice sl_list (pv 0) po_none (po_some (pv 2))) rfl) (pss_one (K02Q.ps_raiseE (k := 2) rfl TT twiceO hr htop (by intros; rfl) (takes_of rfl rfl rfl rfl) (pa_cons (pv 1) pa_nil) rfl rfl)) pss_nil)))), ?_⟩
    refine ⟨_, rfl, L, rfl, ⟨_, SqL.of hL⟩, for_it (walk_list (K := K) (a := L) (xs := xs)) (fun i σ H' => Same H H' ∧ (∀ d ∈ ds.take i, nmD d = true) ∧ ∃ p q, σ = [some (.ref L), p, q]) ⟨Same.rfl', fun d hd => (by rw [List.take_zero] at hd; cases hd), none, none, rfl⟩ (fun i σ H' _ h => SqL.of (h.1 _ _ hL)) ?_ ?_⟩
    · rintro i x σ1 H1 H2 hi ⟨s1, good, p, q, rfl⟩ ⟨rfl, hx⟩
      obtain ⟨d, hd, rd⟩ := rs.nth hx
      refine ⟨_, rfl, x, d, rfl, rd.mono (Sq.of s1), fun H3 s3 => ⟨_, rfl, ?_⟩⟩
      have s13 := s1.trans s3
      cases e : nmD d with
      | true =>
        refine iteF ⟨s13, fun d' hd' => ?_, _, _, rfl⟩
        rw [List.take_add_one, hd] at hd'
        rcases List.mem_append.mp hd' with z | z
        · exact good d' z
        · rw [Option.toList_some, List.mem_singleton] at z; rw [z]; exact e
      | false =>
        have fb : firstBad ds = some i := by
          have hi' : i < ds.length := by omega
          rw [firstBad_drop good, List.drop_eq_getElem_cons hi']
          have hdi : ds[i] = d := by rw [List.getElem?_eq_getElem hi'] at hd; exact Option.some.inj hd
          show Option.map _ (if nmD ds[i] = true then _ else _) = _
          rw [hdi, if_neg (by rw [e]; exact Bool.false_ne_true)]
          exact congrArg some (Nat.zero_add i)
        rw [fb] at k
        refine iteT ⟨_, rfl, _, rfl, rep_shw (rd.mono (Sq.of s13)) (sh d (List.mem_of_getElem? hd)), fun dd hdd => ?_⟩
        exact k x _ dd hx (same_new s13 hdd) (none_of s13 hdd) upd_same
    · rintro σ1 H1 ⟨s1, good, p, q, rfl⟩
      rw [hlen, List.take_length] at good
      have fb : firstBad ds = none := by
        rw [firstBad_drop (i := ds.length) (by rw [List.take_length]; exact good), List.drop_length]
        rfl
      rw [fb] at k
      obtain ⟨zs, ex, ed, hz⟩ := texts_of rs good
      have flat : ∀ n, (xs.take n).all flatV = true := fun n => List.all_eq_true.mpr fun y hy => by
        rw [ex] at hy
        obtain ⟨z, _, rfl⟩ := List.mem_map.mp (List.mem_of_mem_take hy)
        rfl
      refine ⟨_, rfl, L, xs, rfl, SqL.of (s1 _ _ hL), for_it (walk_enum (K := K) (a := L) (xs := xs)) (fun i σ H' => Same H H' ∧ (∀ j, j < i → ∀ x, xs[j]? = some x → inV x (xs.take j) = false) ∧ ∃ p q, σ = [some (.ref L), p, q]) ⟨s1, fun j hj => absurd hj (Nat.not_lt_zero _), _, _, rfl⟩ (fun i σ H' _ h => SqL.of (h.1 _ _ hL)) ?_ ?_⟩
      · rintro i y σ2 H2 H3 hi ⟨s2, fine, p, q, rfl⟩ ⟨T, a, x, rfl, nT, rfl, ea, hx⟩
        cases ea
        have s3 := same_new (o := .tup [.int (i : Nat), x]) s2 nT
        have hL3 := s3 _ _ hL
        have hx' : xs[i]? = some x := hx
        obtain ⟨z, hzi, rfl⟩ : ∃ z, zs[i]? = some z ∧ x = .str z := by
          rw [ex, List.getElem?_map] at hx'
          cases e : zs[i]? with
          | none => rw [e] at hx'; cases hx'
          | some z => rw [e] at hx'; exact ⟨z, rfl, (Option.some.inj hx').symm⟩
        refine ⟨T, _, rfl, SqT.of upd_same, rfl, _, _, rfl, _, _, rfl, rfl, ?_⟩
        have cut : cutV xs none (some (i : Int)) = xs.take i := by
          unfold cutV
          rw [HT.sIx_nat, HT.sIx_none, Nat.min_eq_left (Nat.le_of_lt hi), List.drop_zero, Nat.sub_zero]
        refine ⟨_, rfl, _, rfl, _, rfl, _, rfl, L, xs, rfl, SqL.of hL3, fun C nC => ?_⟩
        rw [cut]
        have s4 := same_new (o := .lst (xs.take i)) s3 nC
        refine ⟨C, xs.take i, rfl, .inl (SqL.of upd_same), rfl, flat i, _, rfl, ?_⟩
        cases e : inV (.str z) (xs.take i) with
        | true =>
          have ft : firstTwice xs 0 xs = some i := by
            rw [twice_drop (Nat.le_of_lt hi) fine, List.drop_eq_getElem_cons hi]
            have hxi : xs[i] = .str z := by rw [List.getElem?_eq_getElem hi] at hx'; exact Option.some.inj hx'
            show (if inV xs[i] (xs.take i) = true then _ else _) = _
            rw [hxi, if_pos e]
          rw [ft] at k
          refine iteT ⟨_, rfl, _, rfl, rep_shw (.str z ?_) (.inl ?_), fun dd hdd => k _ _ dd hx' (same_new s4 hdd) (none_of s4 hdd) upd_same⟩
          · have rz : Rp H (.str z) (.str z) := by
              obtain ⟨d, hd, rd⟩ := rs.nth hx'
              cases rd with
              | str _ h => exact .str z h
            cases rz with
            | str _ h => exact h
          · exact (name_short (hz z (List.mem_of_getElem? hzi))).1
        | false =>
          refine iteF ⟨s4, fun j hj x' hx2 => ?_, _, _, rfl⟩
          by_cases hji : j = i
          · subst hji
            rw [hx'] at hx2
            cases hx2
            exact e
          · exact fine j (by omega) x' hx2
      · rintro σ2 H2 ⟨s2, fine, p, q, rfl⟩
        have ft : firstTwice xs 0 xs = none := by
          rw [twice_drop (Nat.le_refl _) fine, List.drop_length]
          rfl
        rw [ft] at k
        exact k _ s2
end
end K02

/-! k02, part m: for i, x in enumerate(a tuple). -/
namespace K02E
open PySem L2 PySem.Spec PyProof.Rows
open Sem (wp)
theorem new_any {v : Value} {o : Obj} {H : Heap → Prop} (B : Begins v o H) :
    Meets (Builtin.«enumerate.__new__» ⟨[.type "enumerate", v], []⟩) (fun _ R s => H s.heap ∧
      R (.ok (.ret (.ref (s.heap.push o).objs.size))) { s with heap := (s.heap.push o).push { cls := .type "enumerate", data := .fields #[.none, .bool false, .ref s.heap.objs.size, rawInt 0, .none, .none] } }) :=
  .of_wp fun prog w A R s h => by
    obtain ⟨hp, g, d, tk, os⟩ := s; obtain ⟨h1, h⟩ := h
    have hsub := sub_enumerate
    have q1 : ∀ {A' : Around} {E : Value → Shared → Prop} {Q : Value → Shared → Prop}, Q (.ref hp.objs.size) ⟨hp.push o, g, d, tk, os⟩ → wpAny (model prog w) A' (pyIter v) Q E ⟨hp, g, d, tk, os⟩ :=
      fun q => B.iter prog w _ _ ⟨hp, g, d, tk, os⟩ _ h1 q
    wp_walk using q1
    refine wpAny_stack_any fun st => wpAny_pure ?_
    split
    · rename_i c _ _ _ _ _
      cases (c == Value.type "enumerate")
      · wp_walk using q1
        exact ⟨_, rfl, h⟩
      · wp_walk using q1
        exact ⟨_, rfl, h⟩
    · wp_walk using q1
      exact ⟨_, rfl, h⟩
section
variable {prog : Program} {w : World} {A : Around} {E : Value → Shared → Prop} {s : Shared}
/-- enumerate(v) -/
theorem begins {v : Value} {o : Obj} {H : Heap → Prop} {Q : Value → Shared → Prop} (B : Begins v o H) (h1 : H s.heap)
    (h : ∀ h', IsEnum h' (s.heap.objs.size + 1) s.heap.objs.size 0 .none → h'.get? s.heap.objs.size = some o → h'.objs.size = s.heap.objs.size + 2 →
      (∀ b o, s.heap.get? b = some o → h'.get? b = some o) → Q (.ref (s.heap.objs.size + 1)) { s with heap := h' }) :
    wpAny (model prog w) A (call (.type "enumerate") [v]) Q E s := by
  refine callType_new F.called_enumerate (by decide) (F.typeCall_enumerate_1 _) (F.newCall_enumerate_1 _) (fun obj => F.args_object_init_2 obj _) F.entry_enumerate_new
    (new_any B) ⟨h1, ?_⟩
  have hz : (s.heap.push o).objs.size = s.heap.objs.size + 1 := Heap.size_push ..
  show _ ∧ _
  rw [hz]
  have he : IsEnum ((s.heap.push o).push { cls := .type "enumerate", data := .fields #[.none, .bool false, .ref s.heap.objs.size, rawInt 0, .none, .none] }) (s.heap.objs.size + 1) s.heap.objs.size 0 .none := by
    have := Heap.get?_push_size (s.heap.push o) (o := { cls := .type "enumerate", data := .fields #[.none, .bool false, .ref s.heap.objs.size, rawInt 0, .none, .none] }) rfl
    rw [hz] at this; exact this
  refine ⟨⟨_, he, rfl⟩, h _ he (Heap.get?_push_of_some _ (Heap.get?_push_size _ B.free)) (by rw [Heap.size_push, hz]) fun b o x => Heap.get?_push_of_some _ (Heap.get?_push_of_some _ x)⟩
end
end K02E
namespace K02
open PySem L2 PySem.Spec PyProof.Rows K02E
/-- the pairs of a tuple's enumeration -/
def IteT (K : PySem.W.Frag) (a : Addr) : It where
  go := fun i H => ∃ xs x, SqT K H a xs ∧ xs[i]? = some x
  yld := fun i H v H' => ∃ T x, v = V.ref T ∧ H T = none ∧ H' = upd H T (.tup [.int (i : Nat), x]) ∧ ∀ xs, SqT K H a xs → xs[i]? = some x
  stop := fun i H => ∃ xs, SqT K H a xs ∧ xs.length = i
theorem walk_enumT {K : PySem.W.Frag} {a : Addr} {xs : List V} : Walk (IteT K a) xs.length (fun H => SqT K H a xs) (YPair (fun i => some (.int (i : Nat))) (fun i => xs[i]?)) where
  goes := fun i H hi h => ⟨xs, xs[i], h, List.getElem?_eq_getElem hi⟩
  stops := fun H h => ⟨xs, h, rfl⟩
  yields := fun i H x H' hi h ⟨T, y, e1, e2, e3, e4⟩ => ⟨T, _, y, e1, e2, e3, rfl, e4 xs h⟩
theorem turn_enumT {P : Program} {w : World} {K : PySem.W.Frag} {elts : List Expr} {kk : Nat} {tpos : Pos} (a e it : Addr) :
    Turn P w K (.Tuple elts kk tpos) (IteT K a) [e, it] e (fun i h => (∃ old, IsEnum h e it (i : Nat) old) ∧ h.IsTupleIter it a i ∧ e ≠ it ∧ a ≠ it ∧ a ≠ e) where
  mem := List.mem_cons_self
  obj := fun i h st b hb => by
    obtain ⟨⟨old, he⟩, ⟨o, ho, hc, hd⟩, _⟩ := st
    rcases List.mem_cons.mp hb with z | z
    · rw [z]; exact ⟨_, he, fun v q => by cases q⟩
    · rw [List.mem_singleton.mp z]; exact ⟨o, ho, fun v q => by rw [hd] at q; cases q⟩
  keep := fun i h h' st k => by
    obtain ⟨⟨old, he⟩, hi, hne⟩ := st
    exact ⟨⟨old, k e List.mem_cons_self _ he⟩, hi.at fun o q => k it (List.mem_cons_of_mem _ List.mem_cons_self) o q, hne⟩
  item := fun X hP hw hK hc i pins s σ H E I hf st hg => by
    subst hP hw hK
    obtain ⟨⟨old, he⟩, hit, hne, hai, hae⟩ := st
    obtain ⟨xs, x, hq, hx⟩ := hg
    obtain ⟨its, rv, ht, hz⟩ := I.tuple hq
    obtain ⟨u, hu, ru⟩ := rv.get hx
    have hh := I.ok.hd hc
    have hi : i < its.toArray.size := by
      rw [List.size_toArray]
      exact (List.getElem?_eq_some_iff.mp hu).1
    have hel := Heap.lt_size he
    have hil : it < s.heap.objs.size := by obtain ⟨o, y, _⟩ := hit; exact Heap.lt_size y
    have D : Draws X.prog X.w X.A.in1 it [it, a] its.toArray.size (fun i v => its.toArray[i]? = some v) (fun i h => h.IsTupleIter it a i ∧ h.IsTuple a its.toArray) := Draws.tuple (show X.A.in1.handled = none from hh) it a hai its.toArray
    refine wpAny_pyNext_enum_itemC D he ⟨hit, ht⟩ hi hne ?_ fun v h' tk hP ho st' hT hsz hk => ?_
    · intro z
      rcases List.mem_cons.mp z with z | z
      · exact hne z
      · exact hae (List.mem_singleton.mp z).symm
    · have ev : v = u := by
        rw [List.getElem?_toArray] at hP
        rw [hu] at hP
        exact (Option.some.inj hP).symm
      subst ev
      refine ⟨.ref s.heap.objs.size, rfl, wpAny_letOwnedTupleGo_enum ho fun h'' he' sb => ?_⟩
      have hT2 : h''.get? s.heap.objs.size = _ := (sb.2 s.heap.objs.size (Nat.ne_of_gt hel)).trans hT
      have I1 := Inv.turnedNew (ch := [e, it]) (T := s.heap.objs.size) (ob := .tup [.int (i : Nat), x]) (h' := h'') (t' := tk + 1) I (fun b ob hb q => (sb.2 b (fun z => hb (by rw [z]; exact List.mem_cons_self))).trans
        (hk b ob (fun z => hb (by rw [z]; exact List.mem_cons_self)) (fun z => hb (by rw [z]; exact List.mem_cons_of_mem _ List.mem_cons_self)) q)) hf (Nat.le_refl _)
        ⟨(by show 2 ≤ sizeLine; decide), [.int (i : Nat) tk, v], .cons ⟨tk, rfl⟩ (.cons ru .nil), _, hT2, rfl, 0, rfl⟩
      refine ⟨.ref s.heap.objs.size, _, I1, rfl, ⟨_, x, rfl, I.hok.fresh (Nat.le_refl _), rfl, fun ys hy => by rw [I.tuple_inj hy hq]; exact hx⟩, ⟨⟨v, ?_⟩, ?_, hne, hai, hae⟩, fun b hb => ?_⟩
      · have e1 : ((i + 1 : Nat) : Int) = (i : Int) + 1 := by omega
        rw [e1]
        exact he'
      · exact st'.1.at fun o q => (sb.2 it (Ne.symm hne)).trans q
      · have hb' : b < s.heap.objs.size := by
          rcases List.mem_cons.mp hb with z | z
          · rw [z]; exact hel
          · rw [List.mem_singleton.mp z]; exact hil
        rw [upd_ne (Nat.ne_of_lt hb')]
        exact (hf b hb).1
  done := fun X hP hw hK hc i pins s σ H E I hf st hg => by
    subst hP hw hK
    obtain ⟨⟨old, he⟩, hit, hne, hai, hae⟩ := st
    obtain ⟨xs, hq, hx⟩ := hg
    obtain ⟨its, rv, ht, hz⟩ := I.tuple hq
    have hh := I.ok.hd hc
    have hi : its.toArray.size = i := by rw [List.size_toArray, ← rv.length, hx]
    subst hi
    have D : Draws X.prog X.w X.A.in1 it [it, a] its.toArray.size (fun i v => its.toArray[i]? = some v) (fun i h => h.IsTupleIter it a i ∧ h.IsTuple a its.toArray) := Draws.tuple (show X.A.in1.handled = none from hh) it a hai its.toArray
    obtain ⟨f0, f1, f2, f3, f4, f5⟩ := hf it (List.mem_cons_of_mem _ List.mem_cons_self)
    exact wpAny_pyNext_enum_endD D he ⟨hit, ht⟩ fun h' eb => ⟨rfl, Inv.turned I (fun b o hb q => eb b o hb q) f0 f1 f3 f4 f5⟩
  self := fun A i s Q E st h => by
    obtain ⟨⟨old, he⟩, _⟩ := st
    exact wpAny_pyIter_enum he h
def iEnumT (K : PySem.W.Frag) (ta : TA) : TI := fun σ H R => ta σ H fun vs H1 => ∃ a xs, vs = [V.ref a] ∧ SqT K H1 a xs ∧ R (IteT K a) H1
theorem pi_enumT {X : Cx} {e : Expr} {ta : TA} {p pos tpos : Pos} {elts : List Expr} {kk : Nat} (hg : Gl X "enumerate") (hm : X.mg "enumerate" = none) (ha : PA X [e] ta)
    (hs : starEach [e] X.env = [(false, eval e X.env)] := by rfl) : PI X (.Tuple elts kk tpos) (.Call (.Name "enumerate" p) [e] [] pos) (iEnumT X.K ta) := by
  refine ⟨fun pins s σ H R I h => ?_⟩
  refine Call_ (ld_blt I hg hm boot_enumerate (PyProof.Rows.callWith_type1 (thn (ha.run pos pins s σ H _ I h) fun us s1 ⟨vs, H1, I1, r1, q1⟩ => ?_) hs rfl))
  obtain ⟨a, xs, rfl, hq, q⟩ := q1
  rw [Vals.ref1 r1]
  obtain ⟨its, rv, ht, hz⟩ := I1.tuple hq
  refine begins (begins_tuple a its.toArray) ht fun h1 he1 hi1 hz1 hk1 => ?_
  refine wpAny_pyIter_enum he1 ?_
  have hal : a < s1.heap.objs.size := by obtain ⟨o, y, _⟩ := ht; exact Heap.lt_size y
  have I2 := I1.kept (t' := s1.toks) hk1
  refine ⟨s1.heap.objs.size + 1, [s1.heap.objs.size + 1, s1.heap.objs.size], _, IteT X.K a, H1, rfl, I2, turn_enumT a (s1.heap.objs.size + 1) s1.heap.objs.size, ⟨⟨_, he1⟩, ⟨_, hi1, rfl, rfl⟩, Nat.succ_ne_self _, Nat.ne_of_lt hal, Nat.ne_of_lt (Nat.lt_succ_of_lt hal)⟩, fun b hb => ?_, q⟩
  have hle : s1.heap.objs.size ≤ b := by
    rcases List.mem_cons.mp hb with z | z
    · rw [z]; exact Nat.le_succ _
    · rw [List.mem_singleton.mp z]; exact Nat.le_refl _
  exact I1.fpOk hle (I1.hok.fresh hle)
end K02

/-! k02, part n: what forms take is looked at. -/
namespace K02
open PySem L2 PySem.Spec PyProof.Rows K02E StX
abbrev sCheckTakes : Stmt := top 24
/-- a row of forms, by its values -/
structure FRow where
  n : V
  lo : Int
  hi : Int
  ts : List V
/-- a text or None, with a short repr -/
def FlatSh (x : V) : Prop := x = .non ∨ ∃ z, x = .str z ∧ Sh z ∧ (reprText z).length ≤ 500
theorem FlatSh.flat {x : V} (h : FlatSh x) : flatV x = true := by
  rcases h with rfl | ⟨z, rfl, _⟩ <;> rfl
theorem FlatSh.rep {P : Program} {w : World} {K : PySem.W.Frag} {H : Hp} {x : V} (h : FlatSh x) : K02Q.RepV P w K H x := by
  rcases h with rfl | ⟨z, rfl, h1, h2⟩
  · exact rep_shw (d := .none) .non (.inl trivial)
  · exact rep_shw (d := .str z) (.str z h1) (.inl h2)
structure FRow.Ok (r : FRow) : Prop where
  n : FlatSh r.n
  ts : ∀ x ∈ r.ts, FlatSh x
  few : r.ts.length ≤ 100
/-- at v the row is to be read -/
def RowV (H : Hp) (v : V) (r : FRow) : Prop := ∃ a t, v = .ref a ∧ SqD H a [r.n, .int r.lo, .int r.hi, .ref t] ∧ SqD H t r.ts
theorem RowV.same {H H' : Hp} {v : V} {r : FRow} (x : RowV H v r) (s : Same H H') : RowV H' v r := by
  obtain ⟨a, t, e, h1, h2⟩ := x
  exact ⟨a, t, e, h1.same s, h2.same s⟩
inductive RowsV (H : Hp) : List V → List FRow → Prop
  | nil : RowsV H [] []
  | cons {v : V} {vs : List V} {r : FRow} {rs : List FRow} : RowV H v r → RowsV H vs rs → RowsV H (v :: vs) (r :: rs)
theorem RowsV.same {H H' : Hp} (s : Same H H') : ∀ {vs : List V} {rs : List FRow}, RowsV H vs rs → RowsV H' vs rs
  | _, _, .nil => .nil
  | _, _, .cons r rs => .cons (r.same s) (RowsV.same s rs)
theorem RowsV.len {H : Hp} : ∀ {vs : List V} {rs : List FRow}, RowsV H vs rs → vs.length = rs.length
  | _, _, .nil => rfl
  | _, _, .cons _ rs => by rw [List.length_cons, List.length_cons, RowsV.len rs]
theorem RowsV.nth {H : Hp} : ∀ {vs : List V} {rs : List FRow} {i : Nat} {v : V}, RowsV H vs rs → vs[i]? = some v → ∃ r, rs[i]? = some r ∧ RowV H v r
  | _, _, 0, v, .cons r0 r, e => ⟨_, rfl, by cases e; exact r0⟩
  | _, _, i + 1, v, .cons r0 r, e => RowsV.nth (i := i) r e
/-- the first take of a row that is none (true: it is not known), from place i on -/
def takeErr (roots ts : List V) : Nat → List V → Option (Bool × V)
  | _, [] => none
  | i, x :: r => if inV x roots = false then some (true, x) else if inV x (ts.take i) = true then some (false, x) else takeErr roots ts (i + 1) r
def takesErr (roots : List V) : List FRow → Option (Bool × V)
  | [] => none
  | r :: rs => match takeErr roots r.ts 0 r.ts with
    | some e => some e
    | none => takesErr roots rs
abbrev rootsOf (rs : List FRow) : List V := .str "mix" :: rs.map FRow.n
/-- the take at each place ahead of i is right -/
def Fine (roots ts : List V) (i : Nat) : Prop := ∀ j x, j < i → ts[j]? = some x → inV x roots = true ∧ inV x (ts.take j) = false
theorem take_drop {roots ts : List V} : ∀ {i : Nat}, i ≤ ts.length → Fine roots ts i → takeErr roots ts 0 ts = takeErr roots ts i (ts.drop i)
  | 0, _, _ => by rw [List.drop_zero]
  | i + 1, hi, h => by
    rw [take_drop (i := i) (by omega) fun j x hj => h j x (by omega)]
    have hx : ts.drop i = ts[i] :: ts.drop (i + 1) := List.drop_eq_getElem_cons (by omega)
    obtain ⟨h1, h2⟩ := h i _ (Nat.lt_succ_self i) (List.getElem?_eq_getElem (by omega))
    rw [hx]
    show (if inV ts[i] roots = false then _ else if inV ts[i] (ts.take i) = true then _ else _) = _
    rw [if_neg (by rw [h1]; intro z; cases z), if_neg (by rw [h2]; exact Bool.false_ne_true)]
theorem takes_drop {roots : List V} : ∀ {rs : List FRow} {i : Nat}, (∀ r ∈ rs.take i, takeErr roots r.ts 0 r.ts = none) → takesErr roots rs = takesErr roots (rs.drop i)
  | [], i, _ => by rw [List.drop_nil]
  | r :: rs, 0, _ => by rw [List.drop_zero]
  | r :: rs, i + 1, h => by
    rw [List.drop_succ_cons, ← takes_drop (rs := rs) (i := i) fun r hr => h r (List.mem_cons_of_mem _ hr)]
    show (match takeErr roots r.ts 0 r.ts with | some e => some e | none => takesErr roots rs) = _
    rw [h r List.mem_cons_self]
def spCheckTakes (CU CT : Addr) : Sp := fun vs H Q E => ∃ F xs rs, vs = [.ref F] ∧ H F = some (.lst xs) ∧ RowsV H xs rs ∧ (∀ r ∈ rs, r.Ok) ∧ rs.length ≤ 100 ∧ match takesErr (rootsOf rs) rs with
  | some (b, v) => ∀ H' dd, Same H H' → H dd = none → H' dd = some (.xd [("name", v)]) → E (.ref (if b = true then CU else CT)) (some dd) H'
  | none => ∀ H', Same H H' → Q .non H'
theorem sl_seq {X : Cx} : SlR X (fun x lo hi H Q => rSlL X.K x lo hi H Q ∨ rSlT X.K x lo hi H Q) := by
  intro pins s σ H x v vl vu lo hi sl Q I rx hs pl pu h
  exact h.elim (sl_list pins s σ H x v vl vu lo hi sl Q I rx hs pl pu) (sl_tup pins s σ H x v vl vu lo hi sl Q I rx hs pl pu)
end K02

/-! k02, part o: check_takes. -/
namespace K02
open PySem L2 PySem.Spec PyProof.Rows K02E StX
theorem cut_take {xs : List V} {i : Nat} (hi : i ≤ xs.length) : cutV xs none (some (i : Int)) = xs.take i := by
  unfold cutV
  rw [HT.sIx_nat, HT.sIx_none, Nat.min_eq_left hi, List.drop_zero, Nat.sub_zero]
theorem unkO : K02R.FldOk "name" "not known: " := ⟨rfl, rfl, rfl, rfl, by decide⟩
section
variable {P : Program} {w : World} {K : PySem.W.Frag} {mg : Str → Option Value} {base : Heap}
theorem scCheckTakes : FnScope ["forms", "roots", "row", "number", "root"] ["forms"] (defScope sCheckTakes) := ⟨rfl, rfl, rfl, by decide +kernel, rfl, by decide +kernel, by decide +kernel⟩
theorem ok_checktakes {f CU CT fU fT : Addr} {fd : FuncData} (F : Fun K "check_takes" "check_takes" sCheckTakes f fd) (N : Nms mg) (htop : (P.main.scope.names.lookup ("super" : Str)).isSome = false)
    (TU : K02R.ErrTxt P K mg CU fU "Unknown" "Unknown.__init__" "name" "not known: ") (TT : K02R.ErrTxt P K mg CT fT "Twice" "Twice.__init__" "name" "the name has come already: ") :
    FnOk P w K mg base (L2.CX P w) 5 f fd ["forms"] (spCheckTakes CU CT) := by
  refine F.okX scCheckTakes (fun vs H Q E h => ?_) (fun cdv A outer s H vs Q E hr h => ?_)
  · obtain ⟨L, xs, rs, rfl, _⟩ := h
    rfl
  · obtain ⟨L, xs, rs, rfl, hL, rows, ok, few, k⟩ := h
    have nd := scCheckTakes.nd
    have hlen : xs.length = rs.length := rows.len
    refine ⟨_, pss_cons (ps_set (i := 1) nd rfl (Or.inl rfl) (pe_lst (pa_cons pe_str (pa_star (pe_lc (own := [("row", 2)]) (g := gName 2) (tt := tYes) (te := tOp (rIx K) (tVar 2) (tC (.int 0))) rfl nd (pi_list (pv 0)) (blkOk_by (N := ["forms", "roots", "row", "number", "root"]) (sc := defScope sCheckTakes) (by decide +kernel)) (fun _ _ _ _ _ => pg_name (i := 2) nd rfl (Or.inl rfl)) (fun _ _ _ _ _ => pts_nil)
          (fun _ _ _ _ _ => pe_ix ix_seq (pv 2) pe_int (fun _ _ => rfl))) pa_nil))))
      (pss_one (ps_for PassesOwn.leaving rfl (pi_list (pv 0)) (pg_name (i := 2) nd rfl (Or.inl rfl))
        (pss_one (ps_for PassesOwn.leaving rfl (pi_either (pi_enum (by rfl) N.enumerate (pa_cons (pe_ix ix_seq (pv 2) pe_int (fun _ _ => rfl)) pa_nil)) (pi_enumT (by rfl) N.enumerate (pa_cons (pe_ix ix_seq (pv 2) pe_int (fun _ _ => rfl)) pa_nil)))
            (pg_tup (by rfl) (pgs_cons (pg_name (i := 3) nd rfl (Or.inl rfl)) (pgs_cons (pg_name (i := 4) nd rfl (Or.inl rfl)) pgs_nil)))
          (pss_cons (ps_if (pt_cmpR op_notIn_seq (pv 4) (pv 1) rfl) (pss_one (K02Q.ps_raiseE (k := 2) rfl TU unkO hr htop (by intros; rfl) (takes_of rfl rfl rfl rfl) (pa_cons (pv 4) pa_nil) rfl rfl)) pss_nil)
          (pss_one (ps_if (pt_cmpR op_in_seq (pv 4) (pe_slice sl_seq (pe_ix ix_seq (pv 2) pe_int (fun _ _ => rfl)) po_none (po_some (pv 3))) rfl) (pss_one (K02Q.ps_raiseE (k := 2) rfl TT twiceO hr htop (by intros; rfl) (takes_of rfl rfl rfl rfl) (pa_cons (pv 4) pa_nil) rfl rfl)) pss_nil))))))), ?_⟩
    refine ⟨_, rfl, L, rfl, ⟨_, SqL.of hL⟩, fun D nD => ?_⟩
    refine lc_it (walk_list (K := K) (a := L) (xs := xs)) (fun i H1 => Same H H1 ∧ H1 D = some (.lst ((rs.take i).map FRow.n))) ⟨same_new Same.rfl' nD, upd_same⟩ (fun _ _ _ h => SqL.of (h.1 _ _ hL)) ?_ ?_
    · rintro i y H1 H2 hi ⟨s1, d1⟩ ⟨rfl, hy⟩
      obtain ⟨r, hri, a, t, rfl, h1, h2⟩ := rows.nth hy
      refine ⟨rfl, yesT ⟨_, rfl, (h1.same s1).ix (atI_nat (j := 0) rfl) ⟨_, d1, ?_, same_put s1 nD, ?_⟩⟩⟩
      · rw [List.length_map, List.length_take]
        exact small1000 (Nat.le_trans (Nat.min_le_right _ _) (by omega))
      · rw [upd_same, List.take_add_one, hri, List.map_append]
        rfl
    rintro H1 ⟨s1, d1⟩
    rw [hlen, List.take_length] at d1
    refine ⟨D, _, rfl, .inr (SqL.of d1), (by show (rs.map FRow.n ++ []).length + 1 ≤ sizeLine; rw [List.append_nil, List.length_map]; exact Nat.le_of_lt (small1000 (by omega))), fun R nR => ?_⟩
    have hR : upd H1 R (.lst (.str "mix" :: (rs.map FRow.n ++ []))) R = some (.lst (rootsOf rs)) := by rw [upd_same, List.append_nil]
    have s2 := same_new (o := .lst (.str "mix" :: (rs.map FRow.n ++ []))) s1 nR
    have flatR : (rootsOf rs).all flatV = true := List.all_eq_true.mpr fun y hy => by
      rcases List.mem_cons.mp hy with rfl | hy
      · rfl
      · obtain ⟨r, hr', rfl⟩ := List.mem_map.mp hy
        exact (ok r hr').n.flat
    refine ⟨_, rfl, L, rfl, ⟨_, SqL.of (s2 _ _ hL)⟩, for_it (walk_list (K := K) (a := L) (xs := xs)) (fun i σ H' => Same H H' ∧ H' R = some (.lst (rootsOf rs)) ∧ (∀ r ∈ rs.take i, takeErr (rootsOf rs) r.ts 0 r.ts = none) ∧ ∃ p q t, σ = [some (.ref L), some (.ref R), p, q, t]) ⟨s2, hR, fun d hd => (by rw [List.take_zero] at hd; cases hd), _, _, _, rfl⟩ (fun i σ H' _ h => SqL.of (h.1 _ _ hL)) ?_ ?_⟩
    · rintro i y σ1 H2 H3 hi ⟨s3, hR3, good, p, q, t0, rfl⟩ ⟨rfl, hy⟩
      obtain ⟨r, hri, a, t, rfl, h1, h2⟩ := rows.nth hy
      have okr := ok r (List.mem_of_getElem? hri)
      have hi' : i < rs.length := by omega
      have at3 : atI [r.n, V.int r.lo, V.int r.hi, V.ref t] 3 = some (.ref t) := atI_nat (j := 3) rfl
      have told : ∀ e, takeErr (rootsOf rs) r.ts 0 r.ts = some e → takesErr (rootsOf rs) rs = some e := fun e he => by
        have hri' : rs[i] = r := by rw [List.getElem?_eq_getElem hi'] at hri; exact Option.some.inj hri
        rw [takes_drop good, List.drop_eq_getElem_cons hi', hri']
        show (match takeErr (rootsOf rs) r.ts 0 r.ts with | some e => some e | none => _) = _
        rw [he]
      have flat : ∀ n, (r.ts.take n).all flatV = true := fun n => List.all_eq_true.mpr fun z hz => (okr.ts z (List.mem_of_mem_take hz)).flat
      have h1' := h1.same s3
      rcases h2.same s3 with hT | hT
      · refine .inl ⟨_, rfl, h1'.ix at3 ⟨t, r.ts, rfl, SqL.of hT, for_it (walk_enum (K := K) (a := t) (xs := r.ts)) (fun i σ H' => Same H3 H' ∧ H' R = some (.lst (rootsOf rs)) ∧ Fine (rootsOf rs) r.ts i ∧ ∃ p q, σ = [some (.ref L), some (.ref R), some (.ref a), p, q]) ⟨Same.rfl', hR3, fun j x hj => absurd hj (Nat.not_lt_zero _), _, _, rfl⟩ (fun i σ H' _ h => SqL.of (h.1 _ _ hT)) ?_ ?_⟩⟩
        · rintro i' y σ2 H4 H5 hi2 ⟨s4, hR4, fine, p2, q2, rfl⟩ ⟨T, e0, x, rfl, nT, rfl, e1, hx⟩
          cases e1
          have hx' : r.ts[i']? = some x := hx
          have s5 := same_new (o := .tup [.int (i' : Nat), x]) s4 nT
          have s05 := s3.trans s5
          have hR5 : upd H4 T (.tup [.int (i' : Nat), x]) R = some (.lst (rootsOf rs)) := by rw [upd_ne (ne_of_none hR4 nT)]; exact hR4
          have fx := okr.ts x (List.mem_of_getElem? hx')
          have hxi : r.ts[i'] = x := by rw [List.getElem?_eq_getElem hi2] at hx'; exact Option.some.inj hx'
          refine ⟨T, _, rfl, SqT.of upd_same, rfl, _, _, rfl, _, _, rfl, rfl, ?_⟩
          refine ⟨_, rfl, _, rfl, R, rootsOf rs, rfl, .inl (SqL.of hR5), fx.flat, flatR, _, rfl, ?_⟩
          cases e : inV x (rootsOf rs) with
          | false =>
            have te : takeErr (rootsOf rs) r.ts 0 r.ts = some (true, x) := by
              rw [take_drop (Nat.le_of_lt hi2) fine, List.drop_eq_getElem_cons hi2, hxi]
              show (if inV x (rootsOf rs) = false then _ else _) = _
              rw [if_pos e]
            rw [told _ te] at k
            exact iteT ⟨_, rfl, _, rfl, fx.rep, fun dd hdd => k _ dd (same_new s05 hdd) (none_of s05 hdd) upd_same⟩
          | true =>
            refine iteF ⟨_, rfl, _, rfl, (h1'.same s5).ix at3 ⟨_, rfl, _, rfl, .inl ⟨t, r.ts, rfl, SqL.of (s5 _ _ hT), fun C nC => ?_⟩⟩⟩
            rw [cut_take (Nat.le_of_lt hi2)]
            have s6 := same_new (o := .lst (r.ts.take i')) s5 nC
            have s06 := s3.trans s6
            have hR6 : upd (upd H4 T (.tup [.int (i' : Nat), x])) C (.lst (r.ts.take i')) R = some (.lst (rootsOf rs)) := by rw [upd_ne (ne_of_none hR5 nC)]; exact hR5
            refine ⟨C, r.ts.take i', rfl, .inl (SqL.of upd_same), fx.flat, flat i', _, rfl, ?_⟩
            cases e2 : inV x (r.ts.take i') with
            | true =>
              have te : takeErr (rootsOf rs) r.ts 0 r.ts = some (false, x) := by
                rw [take_drop (Nat.le_of_lt hi2) fine, List.drop_eq_getElem_cons hi2, hxi]
                show (if inV x (rootsOf rs) = false then _ else if inV x (r.ts.take i') = true then _ else _) = _
                rw [if_neg (by rw [e]; intro z; cases z), if_pos e2]
              rw [told _ te] at k
              exact iteT ⟨_, rfl, _, rfl, fx.rep, fun dd hdd => k _ dd (same_new s06 hdd) (none_of s06 hdd) upd_same⟩
            | false =>
              refine iteF ⟨s6, hR6, fun j x' hj hx2 => ?_, _, _, rfl⟩
              by_cases hji : j = i'
              · subst hji
                rw [hx'] at hx2
                cases hx2
                exact ⟨e, e2⟩
              · exact fine j x' (by omega) hx2
        · rintro σ2 H4 ⟨s4, hR4, fine, p2, q2, rfl⟩
          refine ⟨s3.trans s4, hR4, fun r' hr' => ?_, _, _, _, rfl⟩
          rw [List.take_add_one, hri] at hr'
          rcases List.mem_append.mp hr' with z | z
          · exact good r' z
          · rw [Option.toList_some, List.mem_singleton] at z
            rw [z, take_drop (Nat.le_refl _) fine, List.drop_length]
            rfl
      · refine .inr ⟨_, rfl, h1'.ix at3 ⟨t, r.ts, rfl, SqT.of hT, for_it (walk_enumT (K := K) (a := t) (xs := r.ts)) (fun i σ H' => Same H3 H' ∧ H' R = some (.lst (rootsOf rs)) ∧ Fine (rootsOf rs) r.ts i ∧ ∃ p q, σ = [some (.ref L), some (.ref R), some (.ref a), p, q]) ⟨Same.rfl', hR3, fun j x hj => absurd hj (Nat.not_lt_zero _), _, _, rfl⟩ (fun i σ H' _ h => SqT.of (h.1 _ _ hT)) ?_ ?_⟩⟩
        · rintro i' y σ2 H4 H5 hi2 ⟨s4, hR4, fine, p2, q2, rfl⟩ ⟨T, e0, x, rfl, nT, rfl, e1, hx⟩
          cases e1
          have hx' : r.ts[i']? = some x := hx
          have s5 := same_new (o := .tup [.int (i' : Nat), x]) s4 nT
          have s05 := s3.trans s5
          have hR5 : upd H4 T (.tup [.int (i' : Nat), x]) R = some (.lst (rootsOf rs)) := by rw [upd_ne (ne_of_none hR4 nT)]; exact hR4
          have fx := okr.ts x (List.mem_of_getElem? hx')
          have hxi : r.ts[i'] = x := by rw [List.getElem?_eq_getElem hi2] at hx'; exact Option.some.inj hx'
          refine ⟨T, _, rfl, SqT.of upd_same, rfl, _, _, rfl, _, _, rfl, rfl, ?_⟩
          refine ⟨_, rfl, _, rfl, R, rootsOf rs, rfl, .inl (SqL.of hR5), fx.flat, flatR, _, rfl, ?_⟩
          cases e : inV x (rootsOf rs) with
          | false =>
            have te : takeErr (rootsOf rs) r.ts 0 r.ts = some (true, x) := by
              rw [take_drop (Nat.le_of_lt hi2) fine, List.drop_eq_getElem_cons hi2, hxi]
              show (if inV x (rootsOf rs) = false then _ else _) = _
              rw [if_pos e]
            rw [told _ te] at k
            exact iteT ⟨_, rfl, _, rfl, fx.rep, fun dd hdd => k _ dd (same_new s05 hdd) (none_of s05 hdd) upd_same⟩
          | true =>
            refine iteF ⟨_, rfl, _, rfl, (h1'.same s5).ix at3 ⟨_, rfl, _, rfl, .inr ⟨t, r.ts, rfl, SqT.of (s5 _ _ hT), (fun z => by have := z.2; rw [HT.sIx_nat, Nat.min_eq_left (Nat.le_of_lt hi2)] at this; omega), fun C nC => ?_⟩⟩⟩
            rw [cut_take (Nat.le_of_lt hi2)]
            have s6 := same_new (o := .tup (r.ts.take i')) s5 nC
            have s06 := s3.trans s6
            have hR6 : upd (upd H4 T (.tup [.int (i' : Nat), x])) C (.tup (r.ts.take i')) R = some (.lst (rootsOf rs)) := by rw [upd_ne (ne_of_none hR5 nC)]; exact hR5
            refine ⟨C, r.ts.take i', rfl, .inr (SqT.of upd_same), fx.flat, flat i', _, rfl, ?_⟩
            cases e2 : inV x (r.ts.take i') with
            | true =>
              have te : takeErr (rootsOf rs) r.ts 0 r.ts = some (false, x) := by
                rw [take_drop (Nat.le_of_lt hi2) fine, List.drop_eq_getElem_cons hi2, hxi]
                show (if inV x (rootsOf rs) = false then _ else if inV x (r.ts.take i') = true then _ else _) = _
                rw [if_neg (by rw [e]; intro z; cases z), if_pos e2]
              rw [told _ te] at k
              exact iteT ⟨_, rfl, _, rfl, fx.rep, fun dd hdd => k _ dd (same_new s06 hdd) (none_of s06 hdd) upd_same⟩
            | false =>
              refine iteF ⟨s6, hR6, fun j x' hj hx2 => ?_, _, _, rfl⟩
              by_cases hji : j = i'
              · subst hji
                rw [hx'] at hx2
                cases hx2
                exact ⟨e, e2⟩
              · exact fine j x' (by omega) hx2
        · rintro σ2 H4 ⟨s4, hR4, fine, p2, q2, rfl⟩
          refine ⟨s3.trans s4, hR4, fun r' hr' => ?_, _, _, _, rfl⟩
          rw [List.take_add_one, hri] at hr'
          rcases List.mem_append.mp hr' with z | z
          · exact good r' z
          · rw [Option.toList_some, List.mem_singleton] at z
            rw [z, take_drop (Nat.le_refl _) fine, List.drop_length]
            rfl
    · rintro σ1 H2 ⟨s3, hR3, good, p, q, t0, rfl⟩
      have fb : takesErr (rootsOf rs) rs = none := by
        rw [takes_drop (i := rs.length) (by rw [hlen] at good; exact good), List.drop_length]
        rfl
      rw [fb] at k
      exact k _ s3
end
end K02

/-! k02, part p: the class Stock, how it is made. -/
namespace K02
open PySem L2 PySem.Spec PyProof.Rows K02E StX K02X
abbrev sStock : Stmt := top 20
abbrev sSInit : Stmt := inClass sStock 0
/-- the class of stocks, as the top has made it -/
structure StockC (K : PySem.W.Frag) (C : Addr) : Prop where
  cl : Cls K C
  n1 : NoAttr K C "stuffs"
  n2 : NoAttr K C "states"
  n3 : NoAttr K C "lands"
  n4 : NoAttr K C "forms"
  n5 : NoAttr K C "_rows"
  n6 : NoAttr K C "memory"
  n7 : NoAttr K C "_names"
abbrev stockFs (a1 a2 a3 a4 a5 a6 a7 : Addr) : List (Str × V) := [("stuffs", .ref a1), ("states", .ref a2), ("lands", .ref a3), ("forms", .ref a4), ("_rows", .ref a5), ("memory", .ref a6), ("_names", .ref a7)]
def rTupOf (K : PySem.W.Frag) : List V → Hp → VK → Prop := fun xs H Q => ∃ p ys, xs = [.ref p] ∧ ((SqL K H p ys ∧ ∀ l, H l = none → Q (.ref l) (upd H l (.tup ys))) ∨ (SqT K H p ys ∧ Q (.ref p) H))
theorem call_tupOf {X : Cx} : CallR X (.type "tuple") (rTupOf X.K) := call_tuple_of
abbrev tAt (K : PySem.W.Frag) (i : Nat) (j : Int) : TE := tOp (rIx K) (tVar i) (tC (.int j))
abbrev tAtT (K : PySem.W.Frag) (i : Nat) (j : Int) : TE := tOp (rIxT K) (tVar i) (tC (.int j))
section
variable {P : Program} {w : World} {K : PySem.W.Frag} {mg : Str → Option Value} {base : Heap}
theorem scSInit : FnScope ["self", "stuffs", "states", "lands", "forms", "row"] ["self", "stuffs", "states", "lands", "forms"] (defScope sSInit) := ⟨rfl, rfl, rfl, by decide +kernel, rfl, by decide +kernel, by decide +kernel⟩
end
end K02

/-! k02, part q: a stock as it stands in memory. -/
namespace K02
open PySem L2 PySem.Spec PyProof.Rows K02E StX K02X
/-- all but the thing at x stands -/
def Kx (x : Addr) (H H' : Hp) : Prop := ∀ b u, b ≠ x → H b = some u → H' b = some u
theorem Kx.refl (x : Addr) (H : Hp) : Kx x H H := fun _ _ _ e => e
theorem Kx.of {x : Addr} {H H' : Hp} (s : Same H H') : Kx x H H' := fun b u _ e => s b u e
theorem Kx.trans {x : Addr} {H H1 H2 : Hp} (s : Kx x H H1) (t : Kx x H1 H2) : Kx x H H2 := fun b u n e => t b u n (s b u n e)
theorem Kx.put {x : Addr} {H H' : Hp} {o : HO} (s : Kx x H H') : Kx x H (upd H' x o) := fun b u n e => by rw [upd_ne n]; exact s b u n e
theorem Kx.new {x p : Addr} {H H' : Hp} {o : HO} (s : Kx x H H') (n : H' p = none) : Kx x H (upd H' p o) := fun b u nb e => by
  rw [upd_ne (ne_of_none (s b u nb e) n)]
  exact s b u nb e
/-- tuples stand -/
def Tk (H H' : Hp) : Prop := ∀ a xs, H a = some (.tup xs) → H' a = some (.tup xs)
theorem Tk.of {H H' : Hp} (s : Same H H') : Tk H H' := fun a xs e => s a _ e
theorem Tk.trans {H H1 H2 : Hp} (s : Tk H H1) (t : Tk H1 H2) : Tk H H2 := fun a xs e => t a xs (s a xs e)
theorem Tk.kx {x : Addr} {H H' : Hp} {o : HO} (hx : H x = some o) (ho : ∀ xs, o ≠ .tup xs) (s : Kx x H H') : Tk H H' := fun a xs e => s a _ (fun z => by rw [z, hx] at e; cases e; exact ho _ rfl) e
theorem Tk.put {H H' : Hp} {x : Addr} {o o' : HO} (s : Tk H H') (hx : H' x = some o) (ho : ∀ xs, o ≠ .tup xs) : Tk H (upd H' x o') := fun a xs e => by
  rw [upd_ne (fun z => by have q := s a xs e; rw [z, hx] at q; cases q; exact ho _ rfl)]
  exact s a xs e
theorem Tk.new {H H' : Hp} {p : Addr} {o : HO} (s : Tk H H') (n : H' p = none) : Tk H (upd H' p o) := fun a xs e => by
  rw [upd_ne (ne_of_none (s a xs e) n)]
  exact s a xs e
theorem SqD.kx {x a : Addr} {H H' : Hp} {C dx : Addr} {fs : List (Str × V)} {xs : List V} (hx : H x = some (.ins C dx fs)) (s : Kx x H H') (h : SqD H a xs) : SqD H' a xs :=
  h.imp (fun e => s a _ (ne_of e hx (by intro z; cases z)) e) (fun e => s a _ (ne_of e hx (by intro z; cases z)) e)
theorem RowV.kx {x : Addr} {H H' : Hp} {C dx : Addr} {fs : List (Str × V)} {v : V} {r : FRow} (hx : H x = some (.ins C dx fs)) (s : Kx x H H') (h : RowV H v r) : RowV H' v r := by
  obtain ⟨a, t, e, h1, h2⟩ := h
  exact ⟨a, t, e, h1.kx hx s, h2.kx hx s⟩
theorem RowsV.kx {x : Addr} {H H' : Hp} {C dx : Addr} {fs : List (Str × V)} (hx : H x = some (.ins C dx fs)) (s : Kx x H H') : ∀ {vs : List V} {rs : List FRow}, RowsV H vs rs → RowsV H' vs rs
  | _, _, .nil => .nil
  | _, _, .cons r rs => .cons (r.kx hx s) (RowsV.kx hx s rs)
theorem SqD.st {K : PySem.W.Frag} {H : Hp} {a : Addr} {xs : List V} (h : SqD H a xs) : SqT K H a xs ∨ SqL K H a xs := h.elim (fun e => .inr (SqL.of e)) (fun e => .inl (SqT.of e))
theorem tupOf_any {K : PySem.W.Frag} {H : Hp} {p : Addr} {ys : List V} {Q : VK} (h : SqD H p ys) (k : ∀ a H', Same H H' → H' a = some (.tup ys) → Q (.ref a) H') : rTupOf K [.ref p] H Q :=
  ⟨p, ys, rfl, h.elim (fun e => .inl ⟨SqL.of e, fun l nl => k l _ (same_new Same.rfl' nl) upd_same⟩) (fun e => .inr ⟨SqT.of e, k p H Same.rfl' e⟩)⟩
theorem tupOf_call {K : PySem.W.Frag} {i : Nat} {σ : L2.St} {H : Hp} {p : Addr} {ys : List V} {Q : VK} (e : σ[i]? = some (some (.ref p))) (h : SqD H p ys) (k : ∀ a H', Same H H' → H' a = some (.tup ys) → Q (.ref a) H') : tCB (rTupOf K) (tCons (tVar i) tNil) σ H Q :=
  ⟨_, e, tupOf_any h k⟩
theorem tupOf_ix {K : PySem.W.Frag} {i : Nat} {j : Int} {σ : L2.St} {H : Hp} {a p : Addr} {xs ys : List V} {Q : VK} (e : σ[i]? = some (some (.ref a))) (ha : SqD H a xs) (hj : atI xs j = some (.ref p)) (h : SqD H p ys) (k : ∀ a H', Same H H' → H' a = some (.tup ys) → Q (.ref a) H') :
    tCB (rTupOf K) (tCons (tAt K i j) tNil) σ H Q := ⟨_, e, ha.ix hj (tupOf_any h k)⟩
/-- the rows of forms of a stock: tuples throughout -/
inductive RowsT (H : Hp) : List V → List FRow → Prop
  | nil : RowsT H [] []
  | cons {q t : Addr} {r : FRow} {vs : List V} {rs : List FRow} : H q = some (.tup [r.n, .int r.lo, .int r.hi, .ref t]) → H t = some (.tup r.ts) → RowsT H vs rs → RowsT H (.ref q :: vs) (r :: rs)
theorem RowsT.mono {H H' : Hp} (s : Tk H H') : ∀ {vs : List V} {rs : List FRow}, RowsT H vs rs → RowsT H' vs rs
  | _, _, .nil => .nil
  | _, _, .cons e1 e2 r => .cons (s _ _ e1) (s _ _ e2) (RowsT.mono s r)
theorem RowsT.len {H : Hp} : ∀ {vs : List V} {rs : List FRow}, RowsT H vs rs → vs.length = rs.length
  | _, _, .nil => rfl
  | _, _, .cons _ _ r => by rw [List.length_cons, List.length_cons, RowsT.len r]
theorem RowsT.snoc {H : Hp} {q t : Addr} {r : FRow} (e1 : H q = some (.tup [r.n, .int r.lo, .int r.hi, .ref t])) (e2 : H t = some (.tup r.ts)) : ∀ {vs : List V} {rs : List FRow}, RowsT H vs rs → RowsT H (vs ++ [.ref q]) (rs ++ [r])
  | _, _, .nil => .cons e1 e2 .nil
  | _, _, .cons a b c => .cons a b (RowsT.snoc e1 e2 c)
theorem RowsT.nth {H : Hp} : ∀ {vs : List V} {rs : List FRow} {i : Nat} {v : V}, RowsT H vs rs → vs[i]? = some v → ∃ r q t, rs[i]? = some r ∧ v = .ref q ∧ H q = some (.tup [r.n, .int r.lo, .int r.hi, .ref t]) ∧ H t = some (.tup r.ts)
  | _, _, 0, v, .cons a b c, e => by cases e; exact ⟨_, _, _, rfl, rfl, a, b⟩
  | _, _, i + 1, v, .cons a b c, e => RowsT.nth (i := i) c e
/-- the dict of rows by their names -/
inductive RowsK (H : Hp) : List (Key × V) → List FRow → Prop
  | nil : RowsK H [] []
  | cons {z : Str} {q t : Addr} {r : FRow} {kvs : List (Key × V)} {rs : List FRow} : r.n = .str z → H q = some (.tup [.int r.lo, .int r.hi, .ref t]) → H t = some (.tup r.ts) → RowsK H kvs rs → RowsK H ((Sum.inr z, .ref q) :: kvs) (r :: rs)
theorem RowsK.mono {H H' : Hp} (s : Tk H H') : ∀ {vs : List (Key × V)} {rs : List FRow}, RowsK H vs rs → RowsK H' vs rs
  | _, _, .nil => .nil
  | _, _, .cons e0 e1 e2 r => .cons e0 (s _ _ e1) (s _ _ e2) (RowsK.mono s r)
theorem RowsK.len {H : Hp} : ∀ {vs : List (Key × V)} {rs : List FRow}, RowsK H vs rs → vs.length = rs.length
  | _, _, .nil => rfl
  | _, _, .cons _ _ _ r => by rw [List.length_cons, List.length_cons, RowsK.len r]
theorem RowsK.snoc {H : Hp} {z : Str} {q t : Addr} {r : FRow} (e0 : r.n = .str z) (e1 : H q = some (.tup [.int r.lo, .int r.hi, .ref t])) (e2 : H t = some (.tup r.ts)) : ∀ {vs : List (Key × V)} {rs : List FRow}, RowsK H vs rs → RowsK H (vs ++ [(Sum.inr z, .ref q)]) (rs ++ [r])
  | _, _, .nil => .cons e0 e1 e2 .nil
  | _, _, .cons a b c d => .cons a b c (RowsK.snoc e0 e1 e2 d)
theorem RowsK.miss {H : Hp} {z : Str} : ∀ {vs : List (Key × V)} {rs : List FRow}, RowsK H vs rs → (∀ r ∈ rs, r.n ≠ .str z) → valV vs (Sum.inr z) = none
  | _, _, .nil, _ => rfl
  | _, _, @RowsK.cons _ z0 q t r kvs rs e0 _ _ c, h => by
    have ne : ¬ ((Sum.inr z0 : Key) = Sum.inr z) := fun e => h r List.mem_cons_self (by rw [e0]; cases e; rfl)
    rw [valV_neg (p := ((Sum.inr z0 : Key), V.ref q)) ne]
    exact RowsK.miss c fun r hr => h r (List.mem_cons_of_mem _ hr)
/-- names that differ from all ahead of them -/
def Apart (xs : List V) : Prop := ∀ j x, xs[j]? = some x → inV x (xs.take j) = false
theorem apart_of {xs : List V} : firstTwice xs 0 xs = none → Apart xs := by
  have key : ∀ (r : List V) (i : Nat), firstTwice xs i r = none → ∀ j x, r[j]? = some x → inV x (xs.take (i + j)) = false := by
    intro r
    induction r with
    | nil => intro i _ j x e; cases j <;> cases e
    | cons a r ih =>
      intro i h j x e
      have h' : (if inV a (xs.take i) = true then some i else firstTwice xs (i + 1) r) = none := h
      by_cases c : inV a (xs.take i) = true
      · rw [if_pos c] at h'; cases h'
      · rw [if_neg c] at h'
        cases j with
        | zero => cases e; exact Bool.eq_false_iff.mpr c
        | succ j =>
          have q := ih (i + 1) h' j x e
          have e1 : i + (j + 1) = i + 1 + j := by omega
          rw [e1]
          exact q
  intro h j x e
  have q := key xs 0 h j x e
  rwa [Nat.zero_add] at q
theorem inV_mem {z : Str} {xs : List V} (h : V.str z ∈ xs) : inV (.str z) xs = true := List.any_eq_true.mpr ⟨_, h, by show eqV (.str z) (.str z) = true; simp [eqV]⟩
/-- two rows have not one name -/
theorem Apart.rows {a : List V} {rs : List FRow} (h : Apart (a ++ rs.map FRow.n)) {i : Nat} {r : FRow} {z : Str} (hi : rs[i]? = some r) (hz : r.n = .str z) : ∀ r' ∈ rs.take i, r'.n ≠ .str z := by
  intro r' hr' e
  have lt : i < rs.length := (List.getElem?_eq_some_iff.mp hi).1
  have e1 : (a ++ rs.map FRow.n)[a.length + i]? = some (.str z) := by
    rw [List.getElem?_append_right (by omega), Nat.add_sub_cancel_left, List.getElem?_map, hi]
    exact congrArg some hz
  have q := h _ _ e1
  have mem : V.str z ∈ (a ++ rs.map FRow.n).take (a.length + i) := by
    rw [List.take_append, List.take_of_length_le (by omega), Nat.add_sub_cancel_left, ← List.map_take]
    exact List.mem_append.mpr (.inr (List.mem_map.mpr ⟨r', hr', e⟩))
  rw [inV_mem mem] at q
  cases q
abbrev allNames (s t l : List V) (rs : List FRow) : List V := s ++ (t ++ (l ++ rs.map FRow.n))
/-- a stock stands at x -/
structure StkF (H : Hp) (CS x : Addr) (s t l : List V) (rs : List FRow) : Prop where
  ex : ∃ dx a1 a2 a3 a4 a5 a6 a7 fs kvs, H x = some (.ins CS dx (stockFs a1 a2 a3 a4 a5 a6 a7)) ∧ H a1 = some (.tup s) ∧ H a2 = some (.tup t) ∧ H a3 = some (.tup l) ∧ H a4 = some (.tup fs) ∧ RowsT H fs rs ∧
    H a5 = some (.dK kvs) ∧ RowsK H kvs rs ∧ H a6 = some (.dK []) ∧ H a7 = some (.tup (allNames s t l rs))
  nm : ∀ y ∈ allNames s t l rs, ∃ z, y = .str z ∧ nmS z = true ∧ Sh z
  ts : ∀ r ∈ rs, (∀ x ∈ r.ts, FlatSh x) ∧ r.ts.length ≤ 100
theorem StkF.flat {H : Hp} {CS x : Addr} {s t l : List V} {rs : List FRow} (h : StkF H CS x s t l rs) : (allNames s t l rs).all flatV = true := List.all_eq_true.mpr fun y hy => by
  obtain ⟨z, rfl, _⟩ := h.nm y hy
  rfl
theorem StkF.row {H : Hp} {CS x : Addr} {s t l : List V} {rs : List FRow} (h : StkF H CS x s t l rs) {r : FRow} (hr : r ∈ rs) : ∃ z, r.n = .str z ∧ nmS z = true ∧ Sh z :=
  h.nm _ (List.mem_append.mpr (.inr (List.mem_append.mpr (.inr (List.mem_append.mpr (.inr (List.mem_map.mpr ⟨r, hr, rfl⟩)))))))
theorem StkF.same {H H' : Hp} {CS x : Addr} {s t l : List V} {rs : List FRow} (h : StkF H CS x s t l rs) (e : Same H H') : StkF H' CS x s t l rs := by
  obtain ⟨dx, a1, a2, a3, a4, a5, a6, a7, fs, kvs, h0, h1, h2, h3, h4, h5, h6, h7, h8, h9⟩ := h.ex
  exact ⟨⟨dx, a1, a2, a3, a4, a5, a6, a7, fs, kvs, e _ _ h0, e _ _ h1, e _ _ h2, e _ _ h3, e _ _ h4, h5.mono (Tk.of e), e _ _ h6, h7.mono (Tk.of e), e _ _ h8, e _ _ h9⟩, h.nm, h.ts⟩
end K02

/-! k02, part u: a stock is made. -/
namespace K02
open PySem L2 PySem.Spec PyProof.Rows K02E StX K02X
/-- what Stock is handed, where its parts have the right shape -/
structure Told (H : Hp) (v1 v2 v3 v4 : V) (xs1 xs2 xs3 xs4 : List V) (ds : List PyData) (rs : List FRow) : Prop where
  i1 : ∃ a, v1 = .ref a ∧ SqD H a xs1
  i2 : ∃ a, v2 = .ref a ∧ SqD H a xs2
  i3 : ∃ a, v3 = .ref a ∧ SqD H a xs3
  i4 : ∃ a, v4 = .ref a ∧ H a = some (.lst xs4)
  rows : RowsV H xs4 rs
  rps : Rps H (allNames xs1 xs2 xs3 rs) ds
  shw : ∀ d ∈ ds, shw d
  ts : ∀ r ∈ rs, (∀ x ∈ r.ts, FlatSh x) ∧ r.ts.length ≤ 100
  few : ds.length ≤ 100
theorem Told.rsfew {H : Hp} {v1 v2 v3 v4 : V} {xs1 xs2 xs3 xs4 : List V} {ds : List PyData} {rs : List FRow} (T : Told H v1 v2 v3 v4 xs1 xs2 xs3 xs4 ds rs) : rs.length ≤ 100 ∧ (allNames xs1 xs2 xs3 rs).length ≤ 100 := by
  have h := T.rps.length
  have f := T.few
  have : (allNames xs1 xs2 xs3 rs).length = xs1.length + (xs2.length + (xs3.length + rs.length)) := by
    show (xs1 ++ (xs2 ++ (xs3 ++ rs.map FRow.n))).length = _
    rw [List.length_append, List.length_append, List.length_append, List.length_map]
  omega
theorem Rps.mem {H : Hp} : ∀ {vs : List V} {ds : List PyData} {v : V}, Rps H vs ds → v ∈ vs → ∃ d, Rp H v d
  | _, _, v, .cons r0 r, h => by
    rcases List.mem_cons.mp h with rfl | h
    · exact ⟨_, r0⟩
    · exact Rps.mem r h
/-- Stock.__init__ -/
def spSInit (CS CB CN CT CU : Addr) : Sp := fun vs H Q E => ∃ x dx v1 v2 v3 v4 d1 d2 d3 d4, vs = [.ref x, v1, v2, v3, v4] ∧ H x = some (.ins CS dx []) ∧ Rp H v1 d1 ∧ Rp H v2 d2 ∧ Rp H v3 d3 ∧ Rp H v4 d4 ∧
  ((∃ z, partsErr d1 d2 d3 d4 = some z ∧ ∀ H' dd, Same H H' → H' dd = some (.xd [("part", .str z)]) → E (.ref CB) (some dd) H') ∨
    (partsErr d1 d2 d3 d4 = none ∧ ∃ xs1 xs2 xs3 xs4 ds rs, Told H v1 v2 v3 v4 xs1 xs2 xs3 xs4 ds rs ∧ match firstBad ds with
      | some i => ∀ v H' dd, (allNames xs1 xs2 xs3 rs)[i]? = some v → Same H H' → H' dd = some (.xd [("name", v)]) → E (.ref CN) (some dd) H'
      | none => match firstTwice (allNames xs1 xs2 xs3 rs) 0 (allNames xs1 xs2 xs3 rs) with
        | some i => ∀ v H' dd, (allNames xs1 xs2 xs3 rs)[i]? = some v → Same H H' → H' dd = some (.xd [("name", v)]) → E (.ref CT) (some dd) H'
        | none => match takesErr (rootsOf rs) rs with
          | some (b, v) => ∀ H' dd, Same H H' → H' dd = some (.xd [("name", v)]) → E (.ref (if b = true then CU else CT)) (some dd) H'
          | none => ∀ H', Kx x H H' → StkF H' CS x xs1 xs2 xs3 rs → Q .non H'))
section
variable {P : Program} {w : World} {K : PySem.W.Frag} {mg : Str → Option Value} {base : Heap}
theorem ok_sinit {f fP fN fT CS CB CN CT CU : Addr} {fd fdP fdN fdT : FuncData} (F : Fun K "__init__" "Stock.__init__" sSInit f fd) (N : Nms mg) (T : StockC K CS)
    (DP : Df K mg "check_parts" sCheckParts ["stuffs", "states", "lands", "forms"] fP fdP) (GP : FnOk P w K mg base (L2.CX P w) 5 fP fdP ["stuffs", "states", "lands", "forms"] (spCheckParts CB))
    (DN : Df K mg "check_names" sCheckNames ["names"] fN fdN) (GN : FnOk P w K mg base (L2.CX P w) 5 fN fdN ["names"] (spCheckNames CN CT))
    (DT : Df K mg "check_takes" sCheckTakes ["forms"] fT fdT) (GT : FnOk P w K mg base (L2.CX P w) 5 fT fdT ["forms"] (spCheckTakes CU CT)) :
    FnOk P w K mg base (L2.CX P w) 6 f fd ["self", "stuffs", "states", "lands", "forms"] (spSInit CS CB CN CT CU) := by
  refine F.okX scSInit (fun vs H Q E h => ?_) (fun cdv A outer s H vs Q E hr h => ?_)
  · obtain ⟨x, dx, v1, v2, v3, v4, d1, d2, d3, d4, rfl, _⟩ := h
    rfl
  · obtain ⟨x, dx, v1, v2, v3, v4, d1, d2, d3, d4, rfl, hx, t1, t2, t3, t4, h⟩ := h
    have nd := scSInit.nd
    refine ⟨_, pss_cons (ps_expr (pe_call GP hr rfl DP.g DP.F.kp DP.b .nil (passes_call (takes_of rfl rfl rfl rfl) (fun _ _ _ _ h => h)) (pa_cons (pv 1) (pa_cons (pv 2) (pa_cons (pv 3) (pa_cons (pv 4) pa_nil))))))
      (pss_cons (ps_expr (pe_call GN hr rfl DN.g DN.F.kp DN.b .nil (passes_call (takes_of rfl rfl rfl rfl) (fun _ _ _ _ h => h)) (pa_cons (pe_lst (pa_star (pv 1) (pa_star (pv 2) (pa_star (pv 3) (pa_star
          (pe_lc (own := [("row", 5)]) (g := gName 5) (tt := tYes) (te := tOp (rIx K) (tVar 5) (tC (.int 0))) rfl nd (pi_list (pv 4)) (blkOk_by (N := ["self", "stuffs", "states", "lands", "forms", "row"]) (sc := defScope sSInit) (by decide +kernel)) (fun _ _ _ _ _ => pg_name (i := 5) nd rfl (Or.inl rfl)) (fun _ _ _ _ _ => pts_nil)
            (fun _ _ _ _ _ => pe_ix ix_seq (pv 5) pe_int (fun _ _ => rfl))) pa_nil))))) pa_nil)))
      (pss_cons (ps_expr (pe_call GT hr rfl DT.g DT.F.kp DT.b .nil (passes_call (takes_of rfl rfl rfl rfl) (fun _ _ _ _ h => h)) (pa_cons (pv 4) pa_nil)))
      (pss_cons (ps_fld (pv 0) (pe_callTy call_tupOf (by rfl) N.tuple (by decide +kernel) (pa_cons (pv 1) pa_nil)) rfl)
      (pss_cons (ps_fld (pv 0) (pe_callTy call_tupOf (by rfl) N.tuple (by decide +kernel) (pa_cons (pv 2) pa_nil)) rfl)
      (pss_cons (ps_fld (pv 0) (pe_callTy call_tupOf (by rfl) N.tuple (by decide +kernel) (pa_cons (pv 3) pa_nil)) rfl)
      (pss_cons (ps_fld (pv 0) (pe_callTy call_tupOf (by rfl) N.tuple (by decide +kernel) (pa_cons
          (pe_lc (own := [("row", 5)]) (g := gName 5) (tt := tYes) (te := tTup (tCons (tAt K 5 0) (tCons (tAt K 5 1) (tCons (tAt K 5 2) (tCons (tCB (rTupOf K) (tCons (tAt K 5 3) tNil)) tNil))))) rfl nd (pi_list (pv 4)) (blkOk_by (N := ["self", "stuffs", "states", "lands", "forms", "row"]) (sc := defScope sSInit) (by decide +kernel)) (fun _ _ _ _ _ => pg_name (i := 5) nd rfl (Or.inl rfl)) (fun _ _ _ _ _ => pts_nil)
            (fun _ _ _ _ _ => pe_tup (pa_cons (pe_ix ix_seq (pv 5) pe_int (fun _ _ => rfl)) (pa_cons (pe_ix ix_seq (pv 5) pe_int (fun _ _ => rfl)) (pa_cons (pe_ix ix_seq (pv 5) pe_int (fun _ _ => rfl)) (pa_cons (pe_callTy call_tupOf (by rfl) N.tuple (by decide +kernel) (pa_cons (pe_ix ix_seq (pv 5) pe_int (fun _ _ => rfl)) pa_nil)) pa_nil)))))) pa_nil)) rfl)
      (pss_cons (ps_fld (pv 0) (pe_dc (own := [("row", 5)]) (g := gName 5) (tt := tYes) (tk := tAtT K 5 0) (tv := tTup (tCons (tAtT K 5 1) (tCons (tAtT K 5 2) (tCons (tAtT K 5 3) tNil)))) rfl nd (pi_tup (pe_fld (pv 0) rfl)) (blkOk_by (N := ["self", "stuffs", "states", "lands", "forms", "row"]) (sc := defScope sSInit) (by decide +kernel)) (fun _ _ _ _ _ => pg_name (i := 5) nd rfl (Or.inl rfl)) (fun _ _ _ _ _ => pts_nil)
          (fun _ _ _ _ _ => pe_ix ix_tup (pv 5) pe_int (fun _ _ => rfl)) (fun _ _ _ _ _ => pe_tup (pa_cons (pe_ix ix_tup (pv 5) pe_int (fun _ _ => rfl)) (pa_cons (pe_ix ix_tup (pv 5) pe_int (fun _ _ => rfl)) (pa_cons (pe_ix ix_tup (pv 5) pe_int (fun _ _ => rfl)) pa_nil))))) rfl)
      (pss_cons (ps_fld (pv 0) pe_dnewK rfl)
      (pss_one (ps_fld (pv 0) (pe_tup (pa_star (pe_fld (pv 0) rfl) (pa_star (pe_fld (pv 0) rfl) (pa_star (pe_fld (pv 0) rfl) (pa_star
          (pe_lc (own := [("row", 5)]) (g := gName 5) (tt := tYes) (te := tOp (rIxT K) (tVar 5) (tC (.int 0))) rfl nd (pi_tup (pe_fld (pv 0) rfl)) (blkOk_by (N := ["self", "stuffs", "states", "lands", "forms", "row"]) (sc := defScope sSInit) (by decide +kernel)) (fun _ _ _ _ _ => pg_name (i := 5) nd rfl (Or.inl rfl)) (fun _ _ _ _ _ => pts_nil)
            (fun _ _ _ _ _ => pe_ix ix_tup (pv 5) pe_int (fun _ _ => rfl))) pa_nil))))) rfl)))))))))), ?_⟩
    refine ⟨_, rfl, _, rfl, _, rfl, _, rfl, v1, v2, v3, v4, d1, d2, d3, d4, rfl, t1, t2, t3, t4, ?_⟩
    rcases h with ⟨z, pe, k⟩ | ⟨pe, xs1, xs2, xs3, xs4, ds, rs, T0, k⟩
    · rw [pe]
      exact fun H' dd s _ hd => k H' dd s hd
    rw [pe]
    intro H1 s1
    obtain ⟨a1, rfl, i1⟩ := T0.i1
    obtain ⟨a2, rfl, i2⟩ := T0.i2
    obtain ⟨a3, rfl, i3⟩ := T0.i3
    obtain ⟨a4, rfl, i4⟩ := T0.i4
    obtain ⟨fewR, fewN⟩ := T0.rsfew
    have hlen : xs4.length = rs.length := T0.rows.len
    refine ⟨_, rfl, a1, xs1, rfl, (i1.same s1).st, _, rfl, a2, xs2, rfl, (i2.same s1).st, _, rfl, a3, xs3, rfl, (i3.same s1).st, ?_⟩
    refine ⟨_, rfl, a4, rfl, ⟨_, SqL.of (s1 _ _ i4)⟩, fun D nD => ?_⟩
    refine lc_it (walk_list (K := K) (a := a4) (xs := xs4)) (fun i H2 => Same H1 H2 ∧ H2 D = some (.lst ((rs.take i).map FRow.n))) ⟨same_new Same.rfl' nD, upd_same⟩ (fun _ _ _ h => SqL.of (h.1 _ _ (s1 _ _ i4))) ?_ ?_
    · rintro i y H2 H3 hi ⟨s2, d2'⟩ ⟨rfl, hy⟩
      obtain ⟨r, hri, a, t, rfl, h1, h2⟩ := T0.rows.nth hy
      refine ⟨rfl, yesT ⟨_, rfl, ((h1.same s1).same s2).ix (atI_nat (j := 0) rfl) ⟨_, d2', ?_, same_put s2 nD, ?_⟩⟩⟩
      · rw [List.length_map, List.length_take]
        exact small1000 (Nat.le_trans (Nat.min_le_right _ _) (by omega))
      · rw [upd_same, List.take_add_one, hri, List.map_append]
        rfl
    rintro H2 ⟨s2, hD⟩
    rw [hlen, List.take_length] at hD
    have s12 := s1.trans s2
    refine ⟨D, _, rfl, .inr (SqL.of hD), ?_, fun L nL => ?_⟩
    · show (xs1 ++ (xs2 ++ (xs3 ++ (rs.map FRow.n ++ [])))).length ≤ sizeLine
      rw [List.append_nil]
      exact Nat.le_of_lt (small1000 (by have := fewN; show (allNames xs1 xs2 xs3 rs).length ≤ 1000; omega))
    have s3 := same_new (o := .lst (xs1 ++ (xs2 ++ (xs3 ++ (rs.map FRow.n ++ []))))) s12 nL
    refine ⟨L, allNames xs1 xs2 xs3 rs, ds, rfl, by rw [upd_same, List.append_nil], T0.rps.mono (Sq.of s3), T0.shw, T0.few, ?_⟩
    cases fb : firstBad ds with
    | some i =>
      rw [fb] at k
      exact fun v H' dd hv s _ hd => k v H' dd hv (s3.trans s) hd
    | none =>
    rw [fb] at k
    cases ft : firstTwice (allNames xs1 xs2 xs3 rs) 0 (allNames xs1 xs2 xs3 rs) with
    | some i =>
      rw [ft] at k
      exact fun v H' dd hv s _ hd => k v H' dd hv (s3.trans s) hd
    | none =>
    rw [ft] at k
    intro H4 s4'
    have s4 := s3.trans s4'
    have apart := apart_of ft
    obtain ⟨zs, ez, _, hz⟩ := texts_of T0.rps (firstBad_none fb)
    have shN : ∀ y ∈ allNames xs1 xs2 xs3 rs, ∃ z, y = .str z ∧ nmS z = true := fun y hy => by
      rw [ez] at hy
      obtain ⟨z, hm, rfl⟩ := List.mem_map.mp hy
      exact ⟨z, rfl, hz z hm⟩
    have nmR : ∀ r ∈ rs, ∃ z, r.n = .str z ∧ nmS z = true := fun r hr' => shN _ (List.mem_append.mpr (.inr (List.mem_append.mpr (.inr (List.mem_append.mpr (.inr (List.mem_map.mpr ⟨r, hr', rfl⟩)))))))
    have okR : ∀ r ∈ rs, r.Ok := fun r hr' => by
      obtain ⟨z, e, hzz⟩ := nmR r hr'
      refine ⟨.inr ⟨z, e, ?_, (name_short hzz).1⟩, (T0.ts r hr').1, (T0.ts r hr').2⟩
      obtain ⟨d, rd⟩ := T0.rps.mem (List.mem_append.mpr (.inr (List.mem_append.mpr (.inr (List.mem_append.mpr (.inr (List.mem_map.mpr ⟨r, hr', e⟩)))))))
      cases rd with
      | str _ h => exact h
    refine ⟨_, rfl, a4, xs4, rs, rfl, s4 _ _ i4, T0.rows.same s4, okR, fewR, ?_⟩
    cases te : takesErr (rootsOf rs) rs with
    | some e =>
      obtain ⟨b, v⟩ := e
      rw [te] at k
      exact fun H' dd s _ hd => k H' dd (s4.trans s) hd
    | none =>
    rw [te] at k
    intro H5 s5'
    have s5 := s4.trans s5'
    have hx5 := s5 _ _ hx
    have insT : ∀ (C d : Addr) (fs : List (Str × V)) xs, (HO.ins C d fs) ≠ .tup xs := fun _ _ _ _ e => nomatch e
    -- stuffs
    refine tupOf_call rfl (i1.same s5) fun b1 H6 s6 e1 => ?_
    refine ⟨_, rfl, x, CS, dx, [], rfl, s6 _ _ hx5, T.cl, T.n1, (by show 0 < 1000; decide), ?_⟩
    have x6 := s6 _ _ hx5
    have k6 := (Kx.of (x := x) (s5.trans s6)).put (o := .ins CS dx (putF "stuffs" (.ref b1) []))
    replace e1 := (Tk.put (o' := .ins CS dx (putF "stuffs" (.ref b1) [])) (fun _ _ z => z) x6 (insT _ _ _)) _ _ e1
    have y6 : upd H6 x (.ins CS dx (putF "stuffs" (.ref b1) [])) x = some (.ins CS dx [("stuffs", .ref b1)]) := upd_same
    generalize upd H6 x (.ins CS dx (putF "stuffs" (.ref b1) [])) = G6 at k6 e1 y6 ⊢
    -- states
    refine tupOf_call rfl (i2.kx hx k6) fun b2 H7 s7 e2 => ?_
    refine ⟨_, rfl, x, CS, dx, _, rfl, s7 _ _ y6, T.cl, T.n2, (by show 1 < 1000; decide), ?_⟩
    have k7 := (k6.trans (Kx.of s7)).put (o := .ins CS dx (putF "states" (.ref b2) [("stuffs", .ref b1)]))
    have t7 := (Tk.of s7).put (o' := .ins CS dx (putF "states" (.ref b2) [("stuffs", .ref b1)])) (s7 _ _ y6) (insT _ _ _)
    replace e1 := t7 _ _ e1
    replace e2 := (Tk.put (o' := .ins CS dx (putF "states" (.ref b2) [("stuffs", .ref b1)])) (fun _ _ z => z) (s7 _ _ y6) (insT _ _ _)) _ _ e2
    have y7 : upd H7 x (.ins CS dx (putF "states" (.ref b2) [("stuffs", .ref b1)])) x = some (.ins CS dx [("stuffs", .ref b1), ("states", .ref b2)]) := upd_same
    generalize upd H7 x (.ins CS dx (putF "states" (.ref b2) [("stuffs", .ref b1)])) = G7 at k7 e1 e2 y7 ⊢
    -- lands
    refine tupOf_call rfl (i3.kx hx k7) fun b3 H8 s8 e3 => ?_
    refine ⟨_, rfl, x, CS, dx, _, rfl, s8 _ _ y7, T.cl, T.n3, (by show 2 < 1000; decide), ?_⟩
    have k8 := (k7.trans (Kx.of s8)).put (o := .ins CS dx (putF "lands" (.ref b3) [("stuffs", .ref b1), ("states", .ref b2)]))
    have t8 := (Tk.of s8).put (o' := .ins CS dx (putF "lands" (.ref b3) [("stuffs", .ref b1), ("states", .ref b2)])) (s8 _ _ y7) (insT _ _ _)
    replace e1 := t8 _ _ e1
    replace e2 := t8 _ _ e2
    replace e3 := (Tk.put (o' := .ins CS dx (putF "lands" (.ref b3) [("stuffs", .ref b1), ("states", .ref b2)])) (fun _ _ z => z) (s8 _ _ y7) (insT _ _ _)) _ _ e3
    have y8 : upd H8 x (.ins CS dx (putF "lands" (.ref b3) [("stuffs", .ref b1), ("states", .ref b2)])) x = some (.ins CS dx [("stuffs", .ref b1), ("states", .ref b2), ("lands", .ref b3)]) := upd_same
    generalize upd H8 x (.ins CS dx (putF "lands" (.ref b3) [("stuffs", .ref b1), ("states", .ref b2)])) = G8 at k8 e1 e2 e3 y8 ⊢
    -- forms
    have rows8 := T0.rows.kx hx k8
    have h48 : G8 a4 = some (.lst xs4) := k8 _ _ (ne_of i4 hx (by intro z; cases z)) i4
    refine ⟨_, rfl, a4, rfl, ⟨_, SqL.of h48⟩, fun D nD => ?_⟩
    refine lc_it (walk_list (K := K) (a := a4) (xs := xs4)) (fun i H2 => Same G8 H2 ∧ ∃ fs, H2 D = some (.lst fs) ∧ RowsT H2 fs (rs.take i)) ⟨same_new Same.rfl' nD, [], upd_same, (by rw [List.take_zero]; exact .nil)⟩ (fun _ _ _ h => SqL.of (h.1 _ _ h48)) ?_ ?_
    · rintro i y H10 H9 hi ⟨s9, fs, d9, rt⟩ ⟨rfl, hy⟩
      obtain ⟨r, hri, a, t, rfl, h1, h2⟩ := (rows8.same s9).nth hy
      have fewF : fs.length ≤ 100 := by rw [rt.len, List.length_take]; exact Nat.le_trans (Nat.min_le_right _ _) fewR
      refine ⟨rfl, yesT ⟨_, rfl, h1.ix (atI_nat (j := 0) rfl) ⟨_, rfl, h1.ix (atI_nat (j := 1) rfl) ⟨_, rfl, h1.ix (atI_nat (j := 2) rfl) (tupOf_ix rfl h1 (atI_nat (j := 3) rfl) h2 fun b H11 s11 eb => ⟨(by show 4 ≤ sizeLine; decide), fun q nq => ?_⟩)⟩⟩⟩⟩
      have d11 : upd H11 q (.tup [r.n, .int r.lo, .int r.hi, .ref b]) D = some (.lst fs) := by rw [upd_ne (ne_of_none (s11 _ _ d9) nq)]; exact s11 _ _ d9
      have tk : Tk H9 (upd (upd H11 q (.tup [r.n, .int r.lo, .int r.hi, .ref b])) D (.lst (fs ++ [.ref q]))) := ((Tk.of s11).new nq).put d11 (fun _ z => nomatch z)
      refine ⟨fs, d11, small1000 (by omega), same_put (same_new (s9.trans s11) nq) nD, _, upd_same, ?_⟩
      rw [List.take_add_one, hri]
      have qD : q ≠ D := fun z => by rw [← z, upd_same] at d11; cases d11
      refine (rt.mono tk).snoc (t := b) ?_ ?_
      · rw [upd_ne qD, upd_same]
      · have bD : b ≠ D := fun z => by rw [z] at eb; rw [s11 _ _ d9] at eb; cases eb
        rw [upd_ne bD, upd_ne (ne_of_none eb nq)]
        exact eb
    rintro H9 ⟨s9, fs, d9, rt⟩
    rw [hlen, List.take_length] at rt
    refine ⟨D, fs, rfl, .inl ⟨SqL.of d9, fun b4 n4 => ?_⟩⟩
    have k10 := (k8.trans (Kx.of s9)).new (o := .tup fs) n4
    have t10 : Tk G8 (upd H9 b4 (.tup fs)) := (Tk.of s9).new n4
    have y10 : upd H9 b4 (.tup fs) x = some (.ins CS dx [("stuffs", .ref b1), ("states", .ref b2), ("lands", .ref b3)]) := by rw [upd_ne (ne_of_none (s9 _ _ y8) n4)]; exact s9 _ _ y8
    have r10 := rt.mono ((show Tk H9 H9 from fun _ _ z => z).new (o := .tup fs) n4)
    have e4 : upd H9 b4 (.tup fs) b4 = some (.tup fs) := upd_same
    replace e1 := t10 _ _ e1
    replace e2 := t10 _ _ e2
    replace e3 := t10 _ _ e3
    generalize upd H9 b4 (.tup fs) = H10 at k10 y10 r10 e4 e1 e2 e3 ⊢
    refine ⟨_, rfl, x, CS, dx, _, rfl, y10, T.cl, T.n4, (by show 3 < 1000; decide), ?_⟩
    have k11 := k10.put (o := .ins CS dx (putF "forms" (.ref b4) [("stuffs", .ref b1), ("states", .ref b2), ("lands", .ref b3)]))
    have t11 := (show Tk H10 H10 from fun _ _ z => z).put (o' := .ins CS dx (putF "forms" (.ref b4) [("stuffs", .ref b1), ("states", .ref b2), ("lands", .ref b3)])) y10 (insT _ _ _)
    replace e1 := t11 _ _ e1
    replace e2 := t11 _ _ e2
    replace e3 := t11 _ _ e3
    replace e4 := t11 _ _ e4
    have r11 := r10.mono t11
    have y11 : upd H10 x (.ins CS dx (putF "forms" (.ref b4) [("stuffs", .ref b1), ("states", .ref b2), ("lands", .ref b3)])) x = some (.ins CS dx [("stuffs", .ref b1), ("states", .ref b2), ("lands", .ref b3), ("forms", .ref b4)]) := upd_same
    generalize upd H10 x (.ins CS dx (putF "forms" (.ref b4) [("stuffs", .ref b1), ("states", .ref b2), ("lands", .ref b3)])) = G11 at k11 y11 r11 e1 e2 e3 e4 ⊢
    -- _rows
    refine ⟨_, rfl, x, CS, dx, _, _, rfl, y11, T.cl, T.n4, rfl, b4, rfl, ⟨_, SqT.of e4⟩, fun b5 n5 => ?_⟩
    refine dc_tup (K := K) (a := b4) (xs := fs) (fun i H2 => Same G11 H2 ∧ ∃ kvs, H2 b5 = some (.dK kvs) ∧ RowsK H2 kvs (rs.take i)) ⟨same_new Same.rfl' n5, [], upd_same, (by rw [List.take_zero]; exact .nil)⟩ (fun _ _ _ h => SqT.of (h.1 _ _ e4)) ?_ ?_
    · rintro i y H12 hy ⟨s12', kvs, d12, rk⟩
      obtain ⟨r, q, t, hri, rfl, eq, et⟩ := (r11.mono (Tk.of s12')).nth hy
      obtain ⟨z, hz1, hz2⟩ := nmR r (List.mem_of_getElem? hri)
      have fewK : kvs.length ≤ 100 := by rw [rk.len, List.length_take]; exact Nat.le_trans (Nat.min_le_right _ _) fewR
      have miss : valV kvs (Sum.inr z) = none := rk.miss (Apart.rows (a := xs1 ++ (xs2 ++ xs3)) (by rw [List.append_assoc, List.append_assoc]; exact apart) hri hz1)
      refine ⟨rfl, yesT ⟨_, rfl, q, _, 0, _, rfl, rfl, SqT.of eq, atI_nat (j := 0) rfl, ?_⟩⟩
      refine ⟨_, rfl, q, _, 1, _, rfl, rfl, SqT.of eq, atI_nat (j := 1) rfl, _, rfl, q, _, 2, _, rfl, rfl, SqT.of eq, atI_nat (j := 2) rfl, _, rfl, q, _, 3, _, rfl, rfl, SqT.of eq, atI_nat (j := 3) rfl, (by show 3 ≤ sizeLine; decide), fun p np => ?_⟩
      have d13 : upd H12 p (.tup [.int r.lo, .int r.hi, .ref t]) b5 = some (.dK kvs) := by rw [upd_ne (ne_of_none d12 np)]; exact d12
      have pb : p ≠ b5 := fun e => by rw [← e, upd_same] at d13; cases d13
      have tk : Tk H12 (upd (upd H12 p (.tup [.int r.lo, .int r.hi, .ref t])) b5 (.dK (putK kvs (Sum.inr z) (.ref p)))) := ((show Tk H12 H12 from fun _ _ z => z).new np).put d13 (fun _ z => nomatch z)
      refine ⟨kvs, Sum.inr z, hz1, d13, small1000 (by omega), same_put (same_new s12' np) n5, _, upd_same, ?_⟩
      rw [putK_new _ miss, List.take_add_one, hri]
      rw [putK_new _ miss] at tk
      refine (rk.mono tk).snoc (t := t) hz1 ?_ (tk _ _ et)
      rw [upd_ne pb, upd_same]
    rintro H12 ⟨s12', kvs, d12, rk⟩
    rw [r11.len, List.take_length] at rk
    have k12 := k11.trans (Kx.of s12')
    have y12 := s12' _ _ y11
    refine ⟨_, rfl, x, CS, dx, _, rfl, y12, T.cl, T.n5, (by show 4 < 1000; decide), ?_⟩
    have k13 := k12.put (o := .ins CS dx (putF "_rows" (.ref b5) [("stuffs", .ref b1), ("states", .ref b2), ("lands", .ref b3), ("forms", .ref b4)]))
    have t13 := (Tk.of s12').put (o' := .ins CS dx (putF "_rows" (.ref b5) [("stuffs", .ref b1), ("states", .ref b2), ("lands", .ref b3), ("forms", .ref b4)])) y12 (insT _ _ _)
    replace e1 := t13 _ _ e1
    replace e2 := t13 _ _ e2
    replace e3 := t13 _ _ e3
    replace e4 := t13 _ _ e4
    have r13 := r11.mono t13
    have rk13 := rk.mono ((show Tk H12 H12 from fun _ _ z => z).put (o' := .ins CS dx (putF "_rows" (.ref b5) [("stuffs", .ref b1), ("states", .ref b2), ("lands", .ref b3), ("forms", .ref b4)])) y12 (insT _ _ _))
    have e5 : upd H12 x (.ins CS dx (putF "_rows" (.ref b5) [("stuffs", .ref b1), ("states", .ref b2), ("lands", .ref b3), ("forms", .ref b4)])) b5 = some (.dK kvs) := by rw [upd_ne (ne_of d12 y12 (by intro z; cases z))]; exact d12
    have y13 : upd H12 x (.ins CS dx (putF "_rows" (.ref b5) [("stuffs", .ref b1), ("states", .ref b2), ("lands", .ref b3), ("forms", .ref b4)])) x = some (.ins CS dx [("stuffs", .ref b1), ("states", .ref b2), ("lands", .ref b3), ("forms", .ref b4), ("_rows", .ref b5)]) := upd_same
    generalize upd H12 x (.ins CS dx (putF "_rows" (.ref b5) [("stuffs", .ref b1), ("states", .ref b2), ("lands", .ref b3), ("forms", .ref b4)])) = G13 at k13 y13 r13 rk13 e1 e2 e3 e4 e5 ⊢
    -- memory
    intro b6 n6
    have s14 := same_new (o := .dK []) (Same.rfl' (H := G13)) n6
    have y14 := s14 _ _ y13
    have e6 : upd G13 b6 (.dK []) b6 = some (.dK []) := upd_same
    refine ⟨_, rfl, x, CS, dx, _, rfl, y14, T.cl, T.n6, (by show 5 < 1000; decide), ?_⟩
    have k15 := (k13.trans (Kx.of s14)).put (o := .ins CS dx (putF "memory" (.ref b6) [("stuffs", .ref b1), ("states", .ref b2), ("lands", .ref b3), ("forms", .ref b4), ("_rows", .ref b5)]))
    have t15 := (Tk.of s14).put (o' := .ins CS dx (putF "memory" (.ref b6) [("stuffs", .ref b1), ("states", .ref b2), ("lands", .ref b3), ("forms", .ref b4), ("_rows", .ref b5)])) y14 (insT _ _ _)
    replace e1 := t15 _ _ e1
    replace e2 := t15 _ _ e2
    replace e3 := t15 _ _ e3
    replace e4 := t15 _ _ e4
    have r15 := r13.mono t15
    have rk15 := rk13.mono t15
    replace e5 : upd (upd G13 b6 (.dK [])) x (.ins CS dx (putF "memory" (.ref b6) [("stuffs", .ref b1), ("states", .ref b2), ("lands", .ref b3), ("forms", .ref b4), ("_rows", .ref b5)])) b5 = some (.dK kvs) := by rw [upd_ne (ne_of e5 y13 (by intro z; cases z)), s14 _ _ e5]
    replace e6 : upd (upd G13 b6 (.dK [])) x (.ins CS dx (putF "memory" (.ref b6) [("stuffs", .ref b1), ("states", .ref b2), ("lands", .ref b3), ("forms", .ref b4), ("_rows", .ref b5)])) b6 = some (.dK []) := by rw [upd_ne (Ne.symm (ne_of_none y13 n6))]; exact e6
    have y15 : upd (upd G13 b6 (.dK [])) x (.ins CS dx (putF "memory" (.ref b6) [("stuffs", .ref b1), ("states", .ref b2), ("lands", .ref b3), ("forms", .ref b4), ("_rows", .ref b5)])) x = some (.ins CS dx [("stuffs", .ref b1), ("states", .ref b2), ("lands", .ref b3), ("forms", .ref b4), ("_rows", .ref b5), ("memory", .ref b6)]) := upd_same
    generalize upd (upd G13 b6 (.dK [])) x (.ins CS dx (putF "memory" (.ref b6) [("stuffs", .ref b1), ("states", .ref b2), ("lands", .ref b3), ("forms", .ref b4), ("_rows", .ref b5)])) = G15 at k15 y15 r15 rk15 e1 e2 e3 e4 e5 e6 ⊢
    -- _names
    refine ⟨_, rfl, x, CS, dx, _, _, rfl, y15, T.cl, T.n1, rfl, b1, xs1, rfl, .inl (SqT.of e1), _, rfl, x, CS, dx, _, _, rfl, y15, T.cl, T.n2, rfl, b2, xs2, rfl, .inl (SqT.of e2), _, rfl, x, CS, dx, _, _, rfl, y15, T.cl, T.n3, rfl, b3, xs3, rfl, .inl (SqT.of e3), ?_⟩
    refine ⟨_, rfl, x, CS, dx, _, _, rfl, y15, T.cl, T.n4, rfl, b4, rfl, ⟨_, SqT.of e4⟩, fun D2 nD2 => ?_⟩
    refine lc_it (walk_tup (K := K) (a := b4) (xs := fs)) (fun i H2 => Same G15 H2 ∧ H2 D2 = some (.lst ((rs.take i).map FRow.n))) ⟨same_new Same.rfl' nD2, upd_same⟩ (fun _ _ _ h => SqT.of (h.1 _ _ e4)) ?_ ?_
    · rintro i y H2 H3 hi ⟨s2', d2'⟩ ⟨rfl, hy⟩
      obtain ⟨r, q, t, hri, rfl, eq, et⟩ := (r15.mono (Tk.of s2')).nth hy
      refine ⟨rfl, yesT ⟨_, rfl, q, _, 0, _, rfl, rfl, SqT.of eq, atI_nat (j := 0) rfl, _, d2', ?_, same_put s2' nD2, ?_⟩⟩
      · rw [List.length_map, List.length_take]
        exact small1000 (Nat.le_trans (Nat.min_le_right _ _) (by omega))
      · rw [upd_same, List.take_add_one, hri, List.map_append]
        rfl
    rintro H16 ⟨s16, hD2⟩
    rw [r15.len, List.take_length] at hD2
    refine ⟨D2, _, rfl, .inr (SqL.of hD2), ?_, fun b7 n7 => ?_⟩
    · show (xs1 ++ (xs2 ++ (xs3 ++ (rs.map FRow.n ++ [])))).length ≤ sizeLine
      rw [List.append_nil]
      exact Nat.le_of_lt (small1000 (by have := fewN; show (allNames xs1 xs2 xs3 rs).length ≤ 1000; omega))
    have s17 := same_new (o := .tup (xs1 ++ (xs2 ++ (xs3 ++ (rs.map FRow.n ++ []))))) s16 n7
    have y17 := s17 _ _ y15
    have e7 : upd H16 b7 (.tup (xs1 ++ (xs2 ++ (xs3 ++ (rs.map FRow.n ++ []))))) b7 = some (.tup (allNames xs1 xs2 xs3 rs)) := by rw [upd_same, List.append_nil]
    refine ⟨_, rfl, x, CS, dx, _, rfl, y17, T.cl, T.n7, (by show 6 < 1000; decide), ?_⟩
    have k18 := (k15.trans (Kx.of s17)).put (o := .ins CS dx (putF "_names" (.ref b7) [("stuffs", .ref b1), ("states", .ref b2), ("lands", .ref b3), ("forms", .ref b4), ("_rows", .ref b5), ("memory", .ref b6)]))
    have t18 := (Tk.of s17).put (o' := .ins CS dx (putF "_names" (.ref b7) [("stuffs", .ref b1), ("states", .ref b2), ("lands", .ref b3), ("forms", .ref b4), ("_rows", .ref b5), ("memory", .ref b6)])) y17 (insT _ _ _)
    refine k _ k18 ⟨⟨dx, b1, b2, b3, b4, b5, b6, b7, fs, kvs, upd_same, t18 _ _ e1, t18 _ _ e2, t18 _ _ e3, t18 _ _ e4, r15.mono t18, ?_, rk15.mono t18, ?_, ?_⟩, fun y hy => ?_, T0.ts⟩
    rotate_left 3
    · obtain ⟨z, rfl, hz1⟩ := shN y hy
      obtain ⟨d, rd⟩ := T0.rps.mem hy
      cases rd with
      | str _ h => exact ⟨z, rfl, hz1, h⟩
    · rw [upd_ne (ne_of e5 y15 (by intro z; cases z))]; exact s17 _ _ e5
    · rw [upd_ne (ne_of e6 y15 (by intro z; cases z))]; exact s17 _ _ e6
    · rw [upd_ne (ne_of e7 y17 (by intro z; cases z))]; exact e7
end
end K02

/-! k02, part v: in, subscripts and == by an own class's methods. -/
namespace K02
open PySem L2 PySem.Spec PyProof.Rows K02E StX K02X
/-- what isinstance and == ask of the class of stocks -/
structure StockI (K : PySem.W.Frag) (C : Addr) : Prop where
  ha : PySem.W.findIn K (.ref C) "__class__" = some (some (.builtin "object.__class__"))
  hn : PySem.W.specialIn K (.builtin "object.__class__") "__get__" = some (some (.builtin "getset_descriptor.__get__"))
  htk : PySem.W.takesIn K (.builtin "object.__class__") = some true
  hm : PySem.W.mroIn K C (.type "object") = some true
  rTup : PySem.W.kitOne K (.type "tuple") (.ref C) = some false
  nTup : PySem.W.subIn K (.type "tuple") (.ref C) = some false
theorem ep_back {X : Cx} {pins : List (Addr × Obj)} {σ : L2.St} {Q : VK} {u : Value} {s' : Shared} (h : EP X pins σ Q u s') : PySem.W.CmpBack (EP X pins σ Q) u s' := by
  obtain ⟨v, H', I, r, q⟩ := id h
  cases u with
  | notImplemented => cases v <;> first | (cases r; done) | (obtain ⟨_, e⟩ := r; cases e)
  | _ => exact h
section
variable {X : Cx} {CX : CXT} {k : Nat} {f C : Addr} {fd : FuncData} {ps : List Str} {sp : Sp} {E : XK}
/-- a == b: a of the class at C; b of it, too, or a tuple -/
def rStEq (K : PySem.W.Frag) (C : Addr) (sp : Sp) (E : XK) : R2 := fun x y H Q => ∃ a dx fs b, x = .ref a ∧ y = .ref b ∧ H a = some (.ins C dx fs) ∧ ((∃ dy gs, H b = some (.ins C dy gs)) ∨ ∃ xs, SqT K H b xs) ∧ sp [x, y] H Q E
theorem op_stEq (T : StockI X.K C) (hm : Meth X.K C "__eq__" f) (F : FnOk X.prog X.w X.K X.mg X.base CX k f fd ps sp) (hr : Room k X.A) (hb : Binds X.K fd ps []) (hx : Passes CX X E) : OpR X (compareOp .Eq) (rStEq X.K C sp E) := by
  intro pins s σ H x y v u Q I rx ry h
  obtain ⟨a, dx, fs, b, rfl, rfl, ha, hy, q⟩ := h
  cases rx
  obtain ⟨mA, O, _⟩ := ins_get I.hok ha
  obtain ⟨od, J, _⟩ := O.look
  obtain ⟨m, fr⟩ := I.fr
  have go : wpAny (model X.prog X.w) X.A (call (.ref f) [.ref a, u]) (PySem.W.CmpBack (EP X pins σ Q)) X.xe s :=
    wpAny_mono (run_fn (us := [.ref a, u]) (vs := [.ref a, .ref b]) F hr hb .nil hx I (.cons rfl (.cons ry .nil)) q) (fun _ _ z => ep_back z) fun _ _ z => z
  refine PySem.W.cmp_ofEq ?_
  cases ry
  rcases hy with ⟨dy, gs, hb2⟩ | ⟨xs, hb2⟩
  · obtain ⟨mB, O2, _⟩ := ins_get I.hok hb2
    obtain ⟨od2, J2, _⟩ := O2.look
    exact PySem.W.cmp_K (op := .Eq) (tb := .ref C) hr.units0 fr I.ok.mod.kin J J2.type (by simp [PySem.W.notFirst]) hm.at_ hm.fn go
  · obtain ⟨its, rv, ⟨o, ho, hc, _⟩, _⟩ := I.tuple hb2
    have lk : PySem.W.Looks (model X.prog X.w) s.heap (typeOf (.ref b)) (.type "tuple") := hc ▸ (PySem.W.Looks.ld ho).andThen .now
    exact PySem.W.cmp_K (op := .Eq) (tb := .type "tuple") hr.units0 fr I.ok.mod.kin J lk (by unfold PySem.W.notFirst; rw [T.nTup]; simp) hm.at_ hm.fn go
/-- x in o, o of the class at C, by its own method -/
def rOwnIn (C : Addr) (sp : Sp) (E : XK) : R2 := fun x y H Q => ∃ a dx fs, y = .ref a ∧ H a = some (.ins C dx fs) ∧ sp [y, x] H (fun v H' => ∃ b, v = .bl b ∧ Q (.bl b) H') E
theorem op_ownIn (hm : Meth X.K C "__contains__" f) (F : FnOk X.prog X.w X.K X.mg X.base CX k f fd ps sp) (hr : Room k X.A) (hb : Binds X.K fd ps []) (hx : Passes CX X E) : OpR X (compareOp .In) (rOwnIn C sp E) := by
  intro pins s σ H x y v u Q I rx ry h
  obtain ⟨a, dx, fs, rfl, ha, q⟩ := h
  cases ry
  obtain ⟨mA, O, _⟩ := ins_get I.hok ha
  obtain ⟨od, J, _⟩ := O.look
  obtain ⟨m, fr⟩ := I.fr
  refine PySem.W.in_K fr I.ok.mod.kin J hm.at_ hm.fn (wpAny_mono (run_fn (us := [.ref a, v]) (vs := [.ref a, x]) F hr hb .nil hx I (.cons rfl (.cons rx .nil)) q) (fun r s1 z => ?_) fun _ _ z => z)
  obtain ⟨w1, H', I', rv, b, rfl, q'⟩ := z
  cases (show r = Value.bool b from rv)
  exact wpAny_truthy_bool ⟨.bl b, H', I', rfl, q'⟩
/-- o[i], o of the class at C, by its own method -/
def rOwnIx (C : Addr) (sp : Sp) (E : XK) : R2 := fun x y H Q => ∃ a dx fs, x = .ref a ∧ H a = some (.ins C dx fs) ∧ sp [x, y] H Q E
theorem pe_ownIx {a b : Expr} {ta tb : TE} {pos : Pos} (hm : Meth X.K C "__getitem__" f) (hf : PySem.W.fnIn X.K f = true) (F : FnOk X.prog X.w X.K X.mg X.base CX k f fd ps sp) (hr : Room (k + 1) X.A) (hb : Binds X.K fd ps []) (hx : ∀ σ, PassesAt CX X σ E) (he : PE X a ta) (hi : PE X b tb)
    (hs : ∀ o i, subscripted b true o i = runValue (.builtin "lifetime.subscript" ⟨[o, i], []⟩)) : PE X (.Subscript a b pos) (tOp (rOwnIx C sp E) ta tb) := by
  refine ⟨fun pins s σ H Q I h => ?_⟩
  refine Subscript_ (binT he hi I h fun v u s2 x y H2 I2 rx ry q => ?_)
  obtain ⟨o, dx, fs, rfl, ho, q⟩ := q
  cases rx
  obtain ⟨mA, O, _⟩ := ins_get I2.hok ho
  obtain ⟨od, J, _⟩ := O.look
  obtain ⟨m, fr⟩ := I2.fr
  have hl : ([Value.ref o, u] ++ []).length = ps.length := by rw [← F.len _ _ _ _ q]; rfl
  have bb := hb _ [.ref o, u] I2.kIn hl
  rw [List.append_nil] at bb
  refine PySem.W.sub_K fr I2.ok.mod.kin J hm.at_ hf hm.fn (wpAny_call (codeAny_mono (F.run X.A.in1 X.stack s2 H2 ⟨[.ref o, u], []⟩ [.ref o, u] [.ref o, y] Q E hr.in1 I2.env0.in1 bb (.cons rfl (.cons ry .nil)) q) fun r s' hq => ?_)) (hs _ _)
  cases r with
  | error er => exact hx σ pins H2 s2 er s' I2 hq
  | ok fl =>
    cases fl with
    | ret w1 => exact I2.after hq
    | next => exact False.elim hq
    | brk => exact False.elim hq
    | cont => exact False.elim hq
end
end K02

/-! k02, part w: what a stock tells: its rows by name, names in it, ==. -/
namespace K02
open PySem L2 PySem.Spec PyProof.Rows K02E StX K02X
abbrev sSGet : Stmt := inClass sStock 1
abbrev sSCont : Stmt := inClass sStock 2
abbrev sSEq : Stmt := inClass sStock 4
/-- a text's data, None's -/
def dV : V → PyData
  | .str z => .str z
  | _ => .none
theorem FlatSh.rp {H : Hp} {x : V} (h : FlatSh x) : Rp H x (dV x) := by
  rcases h with rfl | ⟨z, rfl, h, _⟩
  · exact .non
  · exact .str z h
/-- the row with this name, and where the told tuple stands -/
def RowAt (H : Hp) (rs : List FRow) (z : Str) (q : Addr) : Prop := ∃ r t, r ∈ rs ∧ r.n = .str z ∧ H q = some (.tup [.int r.lo, .int r.hi, .ref t]) ∧ H t = some (.tup r.ts)
theorem RowsK.found {H : Hp} {z : Str} : ∀ {vs : List (Key × V)} {rs : List FRow}, RowsK H vs rs → (∃ q, valV vs (Sum.inr z) = some (.ref q) ∧ RowAt H rs z q) ∨ (valV vs (Sum.inr z) = none ∧ ∀ r ∈ rs, r.n ≠ .str z)
  | _, _, .nil => .inr ⟨rfl, fun r hr => by cases hr⟩
  | _, _, @RowsK.cons _ z0 q t r kvs rs e0 e1 e2 c => by
    by_cases e : z0 = z
    · subst e
      exact .inl ⟨q, valV_pos (p := ((Sum.inr z0 : Key), V.ref q)) rfl, r, t, List.mem_cons_self, e0, e1, e2⟩
    · have ne : ¬ ((Sum.inr z0 : Key) = Sum.inr z) := fun h => e (by cases h; rfl)
      rcases RowsK.found c with ⟨q', h1, r', t', h2, h3⟩ | ⟨h1, h2⟩
      · exact .inl ⟨q', by rw [valV_neg (p := ((Sum.inr z0 : Key), V.ref q)) ne]; exact h1, r', t', List.mem_cons_of_mem _ h2, h3⟩
      · refine .inr ⟨by rw [valV_neg (p := ((Sum.inr z0 : Key), V.ref q)) ne]; exact h1, fun r' hr' h => ?_⟩
        rcases List.mem_cons.mp hr' with rfl | hr'
        · rw [e0] at h; cases h; exact e rfl
        · exact h2 r' hr' h
/-- stock[at] -/
def spSGet (CS CU : Addr) : Sp := fun vs H Q E => ∃ x v s t l rs, vs = [.ref x, v] ∧ StkF H CS x s t l rs ∧ FlatSh v ∧
  (∀ z q, v = .str z → RowAt H rs z q → Q (.ref q) H) ∧ ((∀ r ∈ rs, r.n ≠ v) → ∀ H' dd, Same H H' → H' dd = some (.xd [("name", v)]) → E (.ref CU) (some dd) H')
/-- x in stock -/
def spSCont (CS : Addr) : Sp := fun vs H Q _ => ∃ x v s t l rs, vs = [.ref x, v] ∧ StkF H CS x s t l rs ∧ FlatSh v ∧ Q (.bl (inV v (allNames s t l rs))) H
theorem non_in {xs : List V} (h : ∀ y ∈ xs, ∃ z, y = V.str z) : inV .non xs = false := by
  refine List.any_eq_false.mpr fun y hy => ?_
  obtain ⟨z, rfl⟩ := h y hy
  exact Bool.false_ne_true
section
variable {P : Program} {w : World} {K : PySem.W.Frag} {mg : Str → Option Value} {base : Heap}
theorem scSGet : FnScope ["self", "at"] ["self", "at"] (defScope sSGet) := ⟨rfl, rfl, rfl, by decide +kernel, rfl, by decide +kernel, by decide +kernel⟩
theorem scSCont : FnScope ["self", "x"] ["self", "x"] (defScope sSCont) := ⟨rfl, rfl, rfl, by decide +kernel, rfl, by decide +kernel, by decide +kernel⟩
theorem ok_sget {f CS CU fU : Addr} {fd : FuncData} (F : Fun K "__getitem__" "Stock.__getitem__" sSGet f fd) (N : Nms mg) (T : StockC K CS) (htop : (P.main.scope.names.lookup ("super" : Str)).isSome = false)
    (TU : K02R.ErrTxt P K mg CU fU "Unknown" "Unknown.__init__" "name" "not known: ") : FnOk P w K mg base (L2.CX P w) 5 f fd ["self", "at"] (spSGet CS CU) := by
  refine F.okX scSGet (fun vs H Q E h => ?_) (fun cdv A outer s H vs Q E hr h => ?_)
  · obtain ⟨x, v, s, t, l, rs, rfl, _⟩ := h
    rfl
  · obtain ⟨x, v, s, t, l, rs, rfl, S, fv, kq, ke⟩ := h
    have hu := hu_of hr
    obtain ⟨dx, a1, a2, a3, a4, a5, a6, a7, fs, kvs, h0, h1, h2, h3, h4, h5, h6, h7, h8, h9⟩ := S.ex
    refine ⟨_, pss_cons (ps_if (PW.pt (pw_or (pt_not (pt_val (pe_callB call_isi (by rfl) N.isi (by decide +kernel) (pa_cons (pv 1) (pa_cons (pe_bltn (v := .ty "str") (by rfl) N.str (by decide +kernel) rfl) pa_nil)))))
        (pw_or1 (pt_cmp (pc_dnotin hu (pv 1) (pe_fld (pv 0) rfl)))))) (pss_one (K02Q.ps_raiseE (k := 2) rfl TU unkO hr htop (by intros; rfl) (takes_of rfl rfl rfl rfl) (pa_cons (pv 1) pa_nil) rfl rfl)) pss_nil)
      (pss_one (ps_ret (pe_dget hu (pe_fld (pv 0) rfl) (pv 1) (fun _ _ => rfl)))), ?_⟩
    obtain ⟨v1, ty1, k1⟩ := (fv.rp (H := H)).kStr (K := K)
    refine ⟨_, rfl, _, _, v1, _, _, rfl, .ty _, ty1, k1, _, rfl, ?_⟩
    rcases fv with rfl | ⟨z, rfl, hz, hzr⟩
    · exact iteT ⟨_, rfl, _, rfl, FlatSh.rep (.inl rfl), fun dd hd => ke (fun r hr' e => by
        obtain ⟨z, e2, _⟩ := S.row hr'
        rw [e2] at e; cases e) _ dd (same_new Same.rfl' hd) upd_same⟩
    · refine iteF ⟨_, rfl, _, rfl, x, CS, dx, _, _, rfl, h0, T.cl, T.n5, rfl, a5, _, rfl, DGet.k (k := Sum.inr z) h6, _, rfl, ?_⟩
      rcases h7.found (z := z) with ⟨q, e, ra⟩ | ⟨e, no⟩
      · rw [e]
        refine iteF ⟨_, rfl, x, CS, dx, _, _, rfl, h0, T.cl, T.n5, rfl, _, rfl, a5, _, rfl, ?_, kq z q rfl ra⟩
        have g := DGet.k (k := Sum.inr z) h6
        rw [e] at g
        exact g
      · rw [e]
        exact iteT ⟨_, rfl, _, rfl, FlatSh.rep (.inr ⟨z, rfl, hz, hzr⟩), fun dd hd => ke no _ dd (same_new Same.rfl' hd) upd_same⟩
theorem ok_scont {f CS : Addr} {fd : FuncData} (F : Fun K "__contains__" "Stock.__contains__" sSCont f fd) (N : Nms mg) (T : StockC K CS) : FnOk P w K mg base CX0 1 f fd ["self", "x"] (spSCont CS) := by
  refine F.ok scSCont (fun vs H Q E h => ?_) (fun cdv A outer s H vs Q E hr h => ?_)
  · obtain ⟨x, v, s, t, l, rs, rfl, _⟩ := h
    rfl
  · obtain ⟨x, v, s, t, l, rs, rfl, S, fv, k⟩ := h
    obtain ⟨dx, a1, a2, a3, a4, a5, a6, a7, fs, kvs, h0, h1, h2, h3, h4, h5, h6, h7, h8, h9⟩ := S.ex
    refine ⟨_, pss_one (ps_ret (pe_and (pe_callB call_isi (by rfl) N.isi (by decide +kernel) (pa_cons (pv 1) (pa_cons (pe_bltn (v := .ty "str") (by rfl) N.str (by decide +kernel) rfl) pa_nil))) (pe_one (pe_cmpR op_in_seq (pv 1) (pe_fld (pv 0) rfl) (by rfl))))), ?_⟩
    obtain ⟨v1, ty1, k1⟩ := (fv.rp (H := H)).kStr (K := K)
    refine ⟨_, rfl, _, _, v1, _, _, rfl, .ty _, ty1, k1, _, rfl, ?_⟩
    rcases fv with rfl | ⟨z, rfl, hz, hzr⟩
    · refine iteF ?_
      rw [non_in fun y hy => (S.nm y hy).elim fun z h => ⟨z, h.1⟩] at k
      exact k
    · exact iteT ⟨_, rfl, _, rfl, x, CS, dx, _, _, rfl, h0, T.cl, T.n7, rfl, a7, _, rfl, .inr (SqT.of h9), rfl, S.flat, k⟩
end
end K02

/-! k02, part A: == of stocks. -/
namespace K02
open PySem L2 PySem.Spec PyProof.Rows K02E StX K02X
def rowDt (r : FRow) : PyData := .tuple [dV r.n, .int r.lo, .int r.hi, .tuple (r.ts.map dV)]
abbrev txtD (s : List V) : PyData := .tuple (s.map dV)
abbrev rowsD (rs : List FRow) : PyData := .tuple (rs.map rowDt)
def eqSt (s t l : List V) (rs : List FRow) (s' t' l' : List V) (rs' : List FRow) : Bool := PyData.eqv (txtD s) (txtD s') && (PyData.eqv (txtD t) (txtD t') && (PyData.eqv (txtD l) (txtD l') && PyData.eqv (rowsD rs) (rowsD rs')))
theorem flat_lay : ∀ {s : List V}, (∀ y ∈ s, FlatSh y) → PyData.canLayAll0 (s.map dV) = true ∧ PyData.depthAll (s.map dV) = 0
  | [], _ => ⟨by simp only [List.map_nil, PyData.canLayAll0], rfl⟩
  | y :: s, h => by
    obtain ⟨h1, h2⟩ := flat_lay (s := s) fun z hz => h z (List.mem_cons_of_mem _ hz)
    rcases h y List.mem_cons_self with rfl | ⟨z, rfl, hz, _⟩
    · refine ⟨by rw [List.map_cons]; simp only [PyData.canLayAll0, h1, dV, PyData.canLay0, Bool.and_self], ?_⟩
      show max 0 (PyData.depthAll (s.map dV)) = 0
      rw [h2]; rfl
    · refine ⟨by rw [List.map_cons]; simp only [PyData.canLayAll0, h1, dV, PyData.canLay0, hz.2, Bool.and_self], ?_⟩
      show max 0 (PyData.depthAll (s.map dV)) = 0
      rw [h2]; rfl
theorem txt_shaped {s : List V} (h : ∀ y ∈ s, FlatSh y) : SeqAt.shaped (txtD s) = true := by
  obtain ⟨h1, h2⟩ := flat_lay h
  unfold SeqAt.shaped
  have e1 : (txtD s).canLay0 = true := by simp only [txtD, PyData.canLay0]; exact h1
  have e2 : (txtD s).depth = 0 + 1 := by show PyData.depthAll (s.map dV) + 1 = _; rw [h2]
  rw [e1, e2]
  rfl
theorem rows_lay : ∀ {rs : List FRow}, (∀ r ∈ rs, FlatSh r.n ∧ ∀ x ∈ r.ts, FlatSh x) → PyData.canLayAll0 (rs.map rowDt) = true ∧ PyData.depthAll (rs.map rowDt) ≤ 2
  | [], _ => ⟨by simp only [List.map_nil, PyData.canLayAll0], Nat.zero_le _⟩
  | r :: rs, h => by
    obtain ⟨h1, h2⟩ := rows_lay (rs := rs) fun z hz => h z (List.mem_cons_of_mem _ hz)
    obtain ⟨hn, ht⟩ := h r List.mem_cons_self
    obtain ⟨l1, l2⟩ := flat_lay ht
    obtain ⟨n1, n2⟩ := flat_lay (s := [r.n]) fun y hy => by rw [List.mem_singleton.mp hy]; exact hn
    have n1' : (dV r.n).canLay0 = true := by
      have : PyData.canLayAll0 [dV r.n] = true := n1
      simpa only [PyData.canLayAll0, Bool.and_true] using this
    have n2' : (dV r.n).depth = 0 := by
      have : max (dV r.n).depth 0 = 0 := n2
      omega
    refine ⟨?_, ?_⟩
    · rw [List.map_cons]
      simp only [PyData.canLayAll0, h1, rowDt, PyData.canLay0, n1', l1, Bool.and_self]
    · show max (max (dV r.n).depth (max 0 (max 0 (max (PyData.depthAll (r.ts.map dV) + 1) 0))) + 1) (PyData.depthAll (rs.map rowDt)) ≤ 2
      rw [n2', l2]
      omega
theorem rows_shaped {rs : List FRow} (h : ∀ r ∈ rs, FlatSh r.n ∧ ∀ x ∈ r.ts, FlatSh x) : SeqAt.shaped (rowsD rs) = true := by
  obtain ⟨h1, h2⟩ := rows_lay h
  unfold SeqAt.shaped
  have e1 : (rowsD rs).canLay0 = true := by simp only [rowsD, PyData.canLay0]; exact h1
  have e2 : (rowsD rs).depth ≤ 64 := by show PyData.depthAll (rs.map rowDt) + 1 ≤ 64; omega
  rw [e1, decide_eq_true e2]
  rfl
theorem flat_dp {K : PySem.W.Frag} {H : Hp} : ∀ {s : List V}, (∀ y ∈ s, FlatSh y) → DpAll K H s (s.map dV)
  | [], _ => .nil
  | y :: s, h => .cons (h y List.mem_cons_self).rp.dp (flat_dp fun z hz => h z (List.mem_cons_of_mem _ hz))
theorem rows_dp {K : PySem.W.Frag} {H : Hp} : ∀ {vs : List V} {rs : List FRow}, RowsT H vs rs → (∀ r ∈ rs, FlatSh r.n ∧ ∀ x ∈ r.ts, FlatSh x) → DpAll K H vs (rs.map rowDt)
  | _, _, .nil, _ => .nil
  | _, _, .cons e1 e2 c, h => by
    obtain ⟨hn, ht⟩ := h _ List.mem_cons_self
    exact .cons (.tup (SqT.of e1) (.cons hn.rp.dp (.cons (.int _) (.cons (.int _) (.cons (.tup (SqT.of e2) (flat_dp ht)) .nil))))) (rows_dp c fun r hr => h r (List.mem_cons_of_mem _ hr))
theorem StkF.sh {H : Hp} {CS x : Addr} {s t l : List V} {rs : List FRow} (h : StkF H CS x s t l rs) : (∀ y ∈ allNames s t l rs, FlatSh y) ∧ ∀ r ∈ rs, FlatSh r.n ∧ ∀ x ∈ r.ts, FlatSh x := by
  have h1 : ∀ y ∈ allNames s t l rs, FlatSh y := fun y hy => by
    obtain ⟨z, e, hz, hs⟩ := h.nm y hy
    exact .inr ⟨z, e, hs, (name_short hz).1⟩
  exact ⟨h1, fun r hr => ⟨h1 _ (List.mem_append.mpr (.inr (List.mem_append.mpr (.inr (List.mem_append.mpr (.inr (List.mem_map.mpr ⟨r, hr, rfl⟩))))))), (h.ts r hr).1⟩⟩
def spSEq (CS : Addr) : Sp := fun vs H Q _ => ∃ x y s t l rs, vs = [.ref x, .ref y] ∧ StkF H CS x s t l rs ∧
  ((∃ s' t' l' rs', StkF H CS y s' t' l' rs' ∧ Q (.bl (eqSt s t l rs s' t' l' rs')) H) ∨ ((∃ xs, H y = some (.tup xs)) ∧ Q (.bl false) H))
section
variable {P : Program} {w : World} {K : PySem.W.Frag} {mg : Str → Option Value} {base : Heap}
theorem scSEq : FnScope ["self", "other"] ["self", "other"] (defScope sSEq) := ⟨rfl, rfl, rfl, by decide +kernel, rfl, by decide +kernel, by decide +kernel⟩
theorem ok_seq {f CS : Addr} {fd : FuncData} (F : Fun K "__eq__" "Stock.__eq__" sSEq f fd) (N : Nms mg) (T : StockC K CS) (I : StockI K CS) (gS : mg "Stock" = some (.ref CS)) : FnOk P w K mg base CX0 1 f fd ["self", "other"] (spSEq CS) := by
  refine F.ok scSEq (fun vs H Q E h => ?_) (fun cdv A outer s H vs Q E hr h => ?_)
  · obtain ⟨x, y, s, t, l, rs, rfl, _⟩ := h
    rfl
  · obtain ⟨x, y, s, t, l, rs, rfl, S, hy⟩ := h
    obtain ⟨dx, a1, a2, a3, a4, a5, a6, a7, fs, kvs, h0, h1, h2, h3, h4, h5, h6, h7, h8, h9⟩ := S.ex
    obtain ⟨sn, sr⟩ := S.sh
    refine ⟨_, pss_cons (ps_if (pt_not (pt_val (pe_callB call_isi (by rfl) N.isi (by decide +kernel) (pa_cons (pv 1) (pa_cons (pe_glob (v := .ref CS) rfl gS rfl) pa_nil))))) (pss_one (ps_ret pe_bl)) pss_nil)
      (pss_cons (ps_if (PW.pt (pw_or (pt_cmpR (op_neD hr.units) (pe_fld (pv 0) rfl) (pe_fld (pv 1) rfl) (nomark _)) (pw_or1 (pt_cmpR (op_neD hr.units) (pe_fld (pv 0) rfl) (pe_fld (pv 1) rfl) (nomark _))))) (pss_one (ps_ret pe_bl)) pss_nil)
      (pss_one (ps_ret (pe_and (pe_cmpR (op_eqD hr.units) (pe_fld (pv 0) rfl) (pe_fld (pv 1) rfl) (nomark _)) (pe_one (pe_cmpR (op_eqD hr.units) (pe_fld (pv 0) rfl) (pe_fld (pv 1) rfl) (nomark _))))))), ?_⟩
    rcases hy with ⟨s', t', l', rs', S', k⟩ | ⟨⟨xs, hb⟩, k⟩
    · obtain ⟨dy, c1, c2, c3, c4, c5, c6, c7, gs, kvs', g0, g1, g2, g3, g4, g5, g6, g7, g8, g9⟩ := S'.ex
      obtain ⟨sn', sr'⟩ := S'.sh
      have in1 : ∀ y ∈ s, FlatSh y := fun y hy => sn y (List.mem_append.mpr (.inl hy))
      have in2 : ∀ y ∈ t, FlatSh y := fun y hy => sn y (List.mem_append.mpr (.inr (List.mem_append.mpr (.inl hy))))
      have in3 : ∀ y ∈ l, FlatSh y := fun y hy => sn y (List.mem_append.mpr (.inr (List.mem_append.mpr (.inr (List.mem_append.mpr (.inl hy))))))
      have jn1 : ∀ y ∈ s', FlatSh y := fun y hy => sn' y (List.mem_append.mpr (.inl hy))
      have jn2 : ∀ y ∈ t', FlatSh y := fun y hy => sn' y (List.mem_append.mpr (.inr (List.mem_append.mpr (.inl hy))))
      have jn3 : ∀ y ∈ l', FlatSh y := fun y hy => sn' y (List.mem_append.mpr (.inr (List.mem_append.mpr (.inr (List.mem_append.mpr (.inl hy))))))
      refine ⟨_, rfl, _, _, .ref CS, _, _, rfl, .own _, .base (.ins g0 T.cl I.ha I.hn I.htk I.hm), (by unfold PySem.W.kitOne; rw [if_pos (by simp)]), _, rfl, ?_⟩
      refine iteF ⟨_, rfl, x, CS, dx, _, _, rfl, h0, T.cl, T.n1, rfl, _, rfl, y, CS, dy, _, _, rfl, g0, T.cl, T.n1, rfl, txtD s, txtD s', .tup (SqT.of h1) (flat_dp in1), .tup (SqT.of g1) (flat_dp jn1), txt_shaped in1, txt_shaped jn1, _, rfl, ?_⟩
      unfold eqSt at k
      cases q1 : PyData.eqv (txtD s) (txtD s') with
      | false => rw [q1] at k; exact iteT k
      | true =>
      rw [q1] at k
      refine iteF ⟨_, rfl, x, CS, dx, _, _, rfl, h0, T.cl, T.n2, rfl, _, rfl, y, CS, dy, _, _, rfl, g0, T.cl, T.n2, rfl, txtD t, txtD t', .tup (SqT.of h2) (flat_dp in2), .tup (SqT.of g2) (flat_dp jn2), txt_shaped in2, txt_shaped jn2, _, rfl, ?_⟩
      cases q2 : PyData.eqv (txtD t) (txtD t') with
      | false => rw [q2] at k; exact iteT k
      | true =>
      rw [q2] at k
      refine iteF ⟨_, rfl, x, CS, dx, _, _, rfl, h0, T.cl, T.n3, rfl, _, rfl, y, CS, dy, _, _, rfl, g0, T.cl, T.n3, rfl, txtD l, txtD l', .tup (SqT.of h3) (flat_dp in3), .tup (SqT.of g3) (flat_dp jn3), txt_shaped in3, txt_shaped jn3, _, rfl, ?_⟩
      cases q3 : PyData.eqv (txtD l) (txtD l') with
      | false => rw [q3] at k; exact iteF k
      | true =>
      rw [q3] at k
      exact iteT ⟨_, rfl, x, CS, dx, _, _, rfl, h0, T.cl, T.n4, rfl, _, rfl, y, CS, dy, _, _, rfl, g0, T.cl, T.n4, rfl, rowsD rs, rowsD rs', .tup (SqT.of h4) (rows_dp h5 sr), .tup (SqT.of g4) (rows_dp g5 sr'), rows_shaped sr, rows_shaped sr', k⟩
    · exact ⟨_, rfl, _, _, .type "tuple", _, _, rfl, .own _, .base (.tup hb), I.rTup, _, rfl, iteT k⟩
end
end K02

/-! k02, part B: d.update(e), both dicts of one sort of keys. -/
namespace K02
open PySem L2 PySem.Spec PyProof.Rows
section
variable {X : Cx} {pins : List (Addr × Obj)} {σ : L2.St} {H : Hp} {s : Shared} {a b : Addr} {kvs more : List (Key × V)} {A : Around} {E : Value → Shared → Prop}
theorem d_update {Q : Value → Shared → Prop} (I : L2.Inv X pins σ H s) (ea : H a = some (.dK kvs)) (eb : H b = some (.dK more)) (ne : a ≠ b) (hl : kvs.length + more.length ≤ sizeLine)
    (h : ∀ s', L2.Inv X pins σ (upd H a (.dK (mergeK kvs more))) s' → Q .none s') : wpAny (model X.prog X.w) A (call (.builtin "dict.update") [.ref a, .ref b]) Q E s := by
  obtain ⟨z, hd, vs, rel, dd⟩ := dk_of I.hok ea
  obtain ⟨z2, hd2, vs2, rel2, dd2⟩ := dk_of I.hok eb
  refine call_meetsIn PySem.F.slot_dict_update dd.typeIs PySem.F.entry_dict_update (PySem.F.args_dict_update_2 _ _) (meets_dict_update (mixKind X.prog X.w) a b ne hd2) ⟨vs, vs2, dd, dd2, by rw [← rel.length, ← rel2.length]; exact hl, fun h' dd' _ hs => h _ ?_⟩
  have he : ∃ q, h'.get? a = some q := let ⟨q, _, _, hq, _⟩ := dd'; ⟨q, hq⟩
  exact d_write (t' := s.toks) I (by rw [ea]; exact True.intro) hs he (dk_new (Nat.le_trans (length_mergeK more kvs) hl) hd (KV.merge rel2 rel) dd')
end
/-- d.update(e) -/
def tDUpd (td ty : TE) : TE := fun σ H Q => td σ H fun x H1 => ∃ a, x = .ref a ∧ IsD H1 a ∧ ty σ H1 fun y H2 => ∃ b kvs more, y = .ref b ∧ a ≠ b ∧ H2 a = some (.dK kvs) ∧ H2 b = some (.dK more) ∧ kvs.length + more.length ≤ sizeLine ∧ Q .non (upd H2 a (.dK (mergeK kvs more)))
theorem pe_dupd {X : Cx} {o e : Expr} {apos cpos : Pos} {td ty : TE} (ho : PE X o td) (he : PE X e ty) (m : M1 X o "update" apos e cpos) : PE X (.Call (.Attribute o "update" apos) [e] [] cpos) (tDUpd td ty) := by
  refine ⟨fun pins s σ H Q I h => ?_⟩
  refine wpAny_Call_method m.base m.few m.line PySem.F.plainAttrs_dict PySem.F.slot_dict_update PySem.F.type_dict_update (thn (ho.run pins s σ H _ I h) fun u s1 ⟨x, H1, I1, rx, a, ex, d, q1⟩ => ?_)
  subst ex
  obtain rfl : u = Value.ref a := rx
  obtain ⟨t1, t2, _⟩ := isD_at I1 d
  refine ⟨t1, t2, ?_⟩
  rw [m.trees]
  refine Calls.callWith_builtin rfl (Calls.evalArgs_plain (Calls.spliced_cons (thn (he.run pins s1 σ H1 _ I1 q1) fun iv s2 ⟨y, H2, I2, ry, b, kvs, more, ey, ne, ea, eb, hl, q3⟩ => Calls.spliced_nil ?_)))
  subst ey
  obtain rfl : iv = Value.ref b := ry
  exact d_update I2 ea eb ne hl fun s3 I3 => ⟨.non, _, I3, rfl, q3⟩
end K02

/-! k02, part C: Stock.usable, what the names of forms come to. -/
namespace K02
open PySem L2 PySem.Spec PyProof.Rows K02E StX K02X
abbrev sUsable : Stmt := inClass sStock 5
/-- a form that goods can have -/
inductive Use (rs : List FRow) : Str → Prop
  | mix : Use rs "mix"
  | row {r : FRow} {z k : Str} : r ∈ rs → r.n = .str z → V.str k ∈ r.ts → Use rs k → Use rs z
open Classical in
noncomputable def useB (rs : List FRow) (r : FRow) : Bool := decide (∃ z, r.n = .str z ∧ Use rs z)
/-- the dict has this name -/
def kin (kvs : List (Key × V)) : V → Bool
  | .str z => (valV kvs (Sum.inr z)).isSome
  | _ => false
/-- a row that comes in -/
def frR (kvs : List (Key × V)) (r : FRow) : Bool := !(kin kvs r.n) && r.ts.any (kin kvs)
abbrev frL (kvs : List (Key × V)) (rs : List FRow) : List FRow := rs.filter (frR kvs)
/-- rows whose name the dict lacks -/
def lackN (kvs : List (Key × V)) (rs : List FRow) : Nat := (rs.filter fun r => !(kin kvs r.n)).length
theorem merge_some (k : Key) : ∀ (more kvs : List (Key × V)), (valV (mergeK kvs more) k).isSome = ((valV kvs k).isSome || (valV more k).isSome)
  | [], kvs => by
    show (valV kvs k).isSome = _
    rw [show valV ([] : List (Key × V)) k = none from rfl, Option.isSome_none, Bool.or_false]
  | p :: r, kvs => by
    show (valV (mergeK (putK kvs p.1 p.2) r) k).isSome = _
    rw [merge_some k r, valV_put]
    by_cases e : p.1 = k
    · rw [valV_pos e, if_pos e.symm]
      simp only [Option.isSome_some, Bool.true_or, Bool.or_true]
    · rw [valV_neg e, if_neg fun h => e h.symm]
/-- the new names as a dict -/
def MoreOf (kvs : List (Key × V)) (fr : List V) : Prop := (∀ z, (valV kvs (Sum.inr z)).isSome = true ↔ V.str z ∈ fr) ∧ kvs.length ≤ fr.length
theorem kin_merge {kvs more : List (Key × V)} {fr : List V} (m : MoreOf more fr) (hf : ∀ v ∈ fr, ∃ z, v = V.str z) (v : V) : kin (mergeK kvs more) v = (kin kvs v || decide (v ∈ fr)) := by
  cases v with
  | str z =>
    show (valV (mergeK kvs more) (Sum.inr z)).isSome = ((valV kvs (Sum.inr z)).isSome || _)
    rw [merge_some]
    congr 1
    rw [Bool.eq_iff_iff, decide_eq_true_eq]
    exact m.1 z
  | _ =>
    show false = (false || _)
    rw [Bool.false_or]
    refine (decide_eq_false fun h => ?_).symm
    obtain ⟨z, e⟩ := hf _ h
    cases e
theorem more_put {kvs : List (Key × V)} {fr : List V} {z : Str} (m : MoreOf kvs fr) : MoreOf (putK kvs (Sum.inr z) (.bl true)) (fr ++ [.str z]) := by
  refine ⟨fun y => ?_, ?_⟩
  · rw [valV_put, List.mem_append, List.mem_singleton]
    by_cases e : (Sum.inr y : Key) = Sum.inr z
    · rw [if_pos e]
      cases e
      exact ⟨fun _ => .inr rfl, fun _ => rfl⟩
    · rw [if_neg e, m.1 y]
      exact ⟨.inl, fun h => h.elim id fun q => absurd (by cases q; rfl) e⟩
  · have := length_putK kvs (Sum.inr z) (.bl true)
    have := m.2
    rw [List.length_append]
    show _ ≤ fr.length + 1
    omega
theorem lack_le {kvs kvs' : List (Key × V)} : ∀ {rs rs0 : List FRow}, (∀ r ∈ rs, r ∈ rs0) → (∀ v, kin kvs' v = (kin kvs v || decide (v ∈ (frL kvs rs0).map FRow.n))) → lackN kvs' rs + (frL kvs rs).length ≤ lackN kvs rs
  | [], _, _, _ => Nat.le_refl _
  | r :: rs, rs0, hs, h => by
    have ih := lack_le (rs := rs) (fun x hx => hs x (List.mem_cons_of_mem _ hx)) h
    have e := h r.n
    simp only [lackN, frL] at ih ⊢
    simp only [List.filter_cons]
    by_cases f : frR kvs r = true
    · have k0 : kin kvs r.n = false := by
        unfold frR at f
        rw [Bool.and_eq_true] at f
        simpa using f.1
      have k1 : kin kvs' r.n = true := by
        rw [e, decide_eq_true (List.mem_map.mpr ⟨r, List.mem_filter.mpr ⟨hs r List.mem_cons_self, f⟩, rfl⟩), Bool.or_true]
      simp only [k0, k1, f, Bool.not_true, Bool.not_false, if_true, Bool.false_eq_true, if_false, List.length_cons]
      omega
    · cases k0 : kin kvs r.n with
      | true =>
        have k1 : kin kvs' r.n = true := by rw [e, k0, Bool.true_or]
        simp only [k1, f, Bool.not_true, Bool.false_eq_true, if_false]
        exact ih
      | false =>
        cases k1 : kin kvs' r.n with
        | true =>
          simp only [f, Bool.not_true, Bool.not_false, if_true, Bool.false_eq_true, if_false, List.length_cons]
          omega
        | false =>
          simp only [f, Bool.not_false, if_true, Bool.false_eq_true, if_false, List.length_cons]
          omega
/-- what the dict has is of use; it has "mix" -/
structure SoundK (rs : List FRow) (kvs : List (Key × V)) : Prop where
  mix : (valV kvs (Sum.inr "mix")).isSome = true
  use : ∀ z, (valV kvs (Sum.inr z)).isSome = true → Use rs z
theorem SoundK.step {rs : List FRow} {kvs more : List (Key × V)} (h : SoundK rs kvs) (m : MoreOf more ((frL kvs rs).map FRow.n)) : SoundK rs (mergeK kvs more) := by
  refine ⟨by rw [merge_some, h.mix, Bool.true_or], fun z q => ?_⟩
  rw [merge_some, Bool.or_eq_true] at q
  rcases q with q | q
  · exact h.use z q
  · obtain ⟨r, hr, e⟩ := List.mem_map.mp ((m.1 z).mp q)
    obtain ⟨hm, f⟩ := List.mem_filter.mp hr
    unfold frR at f
    rw [Bool.and_eq_true, List.any_eq_true] at f
    obtain ⟨v, hv, kv⟩ := f.2
    cases v with
    | str k => exact .row hm e hv (h.use k kv)
    | _ => cases kv
/-- nothing comes in any more -/
theorem SoundK.full {rs : List FRow} {kvs : List (Key × V)} (h : SoundK rs kvs) (e : frL kvs rs = []) {z : Str} (u : Use rs z) : (valV kvs (Sum.inr z)).isSome = true := by
  induction u with
  | mix => exact h.mix
  | @row r z k hr en hk _ ih =>
    cases q : kin kvs r.n with
    | true =>
      rw [en] at q
      exact q
    | false =>
      exfalso
      have : frR kvs r = true := by
        unfold frR
        rw [q, Bool.not_false, Bool.true_and]
        exact List.any_eq_true.mpr ⟨_, hk, ih⟩
      have := List.mem_filter.mpr ⟨hr, this⟩
      rw [show rs.filter (frR kvs) = [] from e] at this
      cases this
theorem SoundK.told {rs : List FRow} {kvs : List (Key × V)} (h : SoundK rs kvs) (e : frL kvs rs = []) (r : FRow) : kin kvs r.n = useB rs r := by
  have ue : useB rs r = true ↔ ∃ z, r.n = .str z ∧ Use rs z := by
    unfold useB
    exact @decide_eq_true_iff _ (Classical.propDecidable _)
  rw [Bool.eq_iff_iff, ue]
  constructor
  · intro q
    cases en : r.n with
    | str z => rw [en] at q; exact ⟨z, rfl, h.use z q⟩
    | _ => rw [en] at q; cases q
  · rintro ⟨z, en, u⟩
    rw [en]
    exact h.full e u
theorem lst_shaped {s : List V} (h : ∀ y ∈ s, FlatSh y) : SeqAt.shaped (.list (s.map dV)) = true := by
  obtain ⟨h1, h2⟩ := flat_lay h
  unfold SeqAt.shaped
  have e1 : (PyData.list (s.map dV)).canLay0 = true := by simp only [PyData.canLay0]; exact h1
  have e2 : (PyData.list (s.map dV)).depth = 0 + 1 := by show PyData.depthAll (s.map dV) + 1 = _; rw [h2]
  rw [e1, e2]
  rfl
end K02

/-! k02, part D: Stock.usable. -/
namespace K02
open PySem L2 PySem.Spec PyProof.Rows K02E StX K02X
abbrev uN : List Str := ["self", "found", "grown", "fresh", "row", "k", "name"]
abbrev tRow0 (K : PySem.W.Frag) : TE := tOp (rIxT K) (tVar 4) (tC (.int 0))
abbrev tKs (K : PySem.W.Frag) : TE := tLc (iTup K (tOp (rIxT K) (tVar 4) (tC (.int 3)))) (gName 5) tYes (tDInN (tVar 5) (tVar 1)) [5]
abbrev tFresh (K : PySem.W.Frag) : TT := tAnd (tB (tDNotIn (tRow0 K) (tVar 1))) (tB (tCB (rAny K) (tCons (tKs K) tNil)))
abbrev tFound (K : PySem.W.Frag) : TT := tB (tDIn (tRow0 K) (tVar 1))
abbrev scRow : Scope := { kind := .function, names := [(".0", .local), ("row", .local), ("any", .globalImplicit), ("found", .cell)], isGenerator := false, isCoroutine := false }
/-- a dict comprehension over a list that stands still: what holds of the new dict behind each turn -/
theorem dcL {K : PySem.W.Frag} {a : Addr} {xs : List V} {g : TG} {tt : TT} {tk tv : TE} {vs : List Nat} {σ : L2.St} {G : Hp} {D : Addr} {Z : Hp → Prop} (At : Nat → Hp → Prop) (begin0 : At 0 (upd G D (.dK [])))
    (stays : ∀ n G', n ≤ xs.length → At n G' → SqL K G' a xs)
    (turn : ∀ n y G', xs[n]? = some y → At n G' → g y (wipe σ vs) G' fun σ' G2 => wipe σ' vs = wipe σ vs ∧ tt σ' G2 fun c G3 =>
      if c = true then tk σ' G3 fun u G4 => tv σ' G4 fun z G5 => ∃ ps k, u = kV k ∧ G5 D = some (.dK ps) ∧ ps.length < sizeLine ∧ At (n + 1) (upd G5 D (.dK (putK ps k z))) else At (n + 1) G3)
    (ends : ∀ G', At xs.length G' → Z G') :
    ∃ W : Nat → Nat → Hp → Prop, (∃ m, W 0 m (upd G D (.dK []))) ∧ ∀ n m G', W n m G' → ((Itl K a).stop n G' ∧ Z G') ∨ ((Itl K a).go n G' ∧ ∃ Nx : Hp → Prop, (∀ G2, Nx G2 → ∃ m', m' < m ∧ W (n + 1) m' G2) ∧
      ∀ y G2, (Itl K a).yld n G' y G2 → g y (wipe σ vs) G2 fun σ' G3 => wipe σ' vs = wipe σ vs ∧ tt σ' G3 fun c G4 =>
        if c = true then tk σ' G4 fun u G5 => tv σ' G5 fun z G6 => ∃ ps k, u = kV k ∧ G6 D = some (.dK ps) ∧ ps.length < sizeLine ∧ Nx (upd G6 D (.dK (putK ps k z))) else Nx G4) := by
  refine ⟨fun n m G' => xs.length = n + m ∧ At n G', ⟨_, (Nat.zero_add _).symm, begin0⟩, fun n m G' h => ?_⟩
  obtain ⟨e, h⟩ := h
  have q := stays n G' (by omega) h
  rcases m with _ | m
  · exact .inl ⟨⟨xs, q, by omega⟩, ends G' (by rw [e]; exact h)⟩
  · have lt : n < xs.length := by omega
    refine .inr ⟨⟨xs, xs[n], q, by simp [lt]⟩, At (n + 1), fun G2 z => ⟨m, Nat.lt_succ_self m, by omega, z⟩, fun y G2 w => ?_⟩
    obtain ⟨e2, w⟩ := w
    subst e2
    exact turn n y _ (w xs q) h
/-- where the loop stands -/
def UInv (H : Hp) (x d : Addr) (rs : List FRow) (m : Nat) (σ : L2.St) (H' : Hp) : Prop := ∃ kvs g p, σ = [some (.ref x), some (.ref d), some (.bl g), p, none, none, none] ∧ H' d = some (.dK kvs) ∧ Same H H' ∧ SoundK rs kvs ∧
  kvs.length + lackN kvs rs ≤ 1 + rs.length ∧ (g = false → frL kvs rs = []) ∧ m = if g = true then lackN kvs rs + 1 else 0
theorem sound0 (rs : List FRow) : SoundK rs [((Sum.inr "mix" : Key), V.bl true)] := by
  refine ⟨rfl, fun z h => ?_⟩
  by_cases e : ((Sum.inr "mix" : Key)) = Sum.inr z
  · cases e
    exact .mix
  · rw [valV_neg (p := ((Sum.inr "mix" : Key), V.bl true)) e] at h
    cases h
theorem lack_len (kvs : List (Key × V)) (rs : List FRow) : lackN kvs rs ≤ rs.length := List.length_filter_le _ _
theorem frL_snoc {kvs : List (Key × V)} {rs : List FRow} {i : Nat} {r : FRow} (h : rs[i]? = some r) : frL kvs (rs.take (i + 1)) = frL kvs (rs.take i) ++ (if frR kvs r = true then [r] else []) := by
  rw [frL, List.take_add_one, h, List.filter_append]
  show _ ++ List.filter (frR kvs) [r] = _
  by_cases f : frR kvs r = true
  · rw [if_pos f, List.filter_cons_of_pos f]; rfl
  · rw [if_neg f, List.filter_cons_of_neg f]; rfl
theorem eqv_nil (s : List V) : PyData.eqv (.list (s.map dV)) (.list []) = decide (s = []) := by
  cases s with
  | nil => rfl
  | cons y s => rfl
def spUsable (CS : Addr) : Sp := fun vs H Q _ => ∃ x s t l rs, vs = [.ref x] ∧ StkF H CS x s t l rs ∧ rs.length ≤ 100 ∧ ∀ p H', Same H H' → H' p = some (.tup ((rs.filter (useB rs)).map FRow.n)) → Q (.ref p) H'
section
variable {P : Program} {w : World} {K : PySem.W.Frag} {mg : Str → Option Value} {base : Heap}
theorem scUsable : FnScope uN ["self"] (defScope sUsable) := ⟨rfl, rfl, rfl, by decide +kernel, rfl, by decide +kernel, by decide +kernel⟩
theorem ok_usable {f CS : Addr} {fd : FuncData} (F : Fun K "usable" "Stock.usable" sUsable f fd) (N : Nms mg) (hany : mg "any" = none) (T : StockC K CS) : FnOk P w K mg base CX0 1 f fd ["self"] (spUsable CS) := by
  refine F.ok scUsable (fun vs H Q E h => ?_) (fun cdv A outer s H vs Q E hr h => ?_)
  · obtain ⟨x, s, t, l, rs, rfl, _⟩ := h
    rfl
  · obtain ⟨x, s, t, l, rs, rfl, S, few, k⟩ := h
    have hu := hu_of hr
    have nd := scUsable.nd
    obtain ⟨dx, a1, a2, a3, a4, a5, a6, a7, fs, kvs, h0, h1, h2, h3, h4, h5, h6, h7, h8, h9⟩ := S.ex
    refine ⟨_, pss_cons (ps_set (i := 1) nd rfl (Or.inr rfl) (pe_disp (pps_cons pe_str pe_bl pps_nil) rfl rfl (by simp) (by decide)))
      (pss_cons (ps_set (i := 2) nd rfl (Or.inl rfl) pe_bl)
      (pss_cons (ps_while PassesOwn.never (pt_val (pv 2))
        (pss_cons (ps_setLc (i := 3) (own := [("row", 4)]) (g := gName 4) (tt := tFresh K) (te := tRow0 K) rfl nd rfl rfl (sw_true rfl rfl rfl (by decide +kernel)) (pi_tup (pe_fld (pv 0) rfl)) (blkOk_by (N := uN) (sc := defScope sUsable) (by decide +kernel)) (fun _ _ _ _ _ => pg_name (i := 4) nd rfl (Or.inl rfl))
            (fun _ _ _ _ _ => pts_one (PW.pt (pw_and (pt_cmp (pc_dnotin hu (pe_ix ix_tup (pv 4) pe_int (fun _ _ => rfl)) (pv 1))) (pw_and1 (pt_val (pe_callB (cr_any rfl) (by rfl) hany (by decide +kernel) (pa_cons
              (pe_lc (own := [("k", 5)]) (g := gName 5) (tt := tYes) (te := tDInN (tVar 5) (tVar 1)) rfl nd (pi_tup (pe_ix ix_tup (pv 4) pe_int (fun _ _ => rfl))) (blkOk_by (N := uN) (sc := scRow) (by decide +kernel)) (fun _ _ _ _ _ => pg_name (i := 5) nd rfl (Or.inl rfl)) (fun _ _ _ _ _ => pts_nil)
                (fun _ _ _ _ _ => pe_cmp (pc_dinN hu (pv 5) (pv 1)))) pa_nil)))))))
            (fun _ _ _ _ _ => pe_ix ix_tup (pv 4) pe_int (fun _ _ => rfl)))
        (pss_cons (ps_expr (pe_dupd (pv 1) (pe_dc (own := [("name", 6)]) (g := gName 6) (tt := tYes) (tk := tVar 6) (tv := tC (.bl true)) rfl nd (pi_list (pv 3)) (blkOk_by (N := uN) (sc := defScope sUsable) (by decide +kernel)) (fun _ _ _ _ _ => pg_name (i := 6) nd rfl (Or.inl rfl)) (fun _ _ _ _ _ => pts_nil)
            (fun _ _ _ _ _ => pv 6) (fun _ _ _ _ _ => pe_bl)) ⟨by intros; rfl, by rfl, by rfl, by rfl⟩))
        (pss_one (ps_set (i := 2) nd rfl (Or.inl rfl) (pe_cmpR (op_neD hr.units) (pv 3) (pe_lst pa_nil) (nomark _)))))))
      (pss_one (ps_ret (pe_callTy call_tupOf (by rfl) N.tuple (by decide +kernel) (pa_cons
        (pe_lc (own := [("row", 4)]) (g := gName 4) (tt := tFound K) (te := tRow0 K) rfl nd (pi_tup (pe_fld (pv 0) rfl)) (blkOk_by (N := uN) (sc := defScope sUsable) (by decide +kernel)) (fun _ _ _ _ _ => pg_name (i := 4) nd rfl (Or.inl rfl))
          (fun _ _ _ _ _ => pts_one (pt_cmp (pc_din hu (pe_ix ix_tup (pv 4) pe_int (fun _ _ => rfl)) (pv 1)))) (fun _ _ _ _ _ => pe_ix ix_tup (pv 4) pe_int (fun _ _ => rfl))) pa_nil)))))), ?_⟩
    intro d nd'
    have s1 := same_new (o := .dK []) (Same.rfl' (H := H)) nd'
    refine ⟨upd_same, [(Sum.inr "mix", .bl true)], rfl, by decide, ?_⟩
    refine ⟨fun m σ H' => UInv H x d rs m σ H', ⟨_, _, true, _, rfl, upd_same, same_put s1 nd', sound0 rs, ?_, (fun h => by cases h), rfl⟩, ?_⟩
    · have h1 : lackN (mergeK [] [((Sum.inr "mix" : Key), V.bl true)]) rs ≤ rs.length := lack_len _ _
      have h2 : (mergeK [] [((Sum.inr "mix" : Key), V.bl true)]).length = 1 := rfl
      rw [h2]
      omega
    rintro m σ1 H1 ⟨kvs, g, p, rfl, hd1, s1, snd, len, cl, rfl⟩
    refine ⟨_, rfl, g, rfl, ?_⟩
    have S1 := S.same s1
    have e4 := s1 _ _ h4
    have r5 := h5.mono (Tk.of s1)
    cases g with
    | false =>
      refine iteF ?_
      have full := cl rfl
      refine ⟨_, rfl, x, CS, dx, _, _, rfl, s1 _ _ h0, T.cl, T.n4, rfl, a4, rfl, ⟨_, SqT.of e4⟩, fun D nD => ?_⟩
      refine lc_it (walk_tup (K := K) (a := a4) (xs := fs)) (fun i H2 => Same H1 H2 ∧ H2 D = some (.lst (((rs.take i).filter (useB rs)).map FRow.n))) ⟨same_new Same.rfl' nD, upd_same⟩ (fun _ _ _ h => SqT.of (h.1 _ _ e4)) ?_ ?_
      · rintro i y H2 H3 hi ⟨s2, d2⟩ ⟨rfl, hy⟩
        obtain ⟨r, q, t', hri, rfl, eq, et⟩ := (r5.mono (Tk.of s2)).nth hy
        obtain ⟨z, en, _⟩ := S.row (List.mem_of_getElem? hri)
        rw [en] at eq
        have hd2 := s2 _ _ hd1
        refine ⟨rfl, ⟨_, rfl, q, _, 0, _, rfl, rfl, SqT.of eq, atI_nat (j := 0) rfl, _, rfl, d, _, rfl, DGet.k (k := Sum.inr z) hd2, _, rfl, ?_⟩⟩
        have tk : (valV kvs (Sum.inr z)).isSome = useB rs r := by
          rw [← snd.told full r, en]
          rfl
        rw [tk, List.take_add_one, hri]
        cases u : useB rs r with
        | false =>
          refine iteF ⟨s2, ?_⟩
          rw [List.filter_append, show (some r).toList = [r] from rfl, List.filter_cons_of_neg (by rw [u]; exact Bool.false_ne_true), List.filter_nil, List.append_nil]
          exact d2
        | true =>
          refine iteT ⟨_, rfl, q, _, 0, _, rfl, rfl, SqT.of eq, atI_nat (j := 0) rfl, _, d2, ?_, same_put s2 nD, ?_⟩
          · rw [List.length_map]
            refine small1000 (Nat.le_trans (List.length_filter_le _ _) ?_)
            rw [List.length_take]
            omega
          · rw [upd_same, List.filter_append, show (some r).toList = [r] from rfl, List.filter_cons_of_pos u, List.filter_nil, List.map_append, List.map_cons, en]
            rfl
      · rintro H2 ⟨s2, d2⟩
        rw [r5.len, List.take_length] at d2
        exact tupOf_any (.inl d2) fun a H' sa ha => k a H' (s1.trans (s2.trans sa)) ha
    | true =>
      refine iteT ⟨fun σ' H' => ∃ m', m' < lackN kvs rs + 1 ∧ UInv H x d rs m' σ' H', fun _ _ h => h, ?_⟩
      refine ⟨_, rfl, x, CS, dx, _, _, rfl, s1 _ _ h0, T.cl, T.n4, rfl, a4, rfl, ⟨_, SqT.of e4⟩, fun D nD => ?_⟩
      refine lc_it (walk_tup (K := K) (a := a4) (xs := fs)) (fun i H2 => Same H1 H2 ∧ H2 D = some (.lst ((frL kvs (rs.take i)).map FRow.n))) ⟨same_new Same.rfl' nD, upd_same⟩ (fun _ _ _ h => SqT.of (h.1 _ _ e4)) ?_ ?_
      · rintro i y H2 H3 hi ⟨s2, d2⟩ ⟨rfl, hy⟩
        obtain ⟨r, q, t', hri, rfl, eq, et⟩ := (r5.mono (Tk.of s2)).nth hy
        have hrm := List.mem_of_getElem? hri
        obtain ⟨z, en, _⟩ := S.row hrm
        rw [en] at eq
        have hd2 := s2 _ _ hd1
        refine ⟨rfl, ⟨_, rfl, q, _, 0, _, rfl, rfl, SqT.of eq, atI_nat (j := 0) rfl, _, rfl, d, _, rfl, DGet.k (k := Sum.inr z) hd2, _, rfl, ?_⟩⟩
        have fe : frR kvs r = (!(valV kvs (Sum.inr z)).isSome && r.ts.any (kin kvs)) := by
          unfold frR
          rw [en]
          rfl
        rw [frL_snoc hri, fe]
        cases (valV kvs (Sum.inr z)).isSome with
        | true =>
          refine iteF ⟨s2, ?_⟩
          show H3 D = some (.lst ((frL kvs (rs.take i) ++ []).map FRow.n))
          rw [List.append_nil]
          exact d2
        | false =>
          refine iteT ⟨_, rfl, q, _, 3, _, rfl, rfl, SqT.of eq, atI_nat (j := 3) rfl, t', rfl, ⟨_, SqT.of et⟩, fun D3 nD3 => ?_⟩
          refine lc_it (walk_tup (K := K) (a := t') (xs := r.ts)) (fun i H4 => Same H3 H4 ∧ H4 D3 = some (.lst ((r.ts.take i).map fun v => V.bl (kin kvs v)))) ⟨same_new Same.rfl' nD3, upd_same⟩ (fun _ _ _ h => SqT.of (h.1 _ _ et)) ?_ ?_
          · rintro j y H4 H5 hj ⟨s4, d4⟩ ⟨rfl, hy⟩
            have hy' : r.ts[j]? = some y := hy
            refine ⟨rfl, yesT ⟨_, rfl, _, rfl, ?_⟩⟩
            have hd4 := s4 _ _ hd2
            have fin : ∃ acc, H5 D3 = some (.lst acc) ∧ acc.length < sizeLine ∧ Same H3 (upd H5 D3 (.lst (acc ++ [.bl (kin kvs y)]))) ∧ upd H5 D3 (.lst (acc ++ [.bl (kin kvs y)])) D3 = some (.lst ((r.ts.take (j + 1)).map fun v => V.bl (kin kvs v))) := by
              refine ⟨_, d4, ?_, same_put s4 nD3, ?_⟩
              · rw [List.length_map, List.length_take]
                exact small1000 (Nat.le_trans (Nat.min_le_right _ _) (by have := (S.ts r hrm).2; omega))
              · rw [upd_same, List.take_add_one, hy', List.map_append]
                rfl
            rcases (S.ts r hrm).1 y (List.mem_of_getElem? hy') with rfl | ⟨c, rfl, _⟩
            · exact .inr ⟨d, kvs, rfl, rfl, .inl hd4, fin⟩
            · exact .inl ⟨d, _, rfl, DGet.k (k := Sum.inr c) hd4, fin⟩
          · rintro H4 ⟨s4, d4⟩
            rw [List.take_length] at d4
            refine ⟨D3, r.ts.map (kin kvs), rfl, SqL.of (by rw [d4, List.map_map]; rfl), _, rfl, ?_⟩
            have an : (r.ts.map (kin kvs)).any id = r.ts.any (kin kvs) := by rw [List.any_map]; rfl
            rw [an, Bool.not_false, Bool.true_and]
            cases r.ts.any (kin kvs) with
            | false =>
              refine iteF ⟨s2.trans s4, ?_⟩
              show H4 D = some (.lst ((frL kvs (rs.take i) ++ []).map FRow.n))
              rw [List.append_nil]
              exact s4 _ _ d2
            | true =>
              refine iteT ⟨_, rfl, q, _, 0, _, rfl, rfl, SqT.of (s4 _ _ eq), atI_nat (j := 0) rfl, _, s4 _ _ d2, ?_, same_put (s2.trans s4) nD, ?_⟩
              · rw [List.length_map]
                refine small1000 (Nat.le_trans (List.length_filter_le _ _) ?_)
                rw [List.length_take]
                omega
              · rw [upd_same, if_pos rfl, List.map_append, List.map_cons, en]
                rfl
      · rintro H2 ⟨s2, d2⟩
        rw [r5.len, List.take_length] at d2
        have hd2 := s2 _ _ hd1
        have frm : ∀ y ∈ (frL kvs rs).map FRow.n, ∃ z, y = V.str z := fun y hy => by
          obtain ⟨r, hr, rfl⟩ := List.mem_map.mp hy
          obtain ⟨z, e, _⟩ := S.row (List.mem_filter.mp hr).1
          exact ⟨z, e⟩
        have frs : ∀ y ∈ (frL kvs rs).map FRow.n, FlatSh y := fun y hy => by
          obtain ⟨r, hr, rfl⟩ := List.mem_map.mp hy
          exact S.sh.1 _ (List.mem_append.mpr (.inr (List.mem_append.mpr (.inr (List.mem_append.mpr (.inr (List.mem_map.mpr ⟨r, (List.mem_filter.mp hr).1, rfl⟩)))))))
        have lf : (frL kvs rs).length ≤ rs.length := List.length_filter_le _ _
        generalize hfr : (frL kvs rs).map FRow.n = fr at d2 frm frs
        have lfr : fr.length = (frL kvs rs).length := by rw [← hfr, List.length_map]
        refine ⟨_, rfl, d, rfl, .inl ⟨kvs, .inl hd2⟩, ?_⟩
        refine ⟨_, rfl, D, rfl, ⟨_, SqL.of d2⟩, fun D6 n6 => ?_⟩
        refine dcL (K := K) (a := D) (xs := fr) (fun i H6 => Same H2 H6 ∧ ∃ more, H6 D6 = some (.dK more) ∧ MoreOf more (fr.take i)) ⟨same_new Same.rfl' n6, [], upd_same, ⟨fun z => ⟨(fun h => by cases h), (fun h => by cases h)⟩, Nat.le_refl _⟩⟩ (fun _ _ _ h => SqL.of (h.1 _ _ d2)) ?_ ?_
        · rintro i y H6 hy ⟨s6, more, d6, m6⟩
          obtain ⟨z, rfl⟩ := frm y (List.mem_of_getElem? hy)
          refine ⟨rfl, yesT ⟨_, rfl, more, Sum.inr z, rfl, d6, ?_, same_put s6 n6, _, upd_same, ?_⟩⟩
          · refine small1000 (Nat.le_trans m6.2 ?_)
            rw [List.length_take]
            omega
          · rw [List.take_add_one, hy]
            exact more_put m6
        rintro H6 ⟨s6, more, d6, m6⟩
        rw [List.take_length] at m6
        have hd6 := s6 _ _ hd2
        have ne6 : d ≠ D6 := ne_of_none hd2 n6
        have dl := lack_le (kvs := kvs) (kvs' := mergeK kvs more) (rs := rs) (rs0 := rs) (fun _ h => h) (fun v => by rw [hfr]; exact kin_merge m6 frm v)
        refine ⟨D6, kvs, more, rfl, ne6, hd6, d6, ?_, ?_⟩
        · refine Nat.le_of_lt (small1000 ?_)
          have := m6.2
          omega
        have s7 : Same H (upd H6 d (.dK (mergeK kvs more))) := same_put (s1.trans (s2.trans s6)) nd'
        have dD : D ≠ d := by
          intro e
          rw [e, hd2] at d2
          cases d2
        have d7 : upd H6 d (.dK (mergeK kvs more)) D = some (.lst fr) := by rw [upd_ne dD]; exact s6 _ _ d2
        refine ⟨_, rfl, ?_⟩
        refine ⟨by decide, fun L nL => ?_⟩
        have s8 := same_new (o := .lst []) s7 nL
        have d8 : upd (upd H6 d (.dK (mergeK kvs more))) L (.lst []) D = some (.lst fr) := by rw [upd_ne (ne_of_none d7 nL)]; exact d7
        have e8 : upd (upd H6 d (.dK (mergeK kvs more))) L (.lst []) d = some (.dK (mergeK kvs more)) := by rw [upd_ne (ne_of_none (show upd H6 d (.dK (mergeK kvs more)) d = some _ from upd_same) nL)]; exact upd_same
        refine ⟨.list (fr.map dV), .list [], .lst (SqL.of d8) (flat_dp frs), .lst (SqL.of upd_same) .nil, lst_shaped frs, rfl, ?_⟩
        rw [eqv_nil]
        have lm := length_mergeK more kvs
        have ml := m6.2
        refine ⟨if (!decide (fr = [])) = true then lackN (mergeK kvs more) rs + 1 else 0, ?_, mergeK kvs more, !decide (fr = []), some (.ref D), rfl, e8, s8, snd.step (by rw [hfr]; exact m6), by omega, ?_, rfl⟩
        · by_cases z : fr = []
          · rw [decide_eq_true z]
            show 0 < _
            omega
          · rw [decide_eq_false z]
            have : fr.length ≠ 0 := fun e => z (List.eq_nil_of_length_eq_zero e)
            show lackN (mergeK kvs more) rs + 1 < _
            omega
        · intro z
          have z : fr = [] := by simpa using z
          have : lackN (mergeK kvs more) rs + (frL kvs rs).length ≤ lackN kvs rs := dl
          subst z
          have fz : frL kvs rs = [] := List.map_eq_nil_iff.mp hfr
          have same : ∀ v, kin (mergeK kvs more) v = kin kvs v := fun v => by
            rw [kin_merge m6 (fun v hv => by cases hv) v]
            simp
          have fe : frR (mergeK kvs more) = frR kvs := by
            funext r
            unfold frR
            rw [same, show kin (mergeK kvs more) = kin kvs from funext same]
          show rs.filter (frR (mergeK kvs more)) = []
          rw [fe]
          exact fz
end
end K02

/-! k02, part E: the law's own test of a name and of a row. -/
namespace K02
open PySem L2 PySem.Spec PyProof.Rows K02E StX K02X
abbrev sRName : Stmt := top 39
abbrev sRRow : Stmt := top 40
section
variable {P : Program} {w : World} {K : PySem.W.Frag} {mg : Str → Option Value} {base : Heap}
theorem scRName : FnScope ["_law_thing", "_law_barred", "_law_letter"] ["_law_thing"] (defScope sRName) := ⟨rfl, rfl, rfl, by decide +kernel, rfl, by decide +kernel, by decide +kernel⟩
theorem ok_rname {f : Addr} {fd : FuncData} (F : Fun K "_law_right_name" "_law_right_name" sRName f fd) (N : Nms mg) : FnOk P w K mg base CX0 1 f fd ["_law_thing"] (spTest nmD) := by
  refine F.ok scRName (fun vs H Q E h => ?_) (fun cdv A outer s H vs Q E hr h => ?_)
  · obtain ⟨x, d, rfl, _⟩ := h
    rfl
  · obtain ⟨x, d, rfl, t, k⟩ := h
    have nd := scRName.nd
    refine ⟨_, pss_cons (ps_if (PW.pt (pw_or (pt_not (pt_val (pe_callB call_isi (by rfl) N.isi (by decide +kernel) (pa_cons (pv 0) (pa_cons (pe_bltn (v := .ty "str") (by rfl) N.str (by decide +kernel) rfl) pa_nil)))))
        (pw_or (pt_cmpR op_lt (pe_callB call_len_str (by rfl) N.len PySem.boot_len (pa_cons (pv 0) pa_nil)) pe_int (nomark _)) (pw_or1 (pt_cmpR op_gt (pe_callB call_len_str (by rfl) N.len PySem.boot_len (pa_cons (pv 0) pa_nil)) pe_int (nomark _)))))) (pss_one (ps_ret pe_bl)) pss_nil)
      (pss_cons (ps_set (i := 1) nd rfl (Or.inl rfl) (pe_split pe_str pe_str))
      (pss_one (ps_ret (pe_and (pe_cmpR op_notIn_seq (pv 0) (pv 1) rfl) (pe_one (pe_callB (cr_all rfl) (by rfl) N.all (by decide +kernel) (pa_cons
        (pe_lc (own := [("_law_letter", 2)]) (g := gName 2) (tt := tYes) rfl nd (pi_str (pv 0)) (blkOk_by (N := ["_law_thing", "_law_barred", "_law_letter"]) (sc := defScope sRName) (by decide +kernel)) (fun _ _ _ _ _ => pg_name (i := 2) nd rfl (Or.inl rfl)) (fun _ _ _ _ _ => pts_nil)
          (fun _ _ _ _ _ => pe_cmpR op_in_sign (pv 2) pe_str rfl)) pa_nil))))))), ?_⟩
    obtain ⟨v1, ty1, k1⟩ := t.kStr (K := K)
    refine ⟨_, rfl, _, _, v1, _, _, rfl, .ty _, ty1, k1, _, rfl, ?_⟩
    cases t with
    | non => exact iteT (iteT (k H Same.rfl'))
    | bl b => exact iteT (iteT (k H Same.rfl'))
    | int i => exact iteT (iteT (k H Same.rfl'))
    | lst e r => exact iteT (iteT (k H Same.rfl'))
    | tup e r => exact iteT (iteT (k H Same.rfl'))
    | str z hz =>
      have hz' : z.length ≤ sizeLine := Nat.le_trans hz.1 (by decide)
      refine iteF ⟨_, rfl, z, rfl, hz', _, _, rfl, rfl, _, rfl, ?_⟩
      by_cases h1 : (z.length : Int) < 1
      · rw [decide_eq_true h1]
        refine iteT (iteT ?_)
        have : nmD (.str z) = false := by
          show nmS z = false
          unfold nmS
          rw [decide_eq_false (by omega), Bool.false_and, Bool.false_and]
        rw [← this]
        exact k H Same.rfl'
      rw [decide_eq_false h1]
      refine iteF ⟨_, rfl, z, rfl, hz', _, _, rfl, rfl, _, rfl, ?_⟩
      by_cases h2 : (12 : Int) < (z.length : Int)
      · rw [decide_eq_true h2]
        refine iteT ?_
        have : nmD (.str z) = false := by
          show nmS z = false
          unfold nmS
          rw [decide_eq_false (show ¬ (z.length : Int) ≤ 12 by omega), Bool.and_false, Bool.false_and]
        rw [← this]
        exact k H Same.rfl'
      rw [decide_eq_false h2]
      refine iteF ⟨⟨_, rfl⟩, _, _, rfl, rfl, rfl, by decide, fun R nR => ?_⟩
      have e : Txt.split "any none mix form state over from parts some each main falls not and or two ring open" " " = reserved := by decide +kernel
      rw [e]
      have sR : Same H (upd H R (.lst resV)) := same_new Same.rfl' nR
      have dR : upd H R (.lst resV) R = some (.lst resV) := upd_same
      have full : nmD (.str z) = (!inV (.str z) resV && z.cps.toList.all isLet) := by
        show nmS z = _
        unfold nmS
        rw [decide_eq_true (show (1 : Int) ≤ (z.length : Int) by omega), decide_eq_true (show (z.length : Int) ≤ 12 by omega), Bool.true_and, Bool.true_and, Bool.and_comm]
      refine ⟨_, rfl, _, rfl, R, resV, rfl, .inl (SqL.of dR), rfl, by decide, ?_⟩
      refine ⟨_, rfl, ?_⟩
      cases q : inV (.str z) resV with
      | true =>
        refine iteF ?_
        have := k _ sR
        rw [full, q] at this
        exact this
      | false =>
        refine iteT ⟨_, rfl, z, rfl, fun D hD => ?_⟩
        have sD : Same H (upd (upd H R (.lst resV)) D (.lst [])) := same_new sR hD
        refine lc_it walk_str (fun i H2 => Same H H2 ∧ H2 D = some (.lst ((z.cps.toList.take i).map fun c => .bl (isLet c)))) ⟨sD, upd_same⟩ (fun _ _ _ _ => True.intro) ?_ ?_
        · rintro i x H1 H2 hi ⟨s1, d1⟩ ⟨rfl, c, hc, rfl⟩
          have hx : (z.cps.toList.take (i + 1)).map (fun c => V.bl (isLet c)) = (z.cps.toList.take i).map (fun c => V.bl (isLet c)) ++ [.bl (isLet c)] := by
            rw [List.take_add_one, Array.getElem?_toList, hc, List.map_append]
            rfl
          refine ⟨rfl, yesT ⟨_, rfl, c, letters, rfl, rfl, _, d1, ?_, same_put s1 (none_of sR hD), ?_⟩⟩
          · rw [List.length_map, List.length_take]
            have : i < z.length := hi
            exact small1000 (by omega)
          · rw [upd_same]
            exact congrArg (fun l => some (HO.lst l)) hx.symm
        · rintro H2 ⟨s1, d1⟩
          refine ⟨D, z.cps.toList.map isLet, rfl, SqL.of ?_, ?_⟩
          · rw [d1, List.take_of_length_le (Nat.le_of_eq (Array.length_toList)), List.map_map]
            rfl
          · have e1 : (z.cps.toList.map isLet).all id = z.cps.toList.all isLet := by rw [List.all_map]; rfl
            rw [e1]
            have := k H2 s1
            rw [full, q] at this
            exact this
end
end K02

/-! k02, part F: the law's own test of a row. -/
namespace K02
open PySem L2 PySem.Spec PyProof.Rows K02E StX K02X
section
variable {P : Program} {w : World} {K : PySem.W.Frag} {mg : Str → Option Value} {base : Heap}
theorem scRRow : FnScope ["_law_row"] ["_law_row"] (defScope sRRow) := ⟨rfl, rfl, rfl, by decide +kernel, rfl, by decide +kernel, by decide +kernel⟩
theorem listD44 (d : PyData) : listD 4 4 d = (dL d && decide (lenD d = 4)) := by
  unfold listD
  cases dL d with
  | false => rfl
  | true =>
    rw [Bool.true_and, Bool.true_and]
    by_cases h : lenD d = 4
    · rw [h]; rfl
    · rw [decide_eq_false h]
      by_cases h1 : (4 : Int) ≤ (lenD d : Int)
      · rw [decide_eq_false (show ¬ (lenD d : Int) ≤ 4 by omega), Bool.and_false]
      · rw [decide_eq_false h1, Bool.false_and]
theorem ok_rrow {f fn : Addr} {fd fdn : FuncData} (F : Fun K "_law_right_row" "_law_right_row" sRRow f fd) (N : Nms mg)
    (DN : Df K mg "_law_integer" sInteger ["_law_thing"] fn fdn) (GN : FnOk P w K mg base CX0 1 fn fdn ["_law_thing"] spNum) : FnOk P w K mg base CX0 2 f fd ["_law_row"] (spTest rowD) := by
  refine F.ok scRRow (fun vs H Q E h => ?_) (fun cdv A outer s H vs Q E hr h => ?_)
  · obtain ⟨x, d, rfl, _⟩ := h
    rfl
  · obtain ⟨x, d, rfl, t, k⟩ := h
    refine ⟨_, pss_cons (ps_if (PW.pt (pw_or (pt_not (pt_val (pe_callB call_isiT (by rfl) N.isi (by decide +kernel) (pa_cons (pv 0) (pa_cons (pe_tup (pa_cons (pe_bltn (v := .ty "list") (by rfl) N.list (by decide +kernel) rfl) (pa_cons (pe_bltn (v := .ty "tuple") (by rfl) N.tuple (by decide +kernel) rfl) pa_nil))) pa_nil)))))
        (pw_or1 (pt_cmpR op_ne (pe_callB call_len (by rfl) N.len PySem.boot_len (pa_cons (pv 0) pa_nil)) pe_int (nomark _))))) (pss_one (ps_ret pe_bl)) pss_nil)
      (pss_cons (ps_if (PW.pt (pw_or (pt_not (pt_val (pe_call GN hr rfl DN.g DN.F.kp DN.b .nil pass0 (pa_cons (pe_ix ix_seq (pv 0) pe_int (fun _ _ => rfl)) pa_nil))))
        (pw_or1 (pt_not (pt_val (pe_call GN hr rfl DN.g DN.F.kp DN.b .nil pass0 (pa_cons (pe_ix ix_seq (pv 0) pe_int (fun _ _ => rfl)) pa_nil))))))) (pss_one (ps_ret pe_bl)) pss_nil)
      (pss_cons (ps_if (PW.pt (pw_or (pt_cmpR op_lt (pe_ix ix_seq (pv 0) pe_int (fun _ _ => rfl)) pe_int (nomark _)) (pw_or (pt_cmpR op_gt (pe_ix ix_seq (pv 0) pe_int (fun _ _ => rfl)) pe_int (nomark _))
        (pw_or1 (pt_cmpR op_gt (pe_ix ix_seq (pv 0) pe_int (fun _ _ => rfl)) (pe_ix ix_seq (pv 0) pe_int (fun _ _ => rfl)) (nomark _)))))) (pss_one (ps_ret pe_bl)) pss_nil)
      (pss_one (ps_ret (pe_and (pe_callB call_isiT (by rfl) N.isi (by decide +kernel) (pa_cons (pe_ix ix_seq (pv 0) pe_int (fun _ _ => rfl)) (pa_cons (pe_tup (pa_cons (pe_bltn (v := .ty "list") (by rfl) N.list (by decide +kernel) rfl) (pa_cons (pe_bltn (v := .ty "tuple") (by rfl) N.tuple (by decide +kernel) rfl) pa_nil))) pa_nil)))
        (pe_one (pe_cmpR op_gt (pe_callB call_len (by rfl) N.len PySem.boot_len (pa_cons (pe_ix ix_seq (pv 0) pe_int (fun _ _ => rfl)) pa_nil)) pe_int (nomark _)))))))), ?_⟩
    refine ⟨_, rfl, by decide, fun p hp => ?_⟩
    have S1 : Same H (upd H p (.tup [.ty "list", .ty "tuple"])) := same_new Same.rfl' hp
    have dp : upd H p (.tup [.ty "list", .ty "tuple"]) p = some (.tup [.ty "list", .ty "tuple"]) := upd_same
    generalize upd H p (.tup [.ty "list", .ty "tuple"]) = H1 at S1 dp ⊢
    obtain ⟨v, ty, e⟩ := (t.mono (Sq.of S1)).kLT (K := K)
    refine ⟨x, p, _, v, _, _, rfl, dp, .cons (.ty _) (.cons (.ty _) .nil), ty, e, _, rfl, ?_⟩
    have stop : ∀ H2, Same H H2 → rowD d = false → Q (.bl false) H2 := fun H2 s z => by rw [← z]; exact k H2 s
    cases e0 : dL d with
    | false =>
      exact iteT (iteT (stop _ S1 (by unfold rowD; rw [listD44, e0]; rfl)))
    | true =>
      refine iteF ⟨_, rfl, _, _, rfl, (t.mono (Sq.of S1)).lenV e0, rfl, _, rfl, ?_⟩
      by_cases e4 : lenD d = 4
      · have l4 : listD 4 4 d = true := by rw [listD44, e0, e4]; rfl
        obtain ⟨a, v0, v1, v2, v3, rfl, sq, t0, t1, t2, t3⟩ := (t.mono (Sq.of S1)).four l4
        rw [e4]
        refine iteF ?_
        refine ⟨_, rfl, sq.ix rfl ⟨v1, _, rfl, t1, _, rfl, ?_⟩⟩
        cases e1 : dN (atD d 1) with
        | false => exact iteT (iteT (stop _ S1 (by unfold rowD; rw [l4, e1]; rfl)))
        | true =>
        refine iteF ⟨_, rfl, sq.ix rfl ⟨v2, _, rfl, t2, _, rfl, ?_⟩⟩
        cases e2 : dN (atD d 2) with
        | false => exact iteT (stop _ S1 (by unfold rowD; rw [l4, e1, e2]; rfl))
        | true =>
        have q1 := t1.num e1
        have q2 := t2.num e2
        subst q1 q2
        have q : rowD d = (decide (1 ≤ intD (atD d 1)) && (decide (intD (atD d 1) ≤ intD (atD d 2)) && (decide (intD (atD d 2) ≤ 4) && (dL (atD d 3) && decide (0 < lenD (atD d 3)))))) := by unfold rowD; rw [l4, e1, e2]; rfl
        refine iteF ⟨_, rfl, sq.ix rfl ⟨_, _, rfl, rfl, _, rfl, ?_⟩⟩
        by_cases h1 : intD (atD d 1) < 1
        · rw [decide_eq_true h1]
          exact iteT (iteT (stop _ S1 (by rw [q, decide_eq_false (by omega), Bool.false_and])))
        rw [decide_eq_false h1]
        refine iteF ⟨_, rfl, sq.ix rfl ⟨_, _, rfl, rfl, _, rfl, ?_⟩⟩
        by_cases h2 : (4 : Int) < intD (atD d 2)
        · rw [decide_eq_true h2]
          exact iteT (iteT (stop _ S1 (by rw [q, decide_eq_false (show ¬ intD (atD d 2) ≤ 4 by omega), Bool.false_and, Bool.and_false, Bool.and_false])))
        rw [decide_eq_false h2]
        refine iteF ⟨_, rfl, sq.ix rfl ⟨_, rfl, sq.ix rfl ⟨_, _, rfl, rfl, _, rfl, ?_⟩⟩⟩
        by_cases h3 : intD (atD d 2) < intD (atD d 1)
        · rw [decide_eq_true h3]
          exact iteT (stop _ S1 (by rw [q, decide_eq_false (show ¬ intD (atD d 1) ≤ intD (atD d 2) by omega), Bool.false_and, Bool.and_false]))
        rw [decide_eq_false h3]
        refine iteF ?_
        rw [decide_eq_true (show 1 ≤ intD (atD d 1) by omega), decide_eq_true (show intD (atD d 1) ≤ intD (atD d 2) by omega), decide_eq_true (show intD (atD d 2) ≤ 4 by omega)] at q
        refine ⟨_, rfl, sq.ix rfl ⟨by decide, fun r hr => ?_⟩⟩
        have S2' : Same H1 (upd H1 r (.tup [.ty "list", .ty "tuple"])) := same_new Same.rfl' hr
        have dr : upd H1 r (.tup [.ty "list", .ty "tuple"]) r = some (.tup [.ty "list", .ty "tuple"]) := upd_same
        generalize upd H1 r (.tup [.ty "list", .ty "tuple"]) = H2 at S2' dr ⊢
        have S2 := S1.trans S2'
        have t3' := t3.mono (Sq.of S2')
        obtain ⟨v', ty', e'⟩ := t3'.kLT (K := K)
        refine ⟨v3, r, _, v', _, _, rfl, dr, .cons (.ty _) (.cons (.ty _) .nil), ty', e', _, rfl, ?_⟩
        cases e3 : dL (atD d 3) with
        | false => exact iteF (stop _ S2 (by rw [q, e3]; rfl))
        | true =>
          refine iteT ⟨_, rfl, (sq.same S2').ix rfl ⟨_, _, rfl, t3'.lenV e3, _, _, rfl, rfl, ?_⟩⟩
          have z : decide ((0 : Int) < (lenD (atD d 3) : Int)) = rowD d := by
            rw [q, e3]
            show _ = decide (0 < lenD (atD d 3))
            by_cases h : 0 < lenD (atD d 3)
            · rw [decide_eq_true h, decide_eq_true (by omega)]
            · rw [decide_eq_false h, decide_eq_false (by omega)]
          show Q (.bl (decide ((0 : Int) < (lenD (atD d 3) : Int)))) H2
          rw [z]
          exact k H2 S2
      · have ne : (!decide (V.int (lenD d : Nat) = V.int 4)) = true := by
          rw [Bool.not_eq_true', decide_eq_false_iff_not]
          intro h
          injection h with h
          omega
        rw [ne]
        exact iteT (stop _ S1 (by unfold rowD; rw [listD44, e0, decide_eq_false e4]; rfl))
end
end K02

/-! k02, part G: what is due. -/
namespace K02
open PySem L2 PySem.Spec PyProof.Rows K02E StX K02X
abbrev sDue : Stmt := top 41
abbrev dN7 : List Str := ["_law_told", "_law_name", "_law_most", "_law_row", "_law_known", "_law_names_here", "_law_k"]
/-- the law's dict of what Stock is to be handed -/
structure TD (H : Hp) (D : Addr) (v1 v2 v3 v4 : V) : Prop where
  ex : ∃ kvs, H D = some (.dK kvs) ∧ valV kvs (Sum.inr "stuffs") = some v1 ∧ valV kvs (Sum.inr "states") = some v2 ∧ valV kvs (Sum.inr "lands") = some v3 ∧ valV kvs (Sum.inr "forms") = some v4
theorem TD.mono {H H' : Hp} {D : Addr} {v1 v2 v3 v4 : V} (t : TD H D v1 v2 v3 v4) (s : Same H H') : TD H' D v1 v2 v3 v4 := by
  obtain ⟨kvs, h, q⟩ := t.ex
  exact ⟨kvs, s _ _ h, q⟩
/-- what the law says is due, as a pair at p -/
def spDue : Sp := fun vs H Q _ => ∃ D v1 v2 v3 v4 d1 d2 d3 d4, vs = [.ref D] ∧ TD H D v1 v2 v3 v4 ∧ Rp H v1 d1 ∧ Rp H v2 d2 ∧ Rp H v3 d3 ∧ Rp H v4 d4 ∧
  ((∃ z, partsErr d1 d2 d3 d4 = some z ∧ ∀ H' p, Same H H' → H' p = some (.tup [.str "BadStock", .str z]) → Q (.ref p) H') ∨
    (partsErr d1 d2 d3 d4 = none ∧ ∃ xs1 xs2 xs3 xs4 ds rs, Told H v1 v2 v3 v4 xs1 xs2 xs3 xs4 ds rs ∧ match firstBad ds with
      | some i => ∀ v H' p, (allNames xs1 xs2 xs3 rs)[i]? = some v → Same H H' → H' p = some (.tup [.str "BadName", v]) → Q (.ref p) H'
      | none => match firstTwice (allNames xs1 xs2 xs3 rs) 0 (allNames xs1 xs2 xs3 rs) with
        | some i => ∀ v H' p, (allNames xs1 xs2 xs3 rs)[i]? = some v → Same H H' → H' p = some (.tup [.str "Twice", v]) → Q (.ref p) H'
        | none => match takesErr (rootsOf rs) rs with
          | some (b, v) => ∀ H' p, Same H H' → H' p = some (.tup [.str (if b = true then "Unknown" else "Twice"), v]) → Q (.ref p) H'
          | none => ∀ H' p, Same H H' → H' p = some (.tup [.str "none", .non]) → Q (.ref p) H'))
def goodP (d1 d2 d3 d4 : PyData) (i : Nat) : Prop := (0 < i → listD 1 5 d1 = true) ∧ (1 < i → listD 1 4 d2 = true) ∧ (2 < i → listD 1 4 d3 = true) ∧ (3 < i → listD 1 6 d4 = true)
theorem goodP.all {d1 d2 d3 d4 : PyData} (h : goodP d1 d2 d3 d4 4) : partsErr d1 d2 d3 d4 = if (itemsD d4).all rowD = false then some ("forms" : Str) else none := by
  obtain ⟨a, b, c, d⟩ := h
  unfold partsErr
  rw [a (by decide), b (by decide), c (by decide), d (by decide), if_neg (by decide), if_neg (by decide), if_neg (by decide), Bool.true_and]
theorem inV_root {x : V} (f : FlatSh x) (ns : List V) : inV x (.str "mix" :: ns) = (decide (x = .str "mix") || inV x ns) := by
  show (eqV (.str "mix") x || inV x ns) = _
  congr 1
  rcases f with rfl | ⟨z, rfl, _⟩
  · rfl
  · show (("mix" : Str) == z) = _
    by_cases h : z = "mix"
    · subst h
      rw [decide_eq_true rfl]
      exact beq_self_eq_true _
    · rw [decide_eq_false (by intro e; cases e; exact h rfl)]
      exact beq_eq_false_iff_ne.mpr fun e => h e.symm
theorem scal_root {x : V} (f : FlatSh x) : scal x (.str "mix") = true := by
  rcases f with rfl | ⟨z, rfl, _⟩ <;> rfl
theorem SqD.lenV {K : PySem.W.Frag} {H : Hp} {a : Addr} {xs : List V} (h : SqD H a xs) : LenV K (.ref a) H xs.length := h.elim (fun e => .inl ⟨_, SqL.of e, rfl⟩) (fun e => .inr ⟨_, SqT.of e, rfl⟩)
section
variable {P : Program} {w : World} {K : PySem.W.Frag} {mg : Str → Option Value} {base : Heap}
theorem scDue : FnScope dN7 ["_law_told"] (defScope sDue) := ⟨rfl, rfl, rfl, by decide +kernel, rfl, by decide +kernel, by decide +kernel⟩
theorem ok_due {f fr fn : Addr} {fd fdr fdn : FuncData} (F : Fun K "_law_due" "_law_due" sDue f fd) (N : Nms mg)
    (DR : Df K mg "_law_right_row" sRRow ["_law_row"] fr fdr) (GR : FnOk P w K mg base CX0 2 fr fdr ["_law_row"] (spTest rowD)) (DN : Df K mg "_law_right_name" sRName ["_law_thing"] fn fdn) (GN : FnOk P w K mg base CX0 1 fn fdn ["_law_thing"] (spTest nmD)) :
    FnOk P w K mg base CX0 3 f fd ["_law_told"] spDue := by
  refine F.ok scDue (fun vs H Q E h => ?_) (fun cdv A outer s H vs Q E hr h => ?_)
  · obtain ⟨D, v1, v2, v3, v4, d1, d2, d3, d4, rfl, _⟩ := h
    rfl
  · obtain ⟨D, v1, v2, v3, v4, d1, d2, d3, d4, rfl, td, t1, t2, t3, t4, k⟩ := h
    have nd := scDue.nd
    have hu := hu_of hr
    have r1 := hr.mono (show 1 ≤ 2 by decide)
    refine ⟨_, pss_cons (ps_for PassesOwn.never rfl (pi_list (pe_lst (pa_cons (pe_tup (pa_cons pe_str (pa_cons pe_int pa_nil))) (pa_cons (pe_tup (pa_cons pe_str (pa_cons pe_int pa_nil))) (pa_cons (pe_tup (pa_cons pe_str (pa_cons pe_int pa_nil))) (pa_cons (pe_tup (pa_cons pe_str (pa_cons pe_int pa_nil))) pa_nil))))))
        (pg_tup (by rfl) (pgs_cons (pg_name (i := 1) nd rfl (Or.inl rfl)) (pgs_cons (pg_name (i := 2) nd rfl (Or.inl rfl)) pgs_nil)))
        (pss_cons (ps_if (pt_not (pt_val (pe_callB call_isiT (by rfl) N.isi (by decide +kernel) (pa_cons (pe_dget hu (pv 0) (pv 1) (fun _ _ => rfl)) (pa_cons (pe_tup (pa_cons (pe_bltn (v := .ty "list") (by rfl) N.list (by decide +kernel) rfl) (pa_cons (pe_bltn (v := .ty "tuple") (by rfl) N.tuple (by decide +kernel) rfl) pa_nil))) pa_nil)))))
            (pss_one (ps_ret (pe_tup (pa_cons pe_str (pa_cons (pv 1) pa_nil))))) pss_nil)
        (pss_one (ps_if (PW.pt (pw_or (pt_cmpR op_lt (pe_callB call_len (by rfl) N.len PySem.boot_len (pa_cons (pe_dget hu (pv 0) (pv 1) (fun _ _ => rfl)) pa_nil)) pe_int (nomark _)) (pw_or1 (pt_cmpR op_gt (pe_callB call_len (by rfl) N.len PySem.boot_len (pa_cons (pe_dget hu (pv 0) (pv 1) (fun _ _ => rfl)) pa_nil)) (pv 2) (nomark _)))))
            (pss_one (ps_ret (pe_tup (pa_cons pe_str (pa_cons (pv 1) pa_nil))))) pss_nil))))
      (pss_cons (ps_for PassesOwn.never rfl (pi_either (pi_list (pe_dget hu (pv 0) pe_str (fun _ _ => rfl))) (pi_tup (pe_dget hu (pv 0) pe_str (fun _ _ => rfl)))) (pg_name (i := 3) nd rfl (Or.inl rfl))
        (pss_one (ps_if (pt_not (pt_val (pe_call GR hr rfl DR.g DR.F.kp DR.b .nil pass0 (pa_cons (pv 3) pa_nil)))) (pss_one (ps_ret (pe_tup (pa_cons pe_str (pa_cons pe_str pa_nil))))) pss_nil)))
      (pss_cons (ps_setLc (i := 4) (own := [("_law_row", 3)]) (g := gName 3) (tt := tYes) (te := tOp (rIx K) (tVar 3) (tC (.int 0))) rfl nd rfl rfl (sw_true rfl rfl rfl (by decide +kernel)) (pi_list (pe_dget hu (pv 0) pe_str (fun _ _ => rfl))) (blkOk_by (N := dN7) (sc := defScope sDue) (by decide +kernel)) (fun _ _ _ _ _ => pg_name (i := 3) nd rfl (Or.inl rfl)) (fun _ _ _ _ _ => pts_nil)
          (fun _ _ _ _ _ => pe_ix ix_seq (pv 3) pe_int (fun _ _ => rfl)))
      (pss_cons (ps_set (i := 5) nd rfl (Or.inl rfl) (pe_op op_cat (pe_op op_cat (pe_op op_cat (pe_callTy call_list_of (by rfl) N.list (by decide +kernel) (pa_cons (pe_dget hu (pv 0) pe_str (fun _ _ => rfl)) pa_nil)) (pe_callTy call_list_of (by rfl) N.list (by decide +kernel) (pa_cons (pe_dget hu (pv 0) pe_str (fun _ _ => rfl)) pa_nil)))
          (pe_callTy call_list_of (by rfl) N.list (by decide +kernel) (pa_cons (pe_dget hu (pv 0) pe_str (fun _ _ => rfl)) pa_nil))) (pv 4)))
      (pss_cons (ps_for PassesOwn.never rfl (pi_list (pv 5)) (pg_name (i := 1) nd rfl (Or.inl rfl))
        (pss_one (ps_if (pt_not (pt_val (pe_call GN r1 rfl DN.g DN.F.kp DN.b .nil pass0 (pa_cons (pv 1) pa_nil)))) (pss_one (ps_ret (pe_tup (pa_cons pe_str (pa_cons (pv 1) pa_nil))))) pss_nil)))
      (pss_cons (ps_for PassesOwn.never rfl (pi_range1 rfl N.range (pa_cons (pe_callB call_len (by rfl) N.len PySem.boot_len (pa_cons (pv 5) pa_nil)) pa_nil)) (pg_name (i := 6) nd rfl (Or.inl rfl))
        (pss_one (ps_if (pt_cmpR op_in_seq (pe_ix ix_list (pv 5) (pv 6) (fun _ _ => rfl)) (pe_slice sl_list (pv 5) po_none (po_some (pv 6))) (by rfl)) (pss_one (ps_ret (pe_tup (pa_cons pe_str (pa_cons (pe_ix ix_list (pv 5) (pv 6) (fun _ _ => rfl)) pa_nil))))) pss_nil)))
      (pss_cons (ps_for PassesOwn.never rfl (pi_list (pe_dget hu (pv 0) pe_str (fun _ _ => rfl))) (pg_name (i := 3) nd rfl (Or.inl rfl))
        (pss_one (ps_for PassesOwn.never rfl (pi_range1 rfl N.range (pa_cons (pe_callB call_len (by rfl) N.len PySem.boot_len (pa_cons (pe_ix ix_seq (pv 3) pe_int (fun _ _ => rfl)) pa_nil)) pa_nil)) (pg_name (i := 6) nd rfl (Or.inl rfl))
          (pss_cons (ps_if (PW.pt (pw_and (pt_cmpR op_ne (pe_ix ix_seq (pe_ix ix_seq (pv 3) pe_int (fun _ _ => rfl)) (pv 6) (fun _ _ => rfl)) pe_str (nomark _)) (pw_and1 (pt_cmpR op_notIn_seq (pe_ix ix_seq (pe_ix ix_seq (pv 3) pe_int (fun _ _ => rfl)) (pv 6) (fun _ _ => rfl)) (pv 4) (by rfl)))))
              (pss_one (ps_ret (pe_tup (pa_cons pe_str (pa_cons (pe_ix ix_seq (pe_ix ix_seq (pv 3) pe_int (fun _ _ => rfl)) (pv 6) (fun _ _ => rfl)) pa_nil))))) pss_nil)
          (pss_one (ps_if (pt_cmpR op_in_seq (pe_ix ix_seq (pe_ix ix_seq (pv 3) pe_int (fun _ _ => rfl)) (pv 6) (fun _ _ => rfl)) (pe_slice sl_list (pe_callTy call_list_of (by rfl) N.list (by decide +kernel) (pa_cons (pe_ix ix_seq (pv 3) pe_int (fun _ _ => rfl)) pa_nil)) po_none (po_some (pv 6))) (by rfl))
              (pss_one (ps_ret (pe_tup (pa_cons pe_str (pa_cons (pe_ix ix_seq (pe_ix ix_seq (pv 3) pe_int (fun _ _ => rfl)) (pv 6) (fun _ _ => rfl)) pa_nil))))) pss_nil))))))
      (pss_one (ps_ret (pe_tup (pa_cons pe_str (pa_cons pe_non pa_nil))))))))))), ?_⟩
    obtain ⟨kvs, hD, w1, w2, w3, w4⟩ := td.ex
    refine ⟨by decide, fun p1 n1 => ⟨by decide, fun p2 n2 => ⟨by decide, fun p3 n3 => ⟨by decide, fun p4 n4 => ⟨by show 4 ≤ sizeLine; decide, fun L nL => ?_⟩⟩⟩⟩⟩
    have u1 := same_new (o := .tup [.str "stuffs", .int 5]) (Same.rfl' (H := H)) n1
    have g1 : upd H p1 (.tup [.str "stuffs", .int 5]) p1 = some (.tup [.str "stuffs", .int 5]) := upd_same
    generalize upd H p1 (.tup [.str "stuffs", .int 5]) = G1 at u1 g1 n2 n3 n4 nL ⊢
    have u2' := same_new (o := .tup [.str "states", .int 4]) (Same.rfl' (H := G1)) n2
    have g2 : upd G1 p2 (.tup [.str "states", .int 4]) p2 = some (.tup [.str "states", .int 4]) := upd_same
    generalize upd G1 p2 (.tup [.str "states", .int 4]) = G2 at u2' g2 n3 n4 nL ⊢
    have u3' := same_new (o := .tup [.str "lands", .int 4]) (Same.rfl' (H := G2)) n3
    have g3 : upd G2 p3 (.tup [.str "lands", .int 4]) p3 = some (.tup [.str "lands", .int 4]) := upd_same
    generalize upd G2 p3 (.tup [.str "lands", .int 4]) = G3 at u3' g3 n4 nL ⊢
    have u4' := same_new (o := .tup [.str "forms", .int 6]) (Same.rfl' (H := G3)) n4
    have g4 : upd G3 p4 (.tup [.str "forms", .int 6]) p4 = some (.tup [.str "forms", .int 6]) := upd_same
    generalize upd G3 p4 (.tup [.str "forms", .int 6]) = G4 at u4' g4 nL ⊢
    have u5' := same_new (o := .lst [.ref p1, .ref p2, .ref p3, .ref p4]) (Same.rfl' (H := G4)) nL
    have hL : upd G4 L (.lst [.ref p1, .ref p2, .ref p3, .ref p4]) L = some (.lst [.ref p1, .ref p2, .ref p3, .ref p4]) := upd_same
    generalize upd G4 L (.lst [.ref p1, .ref p2, .ref p3, .ref p4]) = G5 at u5' hL ⊢
    have v4 := g4
    have y4 := u5' _ _ g4
    have y3 := u5' _ _ (u4' _ _ g3)
    have y2 := u5' _ _ (u4' _ _ (u3' _ _ g2))
    have y1 := u5' _ _ (u4' _ _ (u3' _ _ (u2' _ _ g1)))
    have uG : Same H G5 := u1.trans (u2'.trans (u3'.trans (u4'.trans u5')))
    have row : ∀ i, i < 4 → ∃ z m v d q, [V.ref p1, .ref p2, .ref p3, .ref p4][i]? = some (.ref q) ∧ G5 q = some (.tup [.str z, .int m]) ∧ valV kvs (Sum.inr z) = some v ∧ Rp H v d ∧
        (goodP d1 d2 d3 d4 i → listD 1 m d = false → partsErr d1 d2 d3 d4 = some z) ∧ (goodP d1 d2 d3 d4 i → listD 1 m d = true → goodP d1 d2 d3 d4 (i + 1)) := by
      intro i hi
      match i, hi with
      | 0, _ =>
        refine ⟨_, _, _, _, p1, rfl, y1, w1, t1, fun _ e => by unfold partsErr; rw [if_pos e], fun _ e => ⟨fun _ => e, fun h => by omega, fun h => by omega, fun h => by omega⟩⟩
      | 1, _ =>
        refine ⟨_, _, _, _, p2, rfl, y2, w2, t2, fun g e => by unfold partsErr; rw [g.1 (by decide), if_neg (by decide), if_pos e], fun g e => ⟨fun _ => g.1 (by decide), fun _ => e, fun h => by omega, fun h => by omega⟩⟩
      | 2, _ =>
        refine ⟨_, _, _, _, p3, rfl, y3, w3, t3, fun g e => by unfold partsErr; rw [g.1 (by decide), g.2.1 (by decide), if_neg (by decide), if_neg (by decide), if_pos e], fun g e => ⟨fun _ => g.1 (by decide), fun _ => g.2.1 (by decide), fun _ => e, fun h => by omega⟩⟩
      | 3, _ =>
        refine ⟨_, _, _, _, p4, rfl, y4, w4, t4, fun g e => by unfold partsErr; rw [g.1 (by decide), g.2.1 (by decide), g.2.2.1 (by decide), e, if_neg (by decide), if_neg (by decide), if_neg (by decide), Bool.false_and, if_pos rfl], fun g e => ⟨fun _ => g.1 (by decide), fun _ => g.2.1 (by decide), fun _ => g.2.2.1 (by decide), fun _ => e⟩⟩
    refine ⟨L, rfl, ⟨_, SqL.of hL⟩, for_it (walk_list (K := K) (a := L) (xs := [V.ref p1, .ref p2, .ref p3, .ref p4])) (fun i σ H' => Same G5 H' ∧ goodP d1 d2 d3 d4 i ∧ ∃ p q, σ = [some (.ref D), p, q, none, none, none, none]) ⟨Same.rfl', ⟨fun h => by omega, fun h => by omega, fun h => by omega, fun h => by omega⟩, _, _, rfl⟩ (fun i σ H' _ h => SqL.of (h.1 _ _ hL)) ?_ ?_⟩
    · rintro i y σ1 H1 H2 hi ⟨s1, gd, p, q, rfl⟩ ⟨rfl, hy⟩
      obtain ⟨z, m, v, d, q0, e1, e2, e3, e4, bad, good⟩ := row i hi
      have hy' : [V.ref p1, .ref p2, .ref p3, .ref p4][i]? = some y := hy
      rw [e1] at hy'
      cases hy'
      have sH := uG.trans s1
      have gD := DGet.k (k := Sum.inr z) (sH _ _ hD)
      rw [e3] at gD
      have rp := e4.mono (Sq.of sH)
      have bad' : listD 1 m d = false → ∀ H3 p, Same H2 H3 → H3 p = some (.tup [.str "BadStock", .str z]) → Q (.ref p) H3 := fun e H3 p s3 hp => by
        rcases k with ⟨z', pe, kk⟩ | ⟨pe, _⟩
        · rw [bad gd e] at pe
          cases pe
          exact kk H3 p (sH.trans s3) hp
        · rw [bad gd e] at pe
          cases pe
      refine ⟨q0, _, rfl, SqT.of (s1 _ _ e2), rfl, _, _, rfl, _, _, rfl, rfl, ?_⟩
      refine ⟨_, rfl, _, rfl, D, v, rfl, gD, by decide, fun r nr => ?_⟩
      have S3 : Same H2 (upd H2 r (.tup [.ty "list", .ty "tuple"])) := same_new Same.rfl' nr
      have dr : upd H2 r (.tup [.ty "list", .ty "tuple"]) r = some (.tup [.ty "list", .ty "tuple"]) := upd_same
      generalize upd H2 r (.tup [.ty "list", .ty "tuple"]) = H3 at S3 dr ⊢
      have rp3 := rp.mono (Sq.of S3)
      obtain ⟨u', ty', e'⟩ := rp3.kLT (K := K)
      refine ⟨v, r, _, u', _, _, rfl, dr, .cons (.ty _) (.cons (.ty _) .nil), ty', e', _, rfl, ?_⟩
      cases e0 : dL d with
      | false =>
        refine iteT ⟨_, rfl, (by show 2 ≤ sizeLine; decide), fun t nt => ?_⟩
        exact bad' (by unfold listD; rw [e0]; rfl) _ t (same_new S3 nt) upd_same
      | true =>
      have gD3 := DGet.k (k := Sum.inr z) (S3 _ _ (sH _ _ hD))
      rw [e3] at gD3
      have lq : listD 1 m d = (decide (1 ≤ (lenD d : Int)) && decide ((lenD d : Int) ≤ m)) := by unfold listD; rw [e0]; rfl
      refine iteF ⟨_, rfl, _, rfl, D, v, rfl, gD3, v, _, rfl, rp3.lenV e0, _, _, rfl, rfl, _, rfl, ?_⟩
      by_cases h1 : (lenD d : Int) < 1
      · rw [decide_eq_true h1]
        refine iteT (iteT ⟨_, rfl, (by show 2 ≤ sizeLine; decide), fun t nt => ?_⟩)
        exact bad' (by rw [lq, decide_eq_false (by omega), Bool.false_and]) _ t (same_new S3 nt) upd_same
      rw [decide_eq_false h1]
      refine iteF ⟨_, rfl, _, rfl, D, v, rfl, gD3, v, _, rfl, rp3.lenV e0, _, rfl, _, _, rfl, rfl, _, rfl, ?_⟩
      by_cases h2 : m < (lenD d : Int)
      · rw [decide_eq_true h2]
        refine iteT ⟨_, rfl, (by show 2 ≤ sizeLine; decide), fun t nt => ?_⟩
        exact bad' (by rw [lq, decide_eq_false (show ¬ (lenD d : Int) ≤ m by omega), Bool.and_false]) _ t (same_new S3 nt) upd_same
      rw [decide_eq_false h2]
      refine iteF ⟨s1.trans S3, good gd (by rw [lq, decide_eq_true (by omega), decide_eq_true (by omega)]; rfl), _, _, rfl⟩
    · rintro σ1 H1 ⟨s1, gd, p, q, rfl⟩
      replace gd : goodP d1 d2 d3 d4 4 := gd
      have sH := uG.trans s1
      have pe := gd.all
      have L4 := gd.2.2.2 (by decide)
      have gD := DGet.k (k := Sum.inr "forms") (sH _ _ hD)
      rw [w4] at gD
      have badF : (itemsD d4).all rowD = false → ∀ H3 p, Same H1 H3 → H3 p = some (.tup [.str "BadStock", .str "forms"]) → Q (.ref p) H3 := fun e H3 p s3 hp => by
        rw [if_pos e] at pe
        rcases k with ⟨z', pz, kk⟩ | ⟨pz, _⟩
        · rw [pe] at pz
          cases pz
          exact kk H3 p (sH.trans s3) hp
        · rw [pe] at pz
          cases pz
      have t4' := t4.mono (Sq.of sH)
      cases t4' with
      | @lst a xs ds ha r =>
        refine .inl ⟨_, rfl, D, .ref a, rfl, gD, a, rfl, ⟨_, SqL.of ha⟩, for_it (walk_list (K := K) (a := a) (xs := xs)) (fun i σ H' => Same H1 H' ∧ (∀ d ∈ ds.take i, rowD d = true) ∧ ∃ p q r, σ = [some (.ref D), p, q, r, none, none, none]) ⟨Same.rfl', (fun d hd => by cases hd), _, _, _, rfl⟩ (fun i σ H' _ h => SqL.of (h.1 _ _ ha)) ?_ ?_⟩
        · rintro i y σ2 H2 H3 hi ⟨s2, ok, p, q, r', rfl⟩ ⟨rfl, hy⟩
          obtain ⟨d, hd, rd⟩ := r.nth hy
          refine ⟨_, rfl, y, d, rfl, rd.mono (Sq.of s2), fun H4 S4 => ⟨_, rfl, ?_⟩⟩
          cases e : rowD d with
          | false =>
            refine iteT ⟨by decide, fun t nt => ?_⟩
            exact badF (List.all_eq_false.mpr ⟨d, List.mem_of_getElem? hd, by rw [e]; exact Bool.false_ne_true⟩) _ t (same_new (s2.trans S4) nt) upd_same
          | true =>
            refine iteF ⟨s2.trans S4, fun d' hd' => ?_, _, _, _, rfl⟩
            rw [List.take_add_one, hd] at hd'
            rcases List.mem_append.mp hd' with h | h
            · exact ok d' h
            · rw [List.mem_singleton.mp h]
              exact e
        · rintro σ2 H2 ⟨s2, ok, p2, q2, r2, rfl⟩
          have al : ds.all rowD = true := List.all_eq_true.mpr fun d hd => ok d (by rw [r.len, List.take_length]; exact hd)
          rw [if_neg (by show ¬ ds.all rowD = false; rw [al]; exact Bool.noConfusion)] at pe
          rcases k with ⟨z', pz, _⟩ | ⟨_, xs1, xs2, xs3, xs4, ds', rs, T0, k⟩
          · rw [pe] at pz
            cases pz
          obtain ⟨b, eb, hb⟩ := T0.i4
          cases eb
          have ex4 : xs4 = xs := by
            have h := sH _ _ hb
            rw [ha] at h
            cases h
            rfl
          subst ex4
          obtain ⟨a1, rfl, i1⟩ := T0.i1
          obtain ⟨a2, rfl, i2⟩ := T0.i2
          obtain ⟨a3, rfl, i3⟩ := T0.i3
          have fewR := T0.rsfew.1
          have fewN := T0.rsfew.2
          have sH2 := sH.trans s2
          have g4' := DGet.k (k := Sum.inr "forms") (sH2 _ _ hD)
          rw [w4] at g4'
          refine ⟨_, rfl, D, .ref a, rfl, g4', a, rfl, ⟨_, SqL.of (s2 _ _ ha)⟩, fun C nC => ?_⟩
          have rows2 := T0.rows.same sH2
          have hlen4 : xs4.length = rs.length := rows2.len
          refine lc_it (walk_list (K := K) (a := a) (xs := xs4)) (fun i H3 => Same H2 H3 ∧ H3 C = some (.lst ((rs.take i).map FRow.n))) ⟨same_new Same.rfl' nC, upd_same⟩ (fun _ _ _ h => SqL.of (h.1 _ _ (s2 _ _ ha))) ?_ ?_
          · rintro i y H3 H4 hi ⟨s3, d3⟩ ⟨rfl, hy⟩
            obtain ⟨r, hri, a', t', rfl, sq1, sq2⟩ := rows2.nth hy
            refine ⟨rfl, yesT ⟨_, rfl, (sq1.same s3).ix rfl ⟨_, d3, ?_, same_put s3 nC, ?_⟩⟩⟩
            · rw [List.length_map, List.length_take]
              exact small1000 (by omega)
            · rw [upd_same, List.take_add_one, hri, List.map_append]
              rfl
          rintro H3 ⟨s3, dC⟩
          rw [hlen4, List.take_length] at dC
          have sH3 := sH2.trans s3
          have g1' := DGet.k (k := Sum.inr "stuffs") (sH3 _ _ hD)
          rw [w1] at g1'
          refine ⟨_, rfl, D, .ref a1, rfl, g1', a1, xs1, rfl, (i1.same sH3).imp SqL.of SqT.of, fun M1 m1 => ?_⟩
          have q1 := same_new (o := .lst xs1) (Same.rfl' (H := H3)) m1
          have dM1 : upd H3 M1 (.lst xs1) M1 = some (.lst xs1) := upd_same
          generalize upd H3 M1 (.lst xs1) = E1 at q1 dM1 ⊢
          have sE1 := sH3.trans q1
          have g2' := DGet.k (k := Sum.inr "states") (sE1 _ _ hD)
          rw [w2] at g2'
          refine ⟨_, rfl, D, .ref a2, rfl, g2', a2, xs2, rfl, (i2.same sE1).imp SqL.of SqT.of, fun M2 m2 => ?_⟩
          have q2' := same_new (o := .lst xs2) (Same.rfl' (H := E1)) m2
          have dM2 : upd E1 M2 (.lst xs2) M2 = some (.lst xs2) := upd_same
          generalize upd E1 M2 (.lst xs2) = E2 at q2' dM2 ⊢
          have lN : xs1.length + (xs2.length + (xs3.length + rs.length)) = (allNames xs1 xs2 xs3 rs).length := by
            show _ = (xs1 ++ (xs2 ++ (xs3 ++ rs.map FRow.n))).length
            rw [List.length_append, List.length_append, List.length_append, List.length_map]
          refine ⟨M1, M2, xs1, xs2, rfl, rfl, q2' _ _ dM1, dM2, Nat.le_of_lt (small1000 (by omega)), fun c1 n1 => ?_⟩
          have q3 := same_new (o := .lst (xs1 ++ xs2)) (Same.rfl' (H := E2)) n1
          have dc1 : upd E2 c1 (.lst (xs1 ++ xs2)) c1 = some (.lst (xs1 ++ xs2)) := upd_same
          generalize upd E2 c1 (.lst (xs1 ++ xs2)) = E3 at q3 dc1 ⊢
          have sE3 := sE1.trans (q2'.trans q3)
          have g3' := DGet.k (k := Sum.inr "lands") (sE3 _ _ hD)
          rw [w3] at g3'
          refine ⟨_, rfl, D, .ref a3, rfl, g3', a3, xs3, rfl, (i3.same sE3).imp SqL.of SqT.of, fun M3 m3 => ?_⟩
          have q4 := same_new (o := .lst xs3) (Same.rfl' (H := E3)) m3
          have dM3 : upd E3 M3 (.lst xs3) M3 = some (.lst xs3) := upd_same
          generalize upd E3 M3 (.lst xs3) = E4 at q4 dM3 ⊢
          refine ⟨c1, M3, xs1 ++ xs2, xs3, rfl, rfl, q4 _ _ dc1, dM3, Nat.le_of_lt (small1000 (by rw [List.length_append]; omega)), fun c2 n2 => ?_⟩
          have q5 := same_new (o := .lst (xs1 ++ xs2 ++ xs3)) (Same.rfl' (H := E4)) n2
          have dc2 : upd E4 c2 (.lst (xs1 ++ xs2 ++ xs3)) c2 = some (.lst (xs1 ++ xs2 ++ xs3)) := upd_same
          generalize upd E4 c2 (.lst (xs1 ++ xs2 ++ xs3)) = E5 at q5 dc2 ⊢
          have s35 : Same H3 E5 := q1.trans (q2'.trans (q3.trans (q4.trans q5)))
          have dC5 := s35 _ _ dC
          refine ⟨_, rfl, c2, C, xs1 ++ xs2 ++ xs3, rs.map FRow.n, rfl, rfl, dc2, dC5, Nat.le_of_lt (small1000 (by rw [List.length_append, List.length_append, List.length_map]; omega)), fun c3 n3 => ?_⟩
          have q6 := same_new (o := .lst (xs1 ++ xs2 ++ xs3 ++ rs.map FRow.n)) (Same.rfl' (H := E5)) n3
          have dc3 : upd E5 c3 (.lst (xs1 ++ xs2 ++ xs3 ++ rs.map FRow.n)) c3 = some (.lst (allNames xs1 xs2 xs3 rs)) := by
            rw [upd_same]
            show some (HO.lst (xs1 ++ xs2 ++ xs3 ++ rs.map FRow.n)) = some (.lst (xs1 ++ (xs2 ++ (xs3 ++ rs.map FRow.n))))
            rw [List.append_assoc, List.append_assoc]
          generalize upd E5 c3 (.lst (xs1 ++ xs2 ++ xs3 ++ rs.map FRow.n)) = E6 at q6 dc3 ⊢
          have s6 : Same H E6 := sH3.trans (s35.trans q6)
          have dC6 := q6 _ _ dC5
          have ha6 : E6 a = some (.lst xs4) := s6 _ _ hb
          have T6 := T0.rps
          have shN := T0.shw
          have tsR := T0.ts
          have rows6 := T0.rows.same s6
          clear q1 q2' q3 q4 q5 q6 dM1 dM2 dM3 dc1 dc2 dC5 s35 sE1 sE3 g1' g2' g3' dC s3 m1 m2 m3 n1 n2 n3
          generalize hNs : allNames xs1 xs2 xs3 rs = ns at k T6 dc3 fewN lN
          have hlen : ns.length = ds'.length := T6.len
          refine ⟨_, rfl, c3, rfl, ⟨_, SqL.of dc3⟩, for_it (walk_list (K := K) (a := c3) (xs := ns)) (fun i σ H' => Same E6 H' ∧ (∀ d ∈ ds'.take i, nmD d = true) ∧ ∃ p, σ = [some (.ref D), p, q2, r2, some (.ref C), some (.ref c3), none]) ⟨Same.rfl', (fun d hd => by cases hd), _, rfl⟩ (fun i σ H' _ h => SqL.of (h.1 _ _ dc3)) ?_ ?_⟩
          · rintro i x σ3 H4 H5 hi ⟨s4, good, p, rfl⟩ ⟨rfl, hx⟩
            obtain ⟨d, hd, rd⟩ := T6.nth hx
            refine ⟨_, rfl, x, d, rfl, rd.mono (Sq.of (s6.trans s4)), fun H6 s5 => ⟨_, rfl, ?_⟩⟩
            cases e : nmD d with
            | true =>
              refine iteF ⟨s4.trans s5, fun d' hd' => ?_, _, rfl⟩
              rw [List.take_add_one, hd] at hd'
              rcases List.mem_append.mp hd' with h | h
              · exact good d' h
              · rw [List.mem_singleton.mp h]
                exact e
            | false =>
              have fb : firstBad ds' = some i := by
                have hi' : i < ds'.length := by omega
                rw [firstBad_drop good, List.drop_eq_getElem_cons hi']
                have hdi : ds'[i] = d := by rw [List.getElem?_eq_getElem hi'] at hd; exact Option.some.inj hd
                show Option.map _ (if nmD ds'[i] = true then _ else _) = _
                rw [hdi, if_neg (by rw [e]; exact Bool.false_ne_true)]
                exact congrArg some (Nat.zero_add i)
              rw [fb] at k
              refine iteT ⟨_, rfl, (by show 2 ≤ sizeLine; decide), fun t nt => ?_⟩
              exact k x _ t hx (s6.trans (same_new (s4.trans s5) nt)) upd_same
          rintro σ3 H4 ⟨s4, good, p, rfl⟩
          rw [hlen, List.take_length] at good
          have fb : firstBad ds' = none := by
            rw [firstBad_drop (i := ds'.length) (by rw [List.take_length]; exact good), List.drop_length]
            rfl
          rw [fb] at k
          obtain ⟨zs, exs, eds, hz⟩ := texts_of T6 good
          have flat : ∀ n, (ns.take n).all flatV = true := fun n => List.all_eq_true.mpr fun y hy => by
            rw [exs] at hy
            obtain ⟨z, _, rfl⟩ := List.mem_map.mp (List.mem_of_mem_take hy)
            rfl
          have s64 := s6.trans s4
          have dc4 := s4 _ _ dc3
          have flatx : ∀ {x : V}, x ∈ ns → flatV x = true := fun {x} hx => by
            rw [exs] at hx
            obtain ⟨z, _, rfl⟩ := List.mem_map.mp hx
            rfl
          refine ⟨_, rfl, .ref c3, ns.length, rfl, .inl ⟨ns, SqL.of dc4, rfl⟩, _, rfl, by omega, by omega, for_range (lo := 0) (n := ((ns.length : Nat) : Int).toNat) (fun i σ H' => Same H4 H' ∧ (∀ j, j < i → ∀ x, ns[j]? = some x → inV x (ns.take j) = false) ∧
            ∃ kk, σ = [some (.ref D), p, q2, r2, some (.ref C), some (.ref c3), kk]) ⟨Same.rfl', fun j hj => absurd hj (Nat.not_lt_zero _), _, rfl⟩ ?_ ?_⟩
          · rintro i σ4 H5 hi ⟨s5, fine, kk, rfl⟩
            have hi' : i < ns.length := by omega
            rw [Int.zero_add]
            have dc5 := s5 _ _ dc4
            have hx : ns[i]? = some ns[i] := List.getElem?_eq_getElem hi'
            refine ⟨_, rfl, _, rfl, c3, ns, _, _, rfl, rfl, SqL.of dc5, atI_nat hx, _, rfl, _, rfl, _, rfl, c3, ns, rfl, SqL.of dc5, fun T nT => ?_⟩
            rw [cut_take (Nat.le_of_lt hi')]
            have s7 := same_new (o := .lst (ns.take i)) s5 nT
            have dc7 : upd H5 T (.lst (ns.take i)) c3 = some (.lst ns) := by rw [upd_ne (ne_of_none dc5 nT)]; exact dc5
            refine ⟨T, ns.take i, rfl, .inl (SqL.of upd_same), flatx (List.getElem_mem hi'), flat i, _, rfl, ?_⟩
            cases e : inV ns[i] (ns.take i) with
            | true =>
              have ft : firstTwice ns 0 ns = some i := by
                rw [twice_drop (Nat.le_of_lt hi') fine, List.drop_eq_getElem_cons hi']
                show (if inV ns[i] (ns.take i) = true then _ else _) = _
                rw [if_pos e]
              rw [ft] at k
              refine iteT ⟨_, rfl, _, rfl, c3, ns, _, _, rfl, rfl, SqL.of dc7, atI_nat hx, (by show 2 ≤ sizeLine; decide), fun t nt => ?_⟩
              exact k _ _ t hx (s64.trans (same_new s7 nt)) upd_same
            | false =>
              refine iteF ⟨s7, fun j hj x hxj => ?_, _, rfl⟩
              by_cases q : j = i
              · subst q
                rw [hx] at hxj
                cases hxj
                exact e
              · exact fine j (by omega) x hxj
          rintro σ4 H5 ⟨s5, fine, kk, rfl⟩
          have ft : firstTwice ns 0 ns = none := by
            rw [twice_drop (i := ns.length) (Nat.le_refl _) (fun j hj => fine j (by omega)), List.drop_length]
            rfl
          rw [ft] at k
          have s65 := s64.trans s5
          have dC5 := s5 _ _ (s4 _ _ dC6)
          have ha5 := s65 _ _ hb
          have rows5 := T0.rows.same s65
          have g45 := DGet.k (k := Sum.inr "forms") (s65 _ _ hD)
          rw [w4] at g45
          have flatK : (rs.map FRow.n).all flatV = true := List.all_eq_true.mpr fun y hy => flatx (by rw [← hNs]; exact List.mem_append.mpr (.inr (List.mem_append.mpr (.inr (List.mem_append.mpr (.inr hy))))))
          refine ⟨_, rfl, D, .ref a, rfl, g45, a, rfl, ⟨_, SqL.of ha5⟩, for_it (walk_list (K := K) (a := a) (xs := xs4)) (fun i σ H' => Same H5 H' ∧ (∀ r ∈ rs.take i, takeErr (rootsOf rs) r.ts 0 r.ts = none) ∧
            ∃ r3 kk, σ = [some (.ref D), p, q2, r3, some (.ref C), some (.ref c3), kk]) ⟨Same.rfl', (fun r hr => by cases hr), _, _, rfl⟩ (fun i σ H' _ h => SqL.of (h.1 _ _ ha5)) ?_ ?_⟩
          · rintro i y σ5 H6 H7 hi ⟨s7, good7, r3, kk, rfl⟩ ⟨rfl, hy⟩
            obtain ⟨r, hri, a', t', rfl, h1, h2⟩ := rows5.nth hy
            have hrm := List.mem_of_getElem? hri
            have hi' : i < rs.length := by omega
            have at3 : atI [r.n, V.int r.lo, V.int r.hi, V.ref t'] 3 = some (.ref t') := atI_nat (j := 3) rfl
            have told : ∀ e, takeErr (rootsOf rs) r.ts 0 r.ts = some e → takesErr (rootsOf rs) rs = some e := fun e he => by
              have hri' : rs[i] = r := by rw [List.getElem?_eq_getElem hi'] at hri; exact Option.some.inj hri
              rw [takes_drop good7, List.drop_eq_getElem_cons hi', hri']
              show (match takeErr (rootsOf rs) r.ts 0 r.ts with | some e => some e | none => _) = _
              rw [he]
            have fsh := (tsR r hrm).1
            have few3 := (tsR r hrm).2
            have flat3 : ∀ n, (r.ts.take n).all flatV = true := fun n => List.all_eq_true.mpr fun z hz => (fsh z (List.mem_of_mem_take hz)).flat
            have k1 := h1.same s7
            have k2 := h2.same s7
            refine ⟨_, rfl, k1.ix at3 ⟨.ref t', r.ts.length, rfl, k2.lenV, _, rfl, by omega, by omega, for_range (lo := 0) (n := ((r.ts.length : Nat) : Int).toNat) (fun i' σ H' => Same H7 H' ∧ Fine (rootsOf rs) r.ts i' ∧
              ∃ kk, σ = [some (.ref D), p, q2, some (.ref a'), some (.ref C), some (.ref c3), kk]) ⟨Same.rfl', (fun j x hj => absurd hj (Nat.not_lt_zero _)), _, rfl⟩ ?_ ?_⟩⟩
            · rintro i' σ6 H8 hi2 ⟨s8, fine8, kk2, rfl⟩
              have hj : i' < r.ts.length := by omega
              rw [Int.zero_add]
              have hx : r.ts[i']? = some r.ts[i'] := List.getElem?_eq_getElem hj
              have fx := fsh _ (List.getElem_mem hj)
              have l1 := k1.same s8
              have l2 := k2.same s8
              have dC8 := s8 _ _ (s7 _ _ dC5)
              have s58 := s65.trans (s7.trans s8)
              have rootq := inV_root fx (rs.map FRow.n)
              have unk : inV r.ts[i'] (rootsOf rs) = false → takesErr (rootsOf rs) rs = some (true, r.ts[i']) := fun e => by
                refine told _ ?_
                rw [take_drop (Nat.le_of_lt hj) fine8, List.drop_eq_getElem_cons hj]
                show (if inV r.ts[i'] (rootsOf rs) = false then _ else _) = _
                rw [if_pos e]
              refine ⟨_, rfl, l1.ix at3 ⟨_, rfl, l2.ix (atI_nat hx) ⟨scal_root fx, _, rfl, ?_⟩⟩⟩
              have three : decide (r.ts[i'] = .str "mix") = true ∨ (decide (r.ts[i'] = .str "mix") = false ∧ inV r.ts[i'] (rs.map FRow.n) = true) ∨ (decide (r.ts[i'] = .str "mix") = false ∧ inV r.ts[i'] (rs.map FRow.n) = false) := by
                cases decide (r.ts[i'] = .str "mix") <;> cases inV r.ts[i'] (rs.map FRow.n) <;> simp
              rcases three with m | ⟨m, q⟩ | ⟨m, q⟩
              case' inl =>
                have e : inV r.ts[i'] (rootsOf rs) = true := by rw [rootq, m, Bool.true_or]
                rw [m]
                refine iteF (iteF ?_)
              case' inr.inl =>
                have e : inV r.ts[i'] (rootsOf rs) = true := by rw [rootq, q, Bool.or_true]
                rw [m]
                refine iteT ⟨_, rfl, l1.ix at3 ⟨_, rfl, l2.ix (atI_nat hx) ⟨_, rfl, C, rs.map FRow.n, rfl, .inl (SqL.of dC8), fx.flat, flatK, _, rfl, ?_⟩⟩⟩
                rw [q]
                refine iteF ?_
              case inr.inr =>
                have e : inV r.ts[i'] (rootsOf rs) = false := by rw [rootq, m, q]; rfl
                rw [m]
                refine iteT ⟨_, rfl, l1.ix at3 ⟨_, rfl, l2.ix (atI_nat hx) ⟨_, rfl, C, rs.map FRow.n, rfl, .inl (SqL.of dC8), fx.flat, flatK, _, rfl, ?_⟩⟩⟩
                rw [q]
                rw [unk e] at k
                refine iteT ⟨_, rfl, l1.ix at3 ⟨_, rfl, l2.ix (atI_nat hx) ⟨by show 2 ≤ sizeLine; decide, fun t nt => ?_⟩⟩⟩
                exact k _ t (s65.trans (same_new (s7.trans s8) nt)) upd_same
              all_goals
                refine ⟨_, rfl, l1.ix at3 ⟨_, rfl, l2.ix (atI_nat hx) ⟨_, rfl, l1.ix at3 ⟨t', r.ts, rfl, l2.imp SqL.of SqT.of, fun M nM => ⟨_, rfl, _, rfl, M, r.ts, rfl, SqL.of upd_same, fun T nT => ?_⟩⟩⟩⟩⟩
                rw [cut_take (Nat.le_of_lt hj)]
                have s9 := same_new (o := .lst (r.ts.take i')) (same_new (o := .lst r.ts) s8 nM) nT
                refine ⟨T, r.ts.take i', rfl, .inl (SqL.of upd_same), fx.flat, flat3 i', _, rfl, ?_⟩
                cases e2 : inV r.ts[i'] (r.ts.take i') with
                | true =>
                  have te : takeErr (rootsOf rs) r.ts 0 r.ts = some (false, r.ts[i']) := by
                    rw [take_drop (Nat.le_of_lt hj) fine8, List.drop_eq_getElem_cons hj]
                    show (if inV r.ts[i'] (rootsOf rs) = false then _ else if inV r.ts[i'] (r.ts.take i') = true then _ else _) = _
                    rw [if_neg (by rw [e]; intro z; cases z), if_pos e2]
                  rw [told _ te] at k
                  refine iteT ⟨_, rfl, (k1.same s9).ix at3 ⟨_, rfl, (k2.same s9).ix (atI_nat hx) ⟨by show 2 ≤ sizeLine; decide, fun t nt => ?_⟩⟩⟩
                  exact k _ t (s65.trans (same_new (s7.trans s9) nt)) upd_same
                | false =>
                  refine iteF ⟨s9, fun j x' hj2 hx2 => ?_, _, rfl⟩
                  by_cases hji : j = i'
                  · subst hji
                    rw [hx] at hx2
                    cases hx2
                    exact ⟨e, e2⟩
                  · exact fine8 j x' (by omega) hx2
            · rintro σ6 H8 ⟨s8, fine8, kk2, rfl⟩
              refine ⟨s7.trans s8, fun r' hr' => ?_, _, _, rfl⟩
              rw [List.take_add_one, hri] at hr'
              rcases List.mem_append.mp hr' with z | z
              · exact good7 r' z
              · rw [Option.toList_some, List.mem_singleton] at z
                rw [z, take_drop (Nat.le_refl _) (fun j x hj => fine8 j x (by omega)), List.drop_length]
                rfl
          rintro σ5 H6 ⟨s7, good7, r3, kk, rfl⟩
          have te : takesErr (rootsOf rs) rs = none := by
            rw [takes_drop (i := xs4.length) good7, hlen4, List.drop_length]
            rfl
          rw [te] at k
          refine ⟨by decide, fun t nt => ?_⟩
          exact k _ t (s65.trans (same_new s7 nt)) upd_same
      | @tup a xs ds ha r =>
        refine .inr ⟨_, rfl, D, .ref a, rfl, gD, a, rfl, ⟨_, SqT.of ha⟩, for_it (walk_tup (K := K) (a := a) (xs := xs)) (fun i σ H' => Same H1 H' ∧ (∀ d ∈ ds.take i, rowD d = true) ∧ ∃ p q r, σ = [some (.ref D), p, q, r, none, none, none]) ⟨Same.rfl', (fun d hd => by cases hd), _, _, _, rfl⟩ (fun i σ H' _ h => SqT.of (h.1 _ _ ha)) ?_ ?_⟩
        · rintro i y σ2 H2 H3 hi ⟨s2, ok, p, q, r', rfl⟩ ⟨rfl, hy⟩
          obtain ⟨d, hd, rd⟩ := r.nth hy
          refine ⟨_, rfl, y, d, rfl, rd.mono (Sq.of s2), fun H4 S4 => ⟨_, rfl, ?_⟩⟩
          cases e : rowD d with
          | false =>
            refine iteT ⟨by decide, fun t nt => ?_⟩
            exact badF (List.all_eq_false.mpr ⟨d, List.mem_of_getElem? hd, by rw [e]; exact Bool.false_ne_true⟩) _ t (same_new (s2.trans S4) nt) upd_same
          | true =>
            refine iteF ⟨s2.trans S4, fun d' hd' => ?_, _, _, _, rfl⟩
            rw [List.take_add_one, hd] at hd'
            rcases List.mem_append.mp hd' with h | h
            · exact ok d' h
            · rw [List.mem_singleton.mp h]
              exact e
        · rintro σ2 H2 ⟨s2, ok, p2, q2, r2, rfl⟩
          exfalso
          have al : ds.all rowD = true := List.all_eq_true.mpr fun d hd => ok d (by rw [r.len, List.take_length]; exact hd)
          rw [if_neg (by show ¬ ds.all rowD = false; rw [al]; exact Bool.noConfusion)] at pe
          rcases k with ⟨z', pz, _⟩ | ⟨_, xs1, xs2, xs3, xs4, ds', rs, T0, _⟩
          · rw [pe] at pz
            cases pz
          · obtain ⟨b, eb, hb⟩ := T0.i4
            cases eb
            rw [sH _ _ hb] at ha
            cases ha
      | _ => cases L4
end
end K02

/-! k02, part H: a try with several clauses, each with a name or without. -/
namespace K02T
open PySem PySem.Spec PyProof.Rows L2
abbrev Suite := Addr → Value → Option Addr → TS
/-- behind the suite the slot of a clause's name is empty -/
def off (i : Option Nat) (D : Ends) : Ends := match i with
  | none => D
  | some j => ⟨fun g G => D.nx (g.set j none) G, D.rt, fun g G => D.bk (g.set j none) G, fun g G => D.ct (g.set j none) G⟩
/-- within the suite the slot holds the error -/
def onn (i : Option Nat) (a : Addr) (g : L2.St) : L2.St := match i with
  | none => g
  | some j => g.set j (some (.ref a))
/-- what the clauses wish of an error, one behind another -/
def wMix (K : PySem.W.Frag) (Wo : WX) (D : Ends) : List (Value × Option Nat × Suite) → WX
  | [] => Wo
  | (c, i, ts) :: r => fun cls d g G => ∃ b, PySem.W.exmOne K cls c = some b ∧ (b = true → ∀ a, G a = none → ts a cls d (off i D) (onn i a g) G) ∧ (b = false → wMix K Wo D r cls d g G)
/-- the suite of a clause by its reading -/
def Reads (X : Cx) (b₀ : Stmt) (su : List Stmt) (ts : Suite) : Prop := ∀ (a : Addr) (oe : Obj) (cls : Value) (d : Option Addr) (pn : List (Addr × Obj)), Zc cls d oe → (∃ vs, oe.data = .fields vs) → PSs (X.suite a ((a, oe) :: pn)) (b₀ :: su) (ts a cls d)
inductive Clauses (X : Cx) : List ExceptHandler → List (Value × Option Nat × Suite) → Prop
  | nil : Clauses X [] []
  | bare {x : Str} {c : Value} {ts : Suite} {b₀ : Stmt} {su : List Stmt} {p1 p2 : Pos} {hd : List ExceptHandler} {l : List (Value × Option Nat × Suite)} (hc : Names X x c) (hr : Reads X b₀ su ts) (r : Clauses X hd l) :
      Clauses X (.ExceptHandler (some (.Name x p1)) none (b₀ :: su) p2 :: hd) ((c, none, ts) :: l)
  | named {x n : Str} {i : Nat} {c : Value} {ts : Suite} {b₀ : Stmt} {su : List Stmt} {p1 p2 : Pos} {hd : List ExceptHandler} {l : List (Value × Option Nat × Suite)} (hc : Names X x c) (hi : X.N[i]? = some n) (hn : X.env.kindOf n = some .local) (hr : Reads X b₀ su ts) (r : Clauses X hd l) :
      Clauses X (.ExceptHandler (some (.Name x p1)) (some n) (b₀ :: su) p2 :: hd) ((c, some i, ts) :: l)
section
variable {X : Cx} {body : List Stmt} {c0 : ExceptHandler} {cs : List ExceptHandler} {l : List (Value × Option Nat × Suite)} {pos : Pos} {tb : WX → TS} {Wo : WX}
theorem ps_try_mix (es : X.stack = X.env :: X.outer) (ef : X.env.frame = some X.env.locals) (nd : X.N.Nodup) (tk : Takes X Wo)
    (hb : ∀ (W : WX) (pn : List (Addr × Obj)) (xe : Value → Shared → Prop), Takes (X.tr pn xe) W → PassesOwn (model X.prog X.w) X.A X.env xe → PSs (X.tr pn xe) body (tb W))
    (hh : Clauses X (c0 :: cs) l) : PS X (.Try body (c0 :: cs) [] [] pos) (fun D g G => tb (wMix X.K Wo D l) D g G) := by
  refine ⟨fun pp s g G D I h => ?_⟩
  have kx := I.ok
  have fr : X.A.frames = some (X.env :: X.outer) := kx.frames.trans (congrArg some es)
  refine wpAny_Try_except (wpAny_mono ((hb (wMix X.K Wo D l) (X.pn ++ pp) (fun e s1 => wpAny (model X.prog X.w) X.A (noteFrame e X.env) (fun _ s2 => wpAny (model X.prog X.w) X.A (setFlight e none) (fun _ s3 =>
    wpAny (model X.prog X.w) X.A (handleBy e X.env (c0 :: cs)) (SP X pp D) X.xe s3) X.xe s2) X.xe s1) (fun u t0 xx => ?_) PassesOwn.looking).run [] s g G D (I.toTry _) h) (fun fl s1 q => ?_) (fun e s1 he => he))
  · obtain ⟨a, B, sI, p9, g1, G1, cls, d, rfl, K9, nb, up, sk, na, os, ag, w⟩ := xx
    have K1 : Inv X pp g1 G1 sI := K9.ofTry kx
    refine Sky.land Zc.steady fr ef (show Sky B (X.env :: X.outer) a (Zc cls d) X.env.locals t0.heap from es ▸ sk) fun h3 f3 u3 => ?_
    have K3 : Inv X pp g1 G1 { t0 with heap := h3 } := K1.landed nb f3.1 (up.trans u3) os ag
    obtain ⟨o3, v3, e3, z3, d3⟩ := f3.there
    have nfr : a ∉ frs (X.env :: X.outer) := fun hm => by
      obtain ⟨_, o', e', hnf⟩ := f3.2.2.1.mem hm
      obtain rfl := Option.some.inj (e3.symm.trans e')
      exact hnf _ d3
    have nL : a ≠ X.env.locals := fun z => nfr (List.mem_filterMap.mpr ⟨X.env, List.mem_cons_self, ef.trans (congrArg some z.symm)⟩)
    have nF : a ∉ X.fs := fun hm => (List.mem_filterMap.mp hm).elim fun e y => nfr (List.mem_filterMap.mpr ⟨e, List.mem_cons_of_mem _ y.1, y.2⟩)
    have S3 := K3.suite e3 d3 na nL nF
    have looks : PySem.W.Looks (model X.prog X.w) h3 (typeOf (.ref a)) cls := fun A Q E s k q => wpAny_typeOf_ref (k _ _ e3) (by rw [z3.1]; exact q)
    have asks : ∀ {x : Str} {c : Value} {p1 : Pos} {Q : Value → Shared → Prop} {E : Value → Shared → Prop}, Names X x c → Q c { t0 with heap := h3 } → wpAny (model X.prog X.w) (X.A.mark (some (.ref a))) (eval (.Name x p1) X.env) Q E { t0 with heap := h3 } := fun {x c p1 Q E} hc q => by
      obtain ⟨h1, h2, h4 | ⟨h4, h5, h6⟩⟩ := hc
      · exact ld_glob (X := X.suite a ((a, o3) :: (X.pn ++ pp))) S3 h1 h4 q h2
      · exact ld_blt (X := X.suite a ((a, o3) :: (X.pn ++ pp))) S3 h1 h4 h5 q h6 h2
    have go : ∀ {hd : List ExceptHandler} {l2 : List (Value × Option Nat × Suite)}, Clauses X hd l2 → wMix X.K Wo D l2 cls d g1 G1 → wpAny (model X.prog X.w) X.A (handleBy (.ref a) X.env hd) (SP X pp D) X.xe { t0 with heap := h3 } := by
      intro hd l2 cl
      induction cl with
      | nil =>
        intro w
        refine wpAny_handleBy_nil ?_
        obtain ⟨k1, k2, k3, oe, vs, T, oT, t', y1, y2, y3, y4, y5⟩ := id f3
        unfold PySem.passOn
        refine wpAny_bind (wpAny_field y1 y3 y4 ?_)
        rw [if_neg (by simp)]
        have last : wpAny (model X.prog X.w) X.A (setFlight (.ref a) X.env.frame) (fun _ s4 => wpAny (model X.prog X.w) X.A (throw (.ref a) : Sem Flow) (SP X pp D) X.xe s4) X.xe { t0 with heap := h3 } := by
          rw [ef]
          exact HandSPX.setFlight_upZ f3 fun h4 q4 u4 => wpAny_throw (tk _ _ ⟨a, B, sI, pp, g1, G1, cls, d, rfl, K1, nb, (up.trans u3).trans u4, .inr (.inr (es.symm ▸ q4)), na, os, ag, w⟩)
        first
          | exact wpAny_bind (wpAny_pure (wpAny_bind last))
          | exact wpAny_bind last
      | bare hc hr r ih =>
        rintro ⟨b, b1, yes, no⟩
        refine wpAny_handleBy_cons (codeAny_handlers_test (asks hc ((PySem.W.exm_one (M := model X.prog X.w) K3.kIn looks b1).here ?_))) (by intro q; cases q)
        cases b with
        | false => exact ih (no rfl)
        | true =>
          refine codeAny_handlers_suite (HandSPX.lands_againZ f3 fun h4 f4 u4 => ?_)
          have K4 : Inv X pp g1 G1 { t0 with heap := h4 } := K1.landed nb f4.1 ((up.trans u3).trans u4) os ag
          obtain ⟨o4, v4, e4, z4, d4⟩ := f4.there
          refine wpAny_mono ((hr a o4 cls d (X.pn ++ pp) z4 ⟨_, d4⟩).run [] _ _ G1 _ (K4.suite e4 d4 na nL nF) (yes rfl a na)) (fun fl s6 q6 => ?_) (fun _ _ z => False.elim z)
          cases fl with
          | ret u => exact q6.elim fun y1 q7 => q7.elim fun y2 q8 => q8.elim fun y3 q9 => ⟨y1, y2, y3, q9.1.unsuite kx, q9.2⟩
          | _ => exact q6.elim fun y1 q7 => q7.elim fun y2 q8 => ⟨y1, y2, q8.1.unsuite kx, q8.2⟩
      | @named x n i c ts b₀ su p1 p2 hd2 l2 hc hi hn hr r ih =>
        rintro ⟨b, b1, yes, no⟩
        refine wpAny_handleBy_cons (codeAny_handlers_test (asks hc ((PySem.W.exm_one (M := model X.prog X.w) K3.kIn looks b1).here ?_))) (by intro q; cases q)
        cases b with
        | false => exact ih (no rfl)
        | true =>
          refine codeAny_handlers_suite_as (HandSPX.lands_againZ f3 fun h4 f4 u4 => ?_)
          have K4 : Inv X pp g1 G1 { t0 with heap := h4 } := K1.landed nb f4.1 ((up.trans u3).trans u4) os ag
          obtain ⟨o4, v4, e4, z4, d4⟩ := f4.there
          refine store_ok (X := X.suite a ((a, o4) :: (X.pn ++ pp))) (v := .ref a) (K4.suite e4 d4 na nL nF) nd hi (.inl hn) rfl (fun s5 S5 => ?_) (.inr hn)
          refine wpAny_mono ((hr a o4 cls d (X.pn ++ pp) z4 ⟨_, d4⟩).run [] s5 _ G1 _ S5 (yes rfl a na)) (fun fl s6 q6 => ?_) (fun _ _ z => False.elim z)
          have shut : ∀ {g6 : L2.St} {G6 : Hp} {Q : Shared → Prop}, Inv (X.suite a ((a, o4) :: (X.pn ++ pp))) [] g6 G6 s6 → (∀ s7, Inv X pp (g6.set i none) G6 s7 → Q s7) →
              wpAny (model X.prog X.w) X.A (do bindName X.env n .none; unbindBehindTheSuite X.env n p2) (fun _ s7 => Q s7) X.xe s6 := fun S6 hq => gone_ok (S6.unsuite kx) nd hi hn hq
          cases fl with
          | ret u => exact q6.elim fun y1 q7 => q7.elim fun y2 q8 => q8.elim fun y3 q9 => shut q9.1 fun s7 J7 => ⟨y1, _, y3, J7, q9.2⟩
          | _ => exact q6.elim fun y1 q7 => q7.elim fun y2 q8 => shut q8.1 fun s7 J7 => ⟨_, y2, J7, q8.2⟩
    exact go hh w
  · cases fl with
    | next => exact q.elim fun y1 q7 => q7.elim fun y2 q8 => wpAny_execs_nil ⟨y1, y2, q8.1.ofTry kx, q8.2⟩
    | ret u => exact q.elim fun y1 q7 => q7.elim fun y2 q8 => q8.elim fun y3 q9 => ⟨y1, y2, y3, q9.1.ofTry kx, q9.2⟩
    | _ => exact q.elim fun y1 q7 => q7.elim fun y2 q8 => ⟨y1, y2, q8.1.ofTry kx, q8.2⟩
end
end K02T

/-! k02, part I: objects whose making may raise; isinstance of an error. -/
namespace K02
open PySem L2 PySem.Spec PyProof.Rows K02T
/-! ### C(e, ..) whose __init__ may raise, the wish told with the slots -/
def tMakeS (C : Addr) (sp : Sp) (E : L2.St → XK) (t : TA) : TE := fun σ H Q => t σ H fun vs H1 => ∀ x dx, H1 x = none → H1 dx = none → dx ≠ x → sp (.ref x :: vs) (upd (upd H1 dx (.own x)) x (.ins C dx [])) (fun v H2 => v = .non ∧ Q (.ref x) H2) (E σ)
section
variable {X : Cx} {CX : CXT} {k : Nat} {f C : Addr} {fd : FuncData} {ps : List Str} {sp : Sp} {E : L2.St → XK} {x : Str} {p pos : Pos} {e : Expr} {es : List Expr} {t : TA}
theorem mk_run {pins : List (Addr × Obj)} {σ : L2.St} {H : Hp} {s : Shared} {Q : VK} {us : List Value} {vs : List V} (M : Mk X.K C f) (F : FnOk X.prog X.w X.K X.mg X.base CX k f fd ps sp) (hr : Room (k + 1) X.A) (hb : Binds X.K fd ps []) (hx : PassesAt CX X σ (E σ)) (I : Inv X pins σ H s) (r : Vals vs us)
    (h : ∀ x dx, H x = none → H dx = none → dx ≠ x → sp (.ref x :: vs) (upd (upd H dx (.own x)) x (.ins C dx [])) (fun v H2 => v = .non ∧ Q (.ref x) H2) (E σ)) : wpAny (model X.prog X.w) X.A (call (.ref C) us) (EP X pins σ Q) X.xe s := by
  have q0 := h (s.heap.objs.size + 1) s.heap.objs.size (I.hok.fresh (Nat.le_succ _)) (I.hok.fresh (Nat.le_refl _)) (Nat.ne_of_lt (Nat.lt_succ_self _))
  have J := Inv.made (C := C) I
  have rr : Vals (V.ref (s.heap.objs.size + 1) :: vs) (Value.ref (s.heap.objs.size + 1) :: us) := .cons rfl r
  have hl : (Value.ref (s.heap.objs.size + 1) :: us ++ []).length = ps.length := by rw [List.append_nil, ← F.len _ _ _ _ q0, ← rr.length]
  have bb := hb _ (Value.ref (s.heap.objs.size + 1) :: us) J.kIn hl
  rw [List.append_nil] at bb
  refine wpAny_call (make_map (f := f) I.kIn M.makes M.init (beq_iff_eq.mp M.fn) (codeAny_mono (F.run _ X.stack _ _ ⟨_, []⟩ _ _ _ (E σ) (hr.make C us []) (J.env0.make C us []) bb rr q0) fun r1 s1 q1 => ?_))
  cases r1 with
  | error e1 => exact hx pins _ _ e1 s1 J q1
  | ok fl =>
    cases fl with
    | ret u =>
      obtain ⟨v, H2, J2, rv, ev, q2⟩ := J.after q1
      subst ev
      exact ⟨rv, ⟨V.ref (s.heap.objs.size + 1), H2, J2, rfl, q2⟩⟩
    | next => exact q1.elim
    | brk => exact q1.elim
    | cont => exact q1.elim
theorem pe_makeS (M : Mk X.K C f) (F : FnOk X.prog X.w X.K X.mg X.base CX k f fd ps sp) (hr : Room (k + 1) X.A) (hg : Gl X x) (hm : X.mg x = some (.ref C)) (hb : Binds X.K fd ps []) (hx : ∀ σ, PassesAt CX X σ (E σ)) (ha : PA X (e :: es) t)
    (hdb : (x == ("__debug__" : Str)) = false := by decide) (he : starEach (e :: es) X.env = (false, eval e X.env) :: starEach es X.env := by rfl) (hpl : (backTo pos (starEach es X.env)).any (·.1) = false := by rfl) :
    PE X (.Call (.Name x p) (e :: es) [] pos) (tMakeS C sp E t) := ⟨fun pins s σ H Q I h => by
  refine wpAny_Call_Name_kw (ld_glob I hg hm ?_ hdb)
  refine PySem.W.callWith_K (h₀ := X.base) I.ok.mod.kin M.kp (thn (ha.run pos pins s σ H _ I h) fun us s1 hh => ?_) he hpl
  obtain ⟨vs, H1, I1, r, q⟩ := hh
  exact ⟨I1.kIn, mk_run M F hr hb (hx σ) I1 r q⟩⟩
end
/-! ### isinstance(err, c), err the error that the suite holds -/
/-- what the class D says, so that isinstance asks its instances rightly -/
structure IsC (K : PySem.W.Frag) (D : Addr) : Prop where
  hc : (PySem.W.clsIn K D).isSome = true
  hg : PySem.W.findIn K (.ref D) "__getattribute__" = some (some (.builtin "BaseException.__getattribute__"))
  hk : PySem.W.findIn K (.ref D) "__getattr__" = some none
  hs : PySem.W.subIn K (.ref D) (.type "BaseException") = some true
  ha : PySem.W.findIn K (.ref D) "__class__" = some (some (.builtin "object.__class__"))
  hn : PySem.W.specialIn K (.builtin "object.__class__") "__get__" = some (some (.builtin "getset_descriptor.__get__"))
  ht : PySem.W.takesIn K (.builtin "object.__class__") = some true
  hm : PySem.W.mroIn K D (.type "object") = some true
def rIsF (K : PySem.W.Frag) (D a : Addr) (cls : Value) (d : Option Addr) : List V → Hp → VK → Prop := fun xs H Q => cls = .ref D ∧ ∃ (dd : Addr) (fs : List (Str × V)), d = some dd ∧ H dd = some (.xd fs) ∧
  ∃ (c : V) (cv : Value) (b : Bool), xs = [.ref a, c] ∧ (∀ u, RelV c u → u = cv) ∧ PySem.W.kitOne K (.ref D) cv = some b ∧ Q (.bl b) H
theorem call_isF {X : Cx} {a D : Addr} {oe : Obj} {cls : Value} {d : Option Addr} {pn : List (Addr × Obj)} (C : IsC X.K D) (hz : Zc cls d oe) (hf : ∃ vs, oe.data = .fields vs) : CallR (X.suite a ((a, oe) :: pn)) (.builtin "isinstance") (rIsF X.K D a cls d) := by
  intro pins s σ H xs us Q I r h
  obtain ⟨ec, dd, fs, ed, hdd, c, cv, b, rfl, hcv, e, q⟩ := h
  subst ec
  subst ed
  cases r with
  | cons rx rr =>
    cases rr with
    | cons rt rr =>
      cases rr
      cases rx
      have ec := hcv _ rt
      subst ec
      obtain ⟨hget, _⟩ := I.pin (a, oe) (List.mem_append.mpr (.inl List.mem_cons_self))
      obtain ⟨vs, hv⟩ := hf
      have hx : ObjOk X.prog X.w H s.heap dd (.xd fs) := I.hok dd _ hdd
      obtain ⟨mA, hns, hr⟩ := hx
      obtain ⟨od, ho, hl⟩ := lookIn_ns hns
      have J : PySem.W.InstAt s.heap a oe D (some od) := ⟨hget, hz.1, by unfold PySem.W.notCls; rw [hv] <;> rfl, by rw [hz.2]; exact ho⟩
      exact PySem.W.kia_one (PySem.W.kitx_exc C.hc C.hg C.hk C.hs C.ha C.hn C.ht C.hm) I.kIn J e (fun z => nomatch z) fun tk => ⟨.bl b, H, I.kept (t' := tk) fun _ _ z => z, rfl, q⟩
end K02

/-! k02, part J: what is met. -/
namespace K02
open PySem L2 PySem.Spec PyProof.Rows K02T
abbrev sMet : Stmt := top 42
/-- the classes of errors a stock raises -/
structure Ex5 (K : PySem.W.Frag) (mg : Str → Option Value) (CF CB CN CT CU : Addr) : Prop where
  gF : mg "FallsError" = some (.ref CF)
  gB : mg "BadStock" = some (.ref CB)
  gN : mg "BadName" = some (.ref CN)
  gT : mg "Twice" = some (.ref CT)
  gU : mg "Unknown" = some (.ref CU)
  nb : PySem.W.exmOne K (.ref CN) (.ref CB) = some false
  tb : PySem.W.exmOne K (.ref CT) (.ref CB) = some false
  tn : PySem.W.exmOne K (.ref CT) (.ref CN) = some false
  ub : PySem.W.exmOne K (.ref CU) (.ref CB) = some false
  un : PySem.W.exmOne K (.ref CU) (.ref CN) = some false
  ut : PySem.W.exmOne K (.ref CU) (.ref CT) = some false
theorem Told.same {H H' : Hp} {v1 v2 v3 v4 : V} {xs1 xs2 xs3 xs4 : List V} {ds : List PyData} {rs : List FRow} (T : Told H v1 v2 v3 v4 xs1 xs2 xs3 xs4 ds rs) (s : Same H H') : Told H' v1 v2 v3 v4 xs1 xs2 xs3 xs4 ds rs := by
  obtain ⟨a1, e1, i1⟩ := T.i1
  obtain ⟨a2, e2, i2⟩ := T.i2
  obtain ⟨a3, e3, i3⟩ := T.i3
  obtain ⟨a4, e4, i4⟩ := T.i4
  exact ⟨⟨a1, e1, i1.same s⟩, ⟨a2, e2, i2.same s⟩, ⟨a3, e3, i3.same s⟩, ⟨a4, e4, s _ _ i4⟩, T.rows.same s, T.rps.mono (Sq.of s), T.shw, T.ts, T.few⟩
section
variable {P : Program} {w : World} {K : PySem.W.Frag} {mg : Str → Option Value} {base : Heap}
theorem scMet : FnScope ["_law_told", "error"] ["_law_told"] (defScope sMet) := ⟨rfl, rfl, rfl, by decide +kernel, rfl, by decide +kernel, by decide +kernel⟩
abbrev tTold (z : Str) : TE := tDGet (tVar 0) (tC (.str z))
theorem ok_met {f fI fB fN fT fU CS CF CB CN CT CU : Addr} {fd fdI : FuncData} (F : Fun K "_law_met" "_law_met" sMet f fd) (ER : Ex5 K mg CF CB CN CT CU) (TB : K02X.ErrTxt P K mg CB fB "BadStock" "BadStock.__init__" "part" "no such part of a stock: ")
    (TN : K02R.ErrTxt P K mg CN fN "BadName" "BadName.__init__" "name" "no name: ") (TT : K02R.ErrTxt P K mg CT fT "Twice" "Twice.__init__" "name" "the name has come already: ") (TU : K02R.ErrTxt P K mg CU fU "Unknown" "Unknown.__init__" "name" "not known: ")
    (MT : Mk K CS fI) (gS : mg "Stock" = some (.ref CS)) (bI : Binds K fdI ["self", "stuffs", "states", "lands", "forms"] []) (GI : FnOk P w K mg base (L2.CX P w) 6 fI fdI ["self", "stuffs", "states", "lands", "forms"] (spSInit CS CB CN CT CU)) :
    FnOk P w K mg base CX0 8 f fd ["_law_told"] spDue := by
  refine F.ok scMet (fun vs H Q E h => ?_) (fun cdv A outer s H vs Q E hr h => ?_)
  · obtain ⟨D, v1, v2, v3, v4, d1, d2, d3, d4, rfl, _⟩ := h
    rfl
  · obtain ⟨D, v1, v2, v3, v4, d1, d2, d3, d4, rfl, td, t1, t2, t3, t4, k⟩ := h
    have nd := scMet.nd
    have hu := hu_of hr
    refine ⟨_, pss_cons (ps_try_mix (tb := fun W => tDrop (tMakeS CS (spSInit CS CB CN CT CU) (WE W) (tCons (tTold "stuffs") (tCons (tTold "states") (tCons (tTold "lands") (tCons (tTold "forms") tNil))))))
        (l := [(.ref CB, some 1, fun a cls d => _), (.ref CN, some 1, fun a cls d => _), (.ref CT, some 1, fun a cls d => _), (.ref CU, some 1, fun a cls d => _), (.ref CF, some 1, fun a cls d => _)]) (Wo := fun _ _ _ _ => False) rfl rfl nd takes0
        (fun W pn xe tk _ => pss_one (ps_expr (by exact (pe_makeS MT GI hr rfl gS bI (fun σ => passAt tk σ) (by exact (pa_cons (pe_dget hu (pv 0) pe_str (fun _ _ => rfl)) (pa_cons (pe_dget hu (pv 0) pe_str (fun _ _ => rfl)) (pa_cons (pe_dget hu (pv 0) pe_str (fun _ _ => rfl)) (pa_cons (pe_dget hu (pv 0) pe_str (fun _ _ => rfl)) pa_nil)))))))))
        (.named ⟨rfl, by decide, .inl ER.gB⟩ rfl rfl (fun a oe cls d pn hz hf => pss_one (ps_ret (pe_tup (pa_cons pe_str (pa_cons (K02.pe_byE TB hz hf (pv 1) rfl) pa_nil)))))
        (.named ⟨rfl, by decide, .inl ER.gN⟩ rfl rfl (fun a oe cls d pn hz hf => pss_one (ps_ret (pe_tup (pa_cons pe_str (pa_cons (K02Q.pe_byE TN hz hf (pv 1) rfl) pa_nil)))))
        (.named ⟨rfl, by decide, .inl ER.gT⟩ rfl rfl (fun a oe cls d pn hz hf => pss_one (ps_ret (pe_tup (pa_cons pe_str (pa_cons (K02Q.pe_byE TT hz hf (pv 1) rfl) pa_nil)))))
        (.named ⟨rfl, by decide, .inl ER.gU⟩ rfl rfl (fun a oe cls d pn hz hf => pss_one (ps_ret (pe_tup (pa_cons pe_str (pa_cons (K02Q.pe_byE TU hz hf (pv 1) rfl) pa_nil)))))
        (.named ⟨rfl, by decide, .inl ER.gF⟩ rfl rfl (fun a oe cls d pn hz hf => pss_one (ps_ret (pe_tup (pa_cons pe_str (pa_cons pe_non pa_nil))))) .nil))))))
      (pss_one (ps_ret (pe_tup (pa_cons pe_str (pa_cons pe_non pa_nil))))), ?_⟩
    obtain ⟨kvs, hD, w1, w2, w3, w4⟩ := td.ex
    have g1 := DGet.k (k := Sum.inr "stuffs") hD
    rw [w1] at g1
    have g2 := DGet.k (k := Sum.inr "states") hD
    rw [w2] at g2
    have g3 := DGet.k (k := Sum.inr "lands") hD
    rw [w3] at g3
    have g4 := DGet.k (k := Sum.inr "forms") hD
    rw [w4] at g4
    refine ⟨_, rfl, D, v1, rfl, g1, _, rfl, D, v2, rfl, g2, _, rfl, D, v3, rfl, g3, _, rfl, D, v4, rfl, g4, fun x dx nx ndx nex => ?_⟩
    have s1 := same_new (o := .own x) (Same.rfl' (H := H)) ndx
    have nx1 : upd H dx (.own x) x = none := by rw [upd_ne (Ne.symm nex)]; exact nx
    have s2 := same_new (o := .ins CS dx []) s1 nx1
    refine ⟨x, dx, v1, v2, v3, v4, d1, d2, d3, d4, rfl, upd_same, t1.mono (Sq.of s2), t2.mono (Sq.of s2), t3.mono (Sq.of s2), t4.mono (Sq.of s2), ?_⟩
    have pair : ∀ {kd : Str} {v : V} {G G' : Hp} {t : Addr}, Same H G → G t = none → (∀ H' p, Same H H' → H' p = some (.tup [.str kd, v]) → Q (.ref p) H') → G' = upd G t (.tup [.str kd, v]) → Q (.ref t) G' := fun s nt kk e => by
      subst e
      exact kk _ _ (same_new s nt) upd_same
    rcases k with ⟨z, pe, kk⟩ | ⟨pe, xs1, xs2, xs3, xs4, ds, rs, T0, kk⟩
    · refine .inl ⟨z, pe, fun H1 dd s hd => ?_⟩
      refine ⟨true, TB.te, fun _ a ha => ?_, fun q => nomatch q⟩
      exact ⟨_, rfl, rfl, rfl, dd, .str z, rfl, hd, (by show 2 ≤ sizeLine; decide), fun t nt => pair (s2.trans s) nt kk rfl⟩
    refine .inr ⟨pe, xs1, xs2, xs3, xs4, ds, rs, T0.same s2, ?_⟩
    cases e1 : firstBad ds with
    | some i =>
      rw [e1] at kk
      intro v H1 dd hv s hd
      refine ⟨false, ER.nb, (fun q => nomatch q), fun _ => ⟨true, TN.te, fun _ a ha => ?_, fun q => nomatch q⟩⟩
      exact ⟨_, rfl, rfl, rfl, dd, v, rfl, hd, (by show 2 ≤ sizeLine; decide), fun t nt => pair (s2.trans s) nt (fun H' p => kk v H' p hv) rfl⟩
    | none =>
    rw [e1] at kk
    dsimp only at kk ⊢
    cases e2 : firstTwice (allNames xs1 xs2 xs3 rs) 0 (allNames xs1 xs2 xs3 rs) with
    | some i =>
      rw [e2] at kk
      intro v H1 dd hv s hd
      refine ⟨false, ER.tb, (fun q => nomatch q), fun _ => ⟨false, ER.tn, (fun q => nomatch q), fun _ => ⟨true, TT.te, fun _ a ha => ?_, fun q => nomatch q⟩⟩⟩
      exact ⟨_, rfl, rfl, rfl, dd, v, rfl, hd, (by show 2 ≤ sizeLine; decide), fun t nt => pair (s2.trans s) nt (fun H' p => kk v H' p hv) rfl⟩
    | none =>
    rw [e2] at kk
    dsimp only at kk ⊢
    cases e3 : takesErr (rootsOf rs) rs with
    | some bv =>
      obtain ⟨b, v⟩ := bv
      rw [e3] at kk
      intro H1 dd s hd
      cases b with
      | false =>
        refine ⟨false, ER.tb, (fun q => nomatch q), fun _ => ⟨false, ER.tn, (fun q => nomatch q), fun _ => ⟨true, TT.te, fun _ a ha => ?_, fun q => nomatch q⟩⟩⟩
        exact ⟨_, rfl, rfl, rfl, dd, v, rfl, hd, (by show 2 ≤ sizeLine; decide), fun t nt => pair (s2.trans s) nt kk rfl⟩
      | true =>
        refine ⟨false, ER.ub, (fun q => nomatch q), fun _ => ⟨false, ER.un, (fun q => nomatch q), fun _ => ⟨false, ER.ut, (fun q => nomatch q), fun _ => ⟨true, TU.te, fun _ a ha => ?_, fun q => nomatch q⟩⟩⟩⟩
        exact ⟨_, rfl, rfl, rfl, dd, v, rfl, hd, (by show 2 ≤ sizeLine; decide), fun t nt => pair (s2.trans s) nt kk rfl⟩
    | none =>
      rw [e3] at kk
      intro H1 kx st
      refine ⟨rfl, by decide, fun t nt => ?_⟩
      exact kk _ t (same_new (fun b u e => kx b u (fun z => by rw [z, nx] at e; cases e) (s2 b u e)) nt) upd_same
end
end K02

/-! k02, part K: own subscripts that may raise, within a try; a name that a stock lacks. -/
namespace K02
open PySem L2 PySem.Spec PyProof.Rows K02T
abbrev sUnknown : Stmt := top 47
def tOwnIxS (C : Addr) (sp : Sp) (E : L2.St → XK) (ta tb : TE) : TE := fun σ H Q => ta σ H fun x H1 => tb σ H1 fun y H2 => rOwnIx C sp (E σ) x y H2 Q
section
variable {X : Cx} {CX : CXT} {C f : Addr} {fd : FuncData} {ps : List Str} {sp : Sp} {k : Nat} {E : L2.St → XK}
theorem pe_ownIxS {a b : Expr} {ta tb : TE} {pos : Pos} (hm : Meth X.K C "__getitem__" f) (hf : PySem.W.fnIn X.K f = true) (F : FnOk X.prog X.w X.K X.mg X.base CX k f fd ps sp) (hr : Room (k + 1) X.A) (hb : Binds X.K fd ps []) (hx : ∀ σ, PassesAt CX X σ (E σ)) (he : PE X a ta) (hi : PE X b tb)
    (hs : ∀ o i, subscripted b true o i = runValue (.builtin "lifetime.subscript" ⟨[o, i], []⟩)) : PE X (.Subscript a b pos) (tOwnIxS C sp E ta tb) := by
  refine ⟨fun pins s σ H Q I h => ?_⟩
  refine Subscript_ (binT he hi I h fun v u s2 x y H2 I2 rx ry q => ?_)
  obtain ⟨o, dx, fs, rfl, ho, q⟩ := q
  cases rx
  obtain ⟨mA, O, _⟩ := ins_get I2.hok ho
  obtain ⟨od, J, _⟩ := O.look
  obtain ⟨m, fr⟩ := I2.fr
  have hl : ([Value.ref o, u] ++ []).length = ps.length := by rw [← F.len _ _ _ _ q]; rfl
  have bb := hb _ [.ref o, u] I2.kIn hl
  rw [List.append_nil] at bb
  refine PySem.W.sub_K fr I2.ok.mod.kin J hm.at_ hf hm.fn (wpAny_call (codeAny_mono (F.run X.A.in1 X.stack s2 H2 ⟨[.ref o, u], []⟩ [.ref o, u] [.ref o, y] Q (E σ) hr.in1 I2.env0.in1 bb (.cons rfl (.cons ry .nil)) q) fun r s' hq => ?_)) (hs _ _)
  cases r with
  | error er => exact hx σ pins H2 s2 er s' I2 hq
  | ok fl =>
    cases fl with
    | ret w1 => exact I2.after hq
    | next => exact False.elim hq
    | brk => exact False.elim hq
    | cont => exact False.elim hq
end
def spUnknown (CS : Addr) : Sp := fun vs H Q _ => ∃ x v s t l rs, vs = [.ref x, v] ∧ StkF H CS x s t l rs ∧ FlatSh v ∧ (∀ r ∈ rs, r.n ≠ v) ∧ ∀ H', Same H H' → Q (.bl true) H'
/-- what isinstance says of an Unknown -/
structure UnkIs (K : PySem.W.Frag) (mg : Str → Option Value) (CF CN CU : Addr) : Prop where
  gF : mg "FallsError" = some (.ref CF)
  gN : mg "BadName" = some (.ref CN)
  gU : mg "Unknown" = some (.ref CU)
  gV : mg "ValueError" = none
  isF : PySem.W.kitOne K (.ref CU) (.ref CF) = some true
  isV : PySem.W.kitOne K (.ref CU) (.type "ValueError") = some true
  isN : PySem.W.kitOne K (.ref CU) (.ref CN) = some false
  ic : IsC K CU
section
variable {P : Program} {w : World} {K : PySem.W.Frag} {mg : Str → Option Value} {base : Heap}
theorem scUnknown : FnScope ["_law_over", "_law_thing", "_law_row", "error"] ["_law_over", "_law_thing"] (defScope sUnknown) := ⟨rfl, rfl, rfl, by decide +kernel, rfl, by decide +kernel, by decide +kernel⟩
theorem ok_unknown {f fG fU CS CF CN CU : Addr} {fd fdG : FuncData} (F : Fun K "_law_unknown" "_law_unknown" sUnknown f fd) (N : Nms mg) (UI : UnkIs K mg CF CN CU) (TU : K02R.ErrTxt P K mg CU fU "Unknown" "Unknown.__init__" "name" "not known: ")
    (MG : Meth K CS "__getitem__" fG) (hf : PySem.W.fnIn K fG = true) (bG : Binds K fdG ["self", "at"] []) (GG : FnOk P w K mg base (L2.CX P w) 5 fG fdG ["self", "at"] (spSGet CS CU)) :
    FnOk P w K mg base CX0 7 f fd ["_law_over", "_law_thing"] (spUnknown CS) := by
  refine F.ok scUnknown (fun vs H Q E h => ?_) (fun cdv A outer s H vs Q E hr h => ?_)
  · obtain ⟨x, v, s, t, l, rs, rfl, _⟩ := h
    rfl
  · obtain ⟨x, v, s, t, l, rs, rfl, S, fv, no, k⟩ := h
    have nd := scUnknown.nd
    refine ⟨_, pss_cons (ps_try_mix (tb := fun W => tAsg (tOwnIxS CS (spSGet CS CU) (WE W) (tVar 0) (tVar 1)) (gName 2))
        (l := [(.ref CU, some 3, fun a cls d => _), (.ref CF, some 3, fun a cls d => _)]) (Wo := fun _ _ _ _ => False) rfl rfl nd takes0
        (fun W pn xe tk _ => pss_one (ps_set (i := 2) nd rfl (Or.inl rfl) (by exact (pe_ownIxS MG hf GG hr bG (fun σ => passAt tk σ) (pv 0) (pv 1) (fun _ _ => rfl)))))
        (.named ⟨rfl, by decide, .inl UI.gU⟩ rfl rfl (fun a oe cls d pn hz hf => pss_one (ps_ret (pe_and (pe_callB (call_isF UI.ic hz hf) (by rfl) N.isi (by decide +kernel) (pa_cons (pv 3) (pa_cons (pe_glob (v := .ref CF) rfl UI.gF rfl) pa_nil)))
            (pe_and (pe_callB (call_isF UI.ic hz hf) (by rfl) N.isi (by decide +kernel) (pa_cons (pv 3) (pa_cons (pe_bltn (v := .ty "ValueError") (by rfl) UI.gV (by decide +kernel) rfl) pa_nil))) (pe_one (pe_not (pe_callB (call_isF UI.ic hz hf) (by rfl) N.isi (by decide +kernel) (pa_cons (pv 3) (pa_cons (pe_glob (v := .ref CN) rfl UI.gN rfl) pa_nil)))))))))
        (.named ⟨rfl, by decide, .inl UI.gF⟩ rfl rfl (fun a oe cls d pn hz hf => pss_one (ps_ret pe_bl)) .nil)))
      (pss_one (ps_ret pe_bl)), ?_⟩
    obtain ⟨dx, a1, a2, a3, a4, a5, a6, a7, fs, kvs, h0, hrest⟩ := S.ex
    refine ⟨_, rfl, _, rfl, x, dx, _, rfl, h0, x, v, s, t, l, rs, rfl, S, fv, fun z q e ra => ?_, fun _ H1 dd s1 hd => ?_⟩
    · exfalso
      obtain ⟨r, t', hr', en, _⟩ := ra
      exact no r hr' (by rw [en, e])
    · refine ⟨true, TU.te, fun _ a ha => ?_, fun q => nomatch q⟩
      refine ⟨_, rfl, rfl, dd, _, rfl, hd, .ref CF, .ref CF, true, rfl, fun u r => r, UI.isF, _, rfl, iteT ?_⟩
      refine ⟨_, rfl, rfl, dd, _, rfl, hd, .ty "ValueError", .type "ValueError", true, rfl, fun u r => r, UI.isV, _, rfl, iteT ?_⟩
      refine ⟨_, rfl, rfl, dd, _, rfl, hd, .ref CN, .ref CN, false, rfl, fun u r => r, UI.isN, _, rfl, ?_⟩
      exact k H1 s1
end
end K02

/-! k02, part L: the law's ranks: which forms goods can have. -/
namespace K02
open PySem L2 PySem.Spec PyProof.Rows
abbrev sRanks : Stmt := top 38
abbrev rkN : List Str := ["_law_stock_here", "_law_ranks_here", "_law_step", "_law_name", "_law_low", "_law_high", "_law_takes", "_law_able", "_law_root"]
/-- the rows of forms as the law makes them: tuples, the takes a list -/
inductive RowsL (H : Hp) : List V → List FRow → Prop
  | nil : RowsL H [] []
  | cons {q t : Addr} {r : FRow} {vs : List V} {rs : List FRow} : H q = some (.tup [r.n, .int r.lo, .int r.hi, .ref t]) → H t = some (.lst r.ts) → RowsL H vs rs → RowsL H (.ref q :: vs) (r :: rs)
theorem RowsL.same {H H' : Hp} (s : Same H H') : ∀ {vs : List V} {rs : List FRow}, RowsL H vs rs → RowsL H' vs rs
  | _, _, .nil => .nil
  | _, _, .cons a b c => .cons (s _ _ a) (s _ _ b) (RowsL.same s c)
theorem RowsL.len {H : Hp} : ∀ {vs : List V} {rs : List FRow}, RowsL H vs rs → vs.length = rs.length
  | _, _, .nil => rfl
  | _, _, .cons _ _ r => by rw [List.length_cons, List.length_cons, RowsL.len r]
theorem RowsL.nth {H : Hp} : ∀ {vs : List V} {rs : List FRow} {i : Nat} {v : V}, RowsL H vs rs → vs[i]? = some v → ∃ r q t, rs[i]? = some r ∧ v = .ref q ∧ H q = some (.tup [r.n, .int r.lo, .int r.hi, .ref t]) ∧ H t = some (.lst r.ts)
  | _, _, 0, v, .cons a b c, e => by cases e; exact ⟨_, _, _, rfl, rfl, a, b⟩
  | _, _, i + 1, v, .cons a b c, e => RowsL.nth (i := i) c e
/-- ranks: every value a number -/
def IntsK (kvs : List (Key × V)) : Prop := ∀ k v, valV kvs k = some v → ∃ n : Int, v = .int n
theorem IntsK.put {kvs : List (Key × V)} {k : Key} {n : Int} (h : IntsK kvs) : IntsK (putK kvs k (.int n)) := fun j v e => by
  rw [valV_put] at e
  by_cases q : j = k
  · rw [if_pos q] at e; cases e; exact ⟨n, rfl⟩
  · rw [if_neg q] at e; exact h j v e
theorem kin_put {kvs : List (Key × V)} {z : Str} {x : V} (v : V) : kin (putK kvs (Sum.inr z) x) v = (kin kvs v || decide (v = .str z)) := by
  cases v with
  | str y =>
    show (valV (putK kvs (Sum.inr z) x) (Sum.inr y)).isSome = _
    rw [valV_put]
    by_cases e : y = z
    · subst e
      rw [if_pos rfl, decide_eq_true rfl, Bool.or_true]
      rfl
    · rw [if_neg (fun q => e (by cases q; rfl)), decide_eq_false (fun q => e (by cases q; rfl)), Bool.or_false]
      rfl
  | _ => rfl
theorem SoundK.put {rs : List FRow} {kvs : List (Key × V)} {r : FRow} {z : Str} {x : V} (h : SoundK rs kvs) (hr : r ∈ rs) (en : r.n = .str z) (f : r.ts.any (kin kvs) = true) : SoundK rs (putK kvs (Sum.inr z) x) := by
  refine ⟨?_, fun y q => ?_⟩
  · have := kin_put (kvs := kvs) (z := z) (x := x) (.str "mix")
    show kin (putK kvs (Sum.inr z) x) (.str "mix") = true
    rw [this, show kin kvs (.str "mix") = true from h.mix, Bool.true_or]
  · have e : kin (putK kvs (Sum.inr z) x) (.str y) = true := q
    rw [kin_put, Bool.or_eq_true] at e
    rcases e with e | e
    · exact h.use y e
    · have e := of_decide_eq_true e
      cases e
      obtain ⟨v, hv, kv⟩ := List.any_eq_true.mp f
      cases v with
      | str k => exact .row hr en hv (h.use k kv)
      | _ => cases kv
/-- what the inner loop does from one dict to another one, by the rows it has seen -/
structure Steps (rs : List FRow) (kvs kvs' : List (Key × V)) (j : Nat) : Prop where
  sound : SoundK rs kvs'
  whole : IntsK kvs'
  mono : ∀ v, kin kvs v = true → kin kvs' v = true
  seen : ∀ r ∈ rs.take j, frR kvs r = true → kin kvs' r.n = true
  still : frL kvs rs = [] → kvs' = kvs
  len : kvs'.length ≤ kvs.length + j
theorem lack_mono {kvs kvs' : List (Key × V)} (h : ∀ v, kin kvs v = true → kin kvs' v = true) : ∀ rs : List FRow, lackN kvs' rs ≤ lackN kvs rs
  | [] => Nat.le_refl _
  | r :: rs => by
    have ih := lack_mono h rs
    simp only [lackN] at ih ⊢
    simp only [List.filter_cons]
    cases k0 : kin kvs r.n with
    | true =>
      simp only [h _ k0, Bool.not_true, Bool.false_eq_true, if_false]
      exact ih
    | false =>
      cases k1 : kin kvs' r.n with
      | true => simp only [Bool.not_true, Bool.not_false, if_true, Bool.false_eq_true, if_false, List.length_cons]; omega
      | false => simp only [Bool.not_false, if_true, List.length_cons]; omega
theorem lack_lt {kvs kvs' : List (Key × V)} (h : ∀ v, kin kvs v = true → kin kvs' v = true) : ∀ {rs : List FRow} {r : FRow}, r ∈ rs → kin kvs r.n = false → kin kvs' r.n = true → lackN kvs' rs + 1 ≤ lackN kvs rs
  | a :: rs, r, hr, k0, k1 => by
    rcases List.mem_cons.mp hr with rfl | hr
    · have m := lack_mono h rs
      simp only [lackN] at m ⊢
      simp only [List.filter_cons, k0, k1, Bool.not_true, Bool.not_false, if_true, Bool.false_eq_true, if_false, List.length_cons]
      omega
    · have ih := lack_lt h hr k0 k1
      simp only [lackN] at ih ⊢
      simp only [List.filter_cons]
      cases a0 : kin kvs a.n with
      | true =>
        simp only [h _ a0, Bool.not_true, Bool.false_eq_true, if_false]
        exact ih
      | false =>
        cases a1 : kin kvs' a.n with
        | true => simp only [Bool.not_true, Bool.not_false, if_true, Bool.false_eq_true, if_false, List.length_cons]; omega
        | false => simp only [Bool.not_false, if_true, List.length_cons]; omega
/-- the outer loop: behind i turns i rows are known, or nothing comes in any more -/
def Far (rs : List FRow) (kvs : List (Key × V)) (i : Nat) : Prop := lackN kvs rs + i ≤ rs.length ∨ frL kvs rs = []
theorem Far.next {rs : List FRow} {kvs kvs' : List (Key × V)} {i : Nat} (h : Far rs kvs i) (s : Steps rs kvs kvs' rs.length) : Far rs kvs' (i + 1) := by
  cases e : frL kvs rs with
  | nil =>
    rw [s.still e]
    exact .inr e
  | cons r l =>
    rcases h with h | h
    · have hr : r ∈ frL kvs rs := by rw [e]; exact List.mem_cons_self
      obtain ⟨hm, f⟩ := List.mem_filter.mp hr
      have k1 := s.seen r (by rw [List.take_length]; exact hm) f
      have k0 : kin kvs r.n = false := by
        unfold frR at f
        rw [Bool.and_eq_true] at f
        simpa using f.1
      have := lack_lt s.mono hm k0 k1
      exact .inl (by omega)
    · rw [h] at e
      cases e
theorem Far.full {rs : List FRow} {kvs : List (Key × V)} (h : Far rs kvs rs.length) : frL kvs rs = [] := by
  rcases h with h | h
  · have z : lackN kvs rs = 0 := by omega
    refine List.filter_eq_nil_iff.mpr fun r hr f => ?_
    have k0 : kin kvs r.n = false := by
      unfold frR at f
      rw [Bool.and_eq_true] at f
      simpa using f.1
    have : r ∈ rs.filter fun r => !(kin kvs r.n) := List.mem_filter.mpr ⟨hr, by rw [k0]; rfl⟩
    have e := List.eq_nil_of_length_eq_zero (show (rs.filter fun r => !(kin kvs r.n)).length = 0 from z)
    rw [e] at this
    cases this
  · exact h
theorem Steps.begin {rs : List FRow} {kvs : List (Key × V)} (h : SoundK rs kvs) (n : IntsK kvs) : Steps rs kvs kvs 0 :=
  ⟨h, n, fun _ e => e, (fun r hr => by cases hr), fun _ => rfl, Nat.le_refl _⟩
theorem Steps.skip {rs : List FRow} {kvs kvs' : List (Key × V)} {j : Nat} {r : FRow} (s : Steps rs kvs kvs' j) (hr : rs[j]? = some r) (f : frR kvs' r = false) : Steps rs kvs kvs' (j + 1) := by
  refine ⟨s.sound, s.whole, s.mono, fun x hx fx => ?_, s.still, by have := s.len; omega⟩
  rw [List.take_add_one, hr] at hx
  rcases List.mem_append.mp hx with h | h
  · exact s.seen x h fx
  · rw [Option.toList_some, List.mem_singleton] at h
    subst h
    unfold frR at fx f
    rw [Bool.and_eq_true] at fx
    have an : x.ts.any (kin kvs') = true := by
      obtain ⟨v, hv, kv⟩ := List.any_eq_true.mp fx.2
      exact List.any_eq_true.mpr ⟨v, hv, s.mono v kv⟩
    rw [an, Bool.and_true] at f
    simpa using f
theorem Steps.put {rs : List FRow} {kvs kvs' : List (Key × V)} {j : Nat} {r : FRow} {z : Str} {n : Int} (s : Steps rs kvs kvs' j) (hr : rs[j]? = some r) (en : r.n = .str z) (f : frR kvs' r = true) : Steps rs kvs (putK kvs' (Sum.inr z) (.int n)) (j + 1) := by
  have f' := f
  unfold frR at f'
  rw [Bool.and_eq_true] at f'
  have hm := List.mem_of_getElem? hr
  refine ⟨s.sound.put hm en f'.2, s.whole.put, fun v e => by rw [kin_put, s.mono v e, Bool.true_or], fun x hx fx => ?_, fun e => ?_, ?_⟩
  · rw [kin_put]
    rw [List.take_add_one, hr] at hx
    rcases List.mem_append.mp hx with h | h
    · rw [s.seen x h fx, Bool.true_or]
    · rw [Option.toList_some, List.mem_singleton] at h
      subst h
      rw [en, decide_eq_true rfl, Bool.or_true]
  · exfalso
    have q := s.still e
    rw [q] at f
    have := List.mem_filter.mpr ⟨hm, f⟩
    rw [show rs.filter (frR kvs) = [] from e] at this
    cases this
  · have := length_putK kvs' (Sum.inr z) (.int n)
    have := s.len
    omega
end K02

/-! k02, part M: _law_ranks. -/
namespace K02
open PySem L2 PySem.Spec PyProof.Rows
/-- the rows of a drawn stock: names, and takes that are texts -/
structure RowsOk (rs : List FRow) : Prop where
  few : rs.length ≤ 100
  nm : ∀ r ∈ rs, ∃ z, r.n = .str z
  ts : ∀ r ∈ rs, (∀ x ∈ r.ts, FlatSh x) ∧ r.ts.length ≤ 100
def spRanks : Sp := fun vs H Q _ => ∃ A kv0 F xs rs, vs = [.ref A] ∧ H A = some (.dK kv0) ∧ valV kv0 (Sum.inr "forms") = some (.ref F) ∧ H F = some (.lst xs) ∧ RowsL H xs rs ∧ RowsOk rs ∧
  ∀ p kvs H', Same H H' → H' p = some (.dK kvs) → SoundK rs kvs → frL kvs rs = [] → Q (.ref p) H'
theorem ints_shaped : ∀ ns : List Int, PyData.canLayAll0 (ns.map PyData.int) = true ∧ PyData.depthAll (ns.map PyData.int) = 0
  | [] => ⟨by simp only [List.map_nil, PyData.canLayAll0], rfl⟩
  | n :: ns => by
    obtain ⟨h1, h2⟩ := ints_shaped ns
    refine ⟨by rw [List.map_cons]; simp only [PyData.canLayAll0, h1, PyData.canLay0, Bool.and_self], ?_⟩
    show max 0 (PyData.depthAll (ns.map PyData.int)) = 0
    rw [h2]; rfl
theorem intl_shaped (ns : List Int) : SeqAt.shaped (.list (ns.map PyData.int)) = true := by
  obtain ⟨h1, h2⟩ := ints_shaped ns
  unfold SeqAt.shaped
  have e1 : (PyData.list (ns.map PyData.int)).canLay0 = true := by simp only [PyData.canLay0]; exact h1
  have e2 : (PyData.list (ns.map PyData.int)).depth = 0 + 1 := by show PyData.depthAll (ns.map PyData.int) + 1 = _; rw [h2]
  rw [e1, e2]
  rfl
theorem ints_dp {K : PySem.W.Frag} {H : Hp} : ∀ ns : List Int, DpAll K H (ns.map V.int) (ns.map PyData.int)
  | [] => .nil
  | n :: ns => .cons (.int n) (ints_dp ns)
theorem eqv_nilI (ns : List Int) : PyData.eqv (.list (ns.map PyData.int)) (.list []) = decide (ns = []) := by
  cases ns with
  | nil => rfl
  | cons y s => rfl
section
variable {P : Program} {w : World} {K : PySem.W.Frag} {mg : Str → Option Value} {base : Heap}
theorem scRanks : FnScope rkN ["_law_stock_here"] (defScope sRanks) := ⟨rfl, rfl, rfl, by decide +kernel, rfl, by decide +kernel, by decide +kernel⟩
theorem ok_ranks {f : Addr} {fd : FuncData} (F : Fun K "_law_ranks" "_law_ranks" sRanks f fd) (N : Nms mg) (hmin : mg "min" = none) : FnOk P w K mg base CX0 1 f fd ["_law_stock_here"] spRanks := by
  refine F.ok scRanks (fun vs H Q E h => ?_) (fun cdv A0 outer s H vs Q E hr h => ?_)
  · obtain ⟨A, kv0, F, xs, rs, rfl, _⟩ := h
    rfl
  · obtain ⟨A, kv0, Fa, xs, rs, rfl, hA, hF, hFl, rows, ok, k⟩ := h
    have nd := scRanks.nd
    have hu := hu_of hr
    refine ⟨_, pss_cons (ps_set (i := 1) nd rfl (Or.inr rfl) (pe_disp (pps_cons pe_str pe_int pps_nil) rfl rfl (by simp) (by decide)))
      (pss_cons (ps_for PassesOwn.never rfl (pi_range1 rfl N.range (pa_cons (pe_callB call_len (by rfl) N.len PySem.boot_len (pa_cons (pe_dget hu (pv 0) pe_str (fun _ _ => rfl)) pa_nil)) pa_nil)) (pg_name (i := 2) nd rfl (Or.inl rfl))
        (pss_one (ps_for PassesOwn.never rfl (pi_list (pe_dget hu (pv 0) pe_str (fun _ _ => rfl))) (pg_tup (by rfl) (pgs_cons (pg_name (i := 3) nd rfl (Or.inl rfl)) (pgs_cons (pg_name (i := 4) nd rfl (Or.inl rfl)) (pgs_cons (pg_name (i := 5) nd rfl (Or.inl rfl)) (pgs_cons (pg_name (i := 6) nd rfl (Or.inl rfl)) pgs_nil)))))
          (pss_cons (ps_setLc (i := 7) (own := [("_law_root", 8)]) (g := gName 8) (tt := tB (tDInN (tVar 8) (tVar 1))) (te := tDGet (tVar 1) (tVar 8)) rfl nd rfl rfl (sw_true rfl rfl rfl (by decide +kernel)) (pi_list (pv 6)) (blkOk_by (N := rkN) (sc := defScope sRanks) (by decide +kernel)) (fun _ _ _ _ _ => pg_name (i := 8) nd rfl (Or.inl rfl))
              (fun _ _ _ _ _ => pts_one (pt_cmp (pc_dinN hu (pv 8) (pv 1)))) (fun _ _ _ _ _ => pe_dget hu (pv 1) (pv 8) (fun _ _ => rfl)))
          (pss_one (ps_if (PW.pt (pw_and (pt_cmpR (op_neD hr.units) (pv 7) (pe_lst pa_nil) (nomark _)) (pw_and1 (pt_cmp (pc_dnotin hu (pv 3) (pv 1))))))
            (pss_one (ps_dput hu (pv 1) (pv 3) (pe_op op_add pe_int (pe_callB (cr_min rfl) (by rfl) hmin (by decide +kernel) (pa_cons (pv 7) pa_nil))) rfl)) pss_nil)))))) 
      (pss_one (ps_ret (pv 1)))), ?_⟩
    intro d nd'
    have s0 := same_new (o := .dK []) (Same.rfl' (H := H)) nd'
    refine ⟨upd_same, [(Sum.inr "mix", .int 0)], rfl, by decide, ?_⟩
    have s1 : Same H (upd (upd H d (.dK [])) d (.dK (mergeK [] [((Sum.inr "mix" : Key), V.int 0)]))) := same_put s0 nd'
    have hd1 : upd (upd H d (.dK [])) d (.dK (mergeK [] [((Sum.inr "mix" : Key), V.int 0)])) d = some (.dK [((Sum.inr "mix" : Key), V.int 0)]) := upd_same
    generalize upd (upd H d (.dK [])) d (.dK (mergeK [] [((Sum.inr "mix" : Key), V.int 0)])) = H1 at s1 hd1 ⊢
    have hlen : xs.length = rs.length := rows.len
    have few := ok.few
    have gA : ∀ {H' : Hp}, Same H H' → DGet H' A (.str "forms") (some (.ref Fa)) := fun {H'} s => by
      have g := DGet.k (k := Sum.inr "forms") (s _ _ hA)
      rw [hF] at g
      exact g
    have sk0 : SoundK rs [((Sum.inr "mix" : Key), V.int 0)] := by
      refine ⟨rfl, fun z h => ?_⟩
      by_cases e : ((Sum.inr "mix" : Key)) = Sum.inr z
      · cases e
        exact .mix
      · rw [valV_neg (p := ((Sum.inr "mix" : Key), V.int 0)) e] at h
        cases h
    have ik0 : IntsK [((Sum.inr "mix" : Key), V.int 0)] := fun key v h => by
      by_cases e : ((Sum.inr "mix" : Key)) = key
      · rw [valV_pos (p := ((Sum.inr "mix" : Key), V.int 0)) e] at h
        cases h
        exact ⟨0, rfl⟩
      · rw [valV_neg (p := ((Sum.inr "mix" : Key), V.int 0)) e] at h
        cases h
    refine ⟨_, rfl, A, .ref Fa, rfl, gA s1, .ref Fa, xs.length, rfl, .inl ⟨xs, SqL.of (s1 _ _ hFl), rfl⟩, _, rfl, by omega, by omega, for_range (lo := 0) (n := ((xs.length : Nat) : Int).toNat) (fun i σ H' => Same H H' ∧ ∃ kvs, H' d = some (.dK kvs) ∧ SoundK rs kvs ∧ IntsK kvs ∧
      kvs.length ≤ 1 + i * 100 ∧ Far rs kvs i ∧ ∃ o2 o3 o4 o5 o6 o7, σ = [some (.ref A), some (.ref d), o2, o3, o4, o5, o6, o7, none]) ⟨s1, _, hd1, sk0, ik0, Nat.le_refl _, .inl (lack_len _ _), _, _, _, _, _, _, rfl⟩ ?_ ?_⟩
    · rintro i σ1 H2 hi ⟨s2, kvs, hd2, sk, ik, lk, far, o2, o3, o4, o5, o6, o7, rfl⟩
      have hi' : i < 100 := by omega
      refine ⟨_, rfl, A, .ref Fa, rfl, gA s2, Fa, rfl, ⟨_, SqL.of (s2 _ _ hFl)⟩, for_it (walk_list (K := K) (a := Fa) (xs := xs)) (fun j σ H' => Same H H' ∧ ∃ kvs', H' d = some (.dK kvs') ∧ Steps rs kvs kvs' j ∧ ∃ o2 o3 o4 o5 o6 o7, σ = [some (.ref A), some (.ref d), o2, o3, o4, o5, o6, o7, none])
        ⟨s2, _, hd2, Steps.begin sk ik, _, _, _, _, _, _, rfl⟩ (fun i σ H' _ h => SqL.of (h.1 _ _ hFl)) ?_ ?_⟩
      · rintro j y σ2 H3 H4 hj ⟨s3, kvs', hd3, st, p2, p3, p4, p5, p6, p7, rfl⟩ ⟨rfl, hy⟩
        obtain ⟨r, q, t, hri, rfl, eq, et⟩ := (rows.same s3).nth hy
        have hrm := List.mem_of_getElem? hri
        obtain ⟨z, en⟩ := ok.nm r hrm
        rw [en] at eq
        have lk' : kvs'.length ≤ 20000 := by have := st.len; omega
        refine ⟨q, _, rfl, SqT.of eq, rfl, _, _, rfl, _, _, rfl, _, _, rfl, _, _, rfl, rfl, ?_⟩
        refine ⟨_, rfl, t, rfl, ⟨_, SqL.of et⟩, fun D nD => ?_⟩
        refine lc_it (walk_list (K := K) (a := t) (xs := r.ts)) (fun m H5 => Same H4 H5 ∧ ∃ ns : List Int, H5 D = some (.lst (ns.map V.int)) ∧ ns.length ≤ m ∧ decide (ns = []) = !((r.ts.take m).any (kin kvs'))) ⟨same_new Same.rfl' nD, [], upd_same, Nat.le_refl _, rfl⟩ (fun _ _ _ h => SqL.of (h.1 _ _ et)) ?_ ?_
        · rintro m y H5 H6 hm ⟨s5, ns, d5, ln, ne⟩ ⟨rfl, hy⟩
          have hy' : r.ts[m]? = some y := hy
          have hd5 := s5 _ _ hd3
          have nxt : (r.ts.take (m + 1)).any (kin kvs') = ((r.ts.take m).any (kin kvs') || kin kvs' y) := by
            rw [List.take_add_one, hy', List.any_append]
            show _ = (_ || _)
            simp
          refine ⟨rfl, ⟨_, rfl, _, rfl, ?_⟩⟩
          rcases (ok.ts r hrm).1 y (List.mem_of_getElem? hy') with rfl | ⟨c, rfl, _⟩
          · refine .inr ⟨d, kvs', rfl, rfl, .inl hd5, _, rfl, iteF ⟨s5, ns, d5, by omega, ?_⟩⟩
            rw [nxt, ne]
            show _ = !(_ || false)
            rw [Bool.or_false]
          · refine .inl ⟨d, _, rfl, DGet.k (k := Sum.inr c) hd5, _, rfl, ?_⟩
            have kc : kin kvs' (.str c) = (valV kvs' (Sum.inr c)).isSome := rfl
            have g := DGet.k (k := Sum.inr c) hd5
            cases e : valV kvs' (Sum.inr c) with
            | none =>
              refine iteF ⟨s5, ns, d5, by omega, ?_⟩
              rw [nxt, ne, kc, e, Option.isSome_none, Bool.or_false]
            | some v =>
              rw [e] at g
              obtain ⟨n, rfl⟩ := st.whole _ _ e
              refine iteT ⟨_, rfl, _, rfl, d, .int n, rfl, g, _, d5, ?_, same_put s5 nD, ns ++ [n], ?_, ?_, ?_⟩
              · rw [List.length_map]
                exact small1000 (by have := (ok.ts r hrm).2; omega)
              · rw [upd_same, List.map_append]
                rfl
              · rw [List.length_append]
                show ns.length + 1 ≤ m + 1
                omega
              · rw [nxt, kc, e, Option.isSome_some, Bool.or_true, decide_eq_false (by simp)]
                rfl
        rintro H5 ⟨s5, ns, d5, ln, ne⟩
        rw [List.take_length] at ne
        have hd5 := s5 _ _ hd3
        refine ⟨_, rfl, by decide, fun L nL => ?_⟩
        have s6 := same_new (o := .lst []) s5 nL
        have d6 : upd H5 L (.lst []) D = some (.lst (ns.map V.int)) := by rw [upd_ne (ne_of_none d5 nL)]; exact d5
        have hd6 := s6 _ _ hd3
        refine ⟨.list (ns.map PyData.int), .list [], .lst (SqL.of d6) (ints_dp ns), .lst (SqL.of upd_same) .nil, intl_shaped ns, rfl, _, rfl, ?_⟩
        rw [eqv_nilI, ne, Bool.not_not]
        have fe : frR kvs' r = (!(valV kvs' (Sum.inr z)).isSome && r.ts.any (kin kvs')) := by
          unfold frR
          rw [en]
          rfl
        have s36 := s3.trans s6
        cases an : r.ts.any (kin kvs') with
        | false =>
          refine iteF (iteF ⟨s36, kvs', hd6, st.skip hri (by rw [fe, an, Bool.and_false]), _, _, _, _, _, _, rfl⟩)
        | true =>
          refine iteT ⟨_, rfl, _, rfl, d, _, rfl, DGet.k (k := Sum.inr z) hd6, _, rfl, ?_⟩
          cases e : valV kvs' (Sum.inr z) with
          | some v =>
            refine iteF ⟨s36, kvs', hd6, st.skip hri (by rw [fe, e]; rfl), _, _, _, _, _, _, rfl⟩
          | none =>
            have pos : 0 < ns.length := by
              rw [an] at ne
              have ne : ¬ ns = [] := of_decide_eq_false ne
              exact List.length_pos_iff.mpr ne
            refine iteT ⟨_, rfl, D, ns, rfl, SqL.of d6, pos, fun M _ _ => ⟨_, _, rfl, rfl, _, rfl, _, rfl, d, _, rfl, DPut.k (k := Sum.inr z) hd6 (by rw [sizeLine_eq]; omega), ?_⟩⟩
            exact ⟨same_put s36 nd', _, upd_same, st.put hri en (by rw [fe, e, an]; rfl), _, _, _, _, _, _, rfl⟩
      · rintro σ2 H3 ⟨s3, kvs', hd3, st, p2, p3, p4, p5, p6, p7, rfl⟩
        rw [hlen] at st
        exact ⟨s3, kvs', hd3, st.sound, st.whole, by have := st.len; omega, far.next st, _, _, _, _, _, _, rfl⟩
    · rintro σ1 H2 ⟨s2, kvs, hd2, sk, ik, lk, far, o2, o3, o4, o5, o6, o7, rfl⟩
      have e : ((xs.length : Nat) : Int).toNat = rs.length := by omega
      rw [e] at far
      exact ⟨_, rfl, k d kvs H2 s2 hd2 sk far.full⟩
end
end K02

/-! k02, part N: _law_some, _law_shuffled. -/
namespace K02
open PySem L2 PySem.Spec PyProof.Rows
abbrev sSome : Stmt := top 30
abbrev sShuf : Stmt := top 31
def spSome : Sp := fun vs H Q _ => ∃ b l T xs, vs = [.ref b, .ref T] ∧ T ≠ b ∧ H T = some (.lst xs) ∧ BagL H b l ∧ xs.length ≤ 100 ∧ ∀ p ys H', Dr b l H H' → H p = none → p ≠ b → p ≠ l → H' p = some (.lst ys) → ys.Sublist xs → Q (.ref p) H'
def spShuf : Sp := fun vs H Q _ => ∃ b l T xs, vs = [.ref b, .ref T] ∧ T ≠ b ∧ H T = some (.lst xs) ∧ BagL H b l ∧ xs.length ≤ 100 ∧ ∀ p ys H', Dr b l H H' → H p = none → p ≠ b → p ≠ l → H' p = some (.lst ys) → ys.Perm xs → Q (.ref p) H'
theorem pull_perm : ∀ {zs : List V} {i : Nat} (h : i < zs.length), (zs[i] :: zs.eraseIdx i).Perm zs
  | z :: zs, 0, _ => List.Perm.refl _
  | z :: zs, i + 1, h => by
    have h' : i < zs.length := by simpa using h
    have ih := pull_perm (zs := zs) (i := i) h'
    show (zs[i] :: z :: zs.eraseIdx i).Perm (z :: zs)
    exact (List.Perm.swap z zs[i] _).trans (ih.cons z)
section
variable {P : Program} {w : World} {K : PySem.W.Frag} {mg : Str → Option Value} {base : Heap}
abbrev smN : List Str := ["_law_bag_here", "_law_things", "_law_row", "_law_thing"]
abbrev shN : List Str := ["_law_bag_here", "_law_things", "_law_rest", "_law_row", "_law_k"]
theorem scSome : FnScope smN ["_law_bag_here", "_law_things"] (defScope sSome) := ⟨rfl, rfl, rfl, by decide +kernel, rfl, by decide +kernel, by decide +kernel⟩
theorem scShuf : FnScope shN ["_law_bag_here", "_law_things"] (defScope sShuf) := ⟨rfl, rfl, rfl, by decide +kernel, rfl, by decide +kernel, by decide +kernel⟩
theorem ok_some {f fp : Addr} {fd fdp : FuncData} (F : Fun K "_law_some" "_law_some" sSome f fd) (N : Nms mg) (DP : Df K mg "_law_pick" sPick ["_law_bag_here", "_law_many"] fp fdp) (GP : FnOk P w K mg base CX0 1 fp fdp ["_law_bag_here", "_law_many"] spPick) :
    FnOk P w K mg base CX0 2 f fd ["_law_bag_here", "_law_things"] spSome := by
  refine F.ok scSome (fun vs H Q E h => ?_) (fun cdv A outer s H vs Q E hr h => ?_)
  · obtain ⟨b, l, T, xs, rfl, _⟩ := h
    rfl
  · obtain ⟨b, l, T, xs, rfl, nT, hT, B, few, k⟩ := h
    have nd := scSome.nd
    refine ⟨_, pss_cons (ps_set (i := 2) nd rfl (Or.inl rfl) (pe_lst pa_nil))
      (pss_cons (ps_for PassesOwn.never rfl (pi_list (pv 1)) (pg_name (i := 3) nd rfl (Or.inl rfl))
        (pss_one (ps_if (pt_cmpR op_eq (pe_call GP hr rfl DP.g DP.F.kp DP.b .nil pass0 (pa_cons (pv 0) (pa_cons pe_int pa_nil))) pe_int (nomark _))
          (pss_one (ps_expr (pe_bm PySem.F.plainAttrs_list PySem.F.slot_list_append PySem.F.type_list_append mt_append (pv 2) (pa_cons (pv 3) pa_nil)))) pss_nil)))
      (pss_one (ps_ret (pv 2)))), ?_⟩
    refine ⟨by decide, fun R nR => ?_⟩
    have nb := B.ne_b nR
    have nl := B.ne_l nR
    have d0 : Dr b l H (upd H R (.lst [])) := (Dr.refl B).put nR nb nl
    refine ⟨_, rfl, T, rfl, ⟨_, SqL.of (d0.but _ _ hT nT)⟩, for_it (walk_list (K := K) (a := T) (xs := xs)) (fun i σ H' => Dr b l H H' ∧ ∃ ys o, H' R = some (.lst ys) ∧ ys.Sublist (xs.take i) ∧ σ = [some (.ref b), some (.ref T), some (.ref R), o])
      ⟨d0, [], _, upd_same, List.nil_sublist _, rfl⟩ (fun i σ H' _ h => SqL.of (h.1.but _ _ hT nT)) ?_ ?_⟩
    · rintro i y σ1 H1 H2 hi ⟨d1, ys, o, hR, sub, rfl⟩ ⟨rfl, hy⟩
      have hy' : xs[i]? = some y := hy
      have ly : ys.length ≤ 100 := by
        have := sub.length_le
        rw [List.length_take] at this
        omega
      have nxt : xs.take (i + 1) = xs.take i ++ [y] := by rw [List.take_add_one, hy']; rfl
      refine ⟨_, rfl, b, l, 2, rfl, by decide, by decide, d1.bag, fun r H3 r0 r1 B3 bt _ => ⟨rfl, _, rfl, ?_⟩⟩
      have d3 : Dr b l H H3 := ⟨B3, d1.but.trans bt⟩
      have hR3 := bt _ _ hR nb
      generalize decide (V.int r = V.int 0) = c
      cases c with
      | false => exact iteF ⟨d3, ys, _, hR3, by rw [nxt]; exact sub.trans (List.sublist_append_left _ _), rfl⟩
      | true =>
        refine iteT ⟨_, rfl, .inl ⟨rfl, _, SqL.of hR3⟩, _, rfl, R, _, _, rfl, rfl, hR3, small1000 (by omega), d3.put nR nb nl, ys ++ [y], _, upd_same, ?_, rfl⟩
        rw [nxt]
        exact sub.append (List.Sublist.refl _)
    · rintro σ1 H1 ⟨d1, ys, o, hR, sub, rfl⟩
      rw [List.take_length] at sub
      exact ⟨_, rfl, k R ys H1 d1 nR nb nl hR sub⟩
theorem ok_shuf {f fp : Addr} {fd fdp : FuncData} (F : Fun K "_law_shuffled" "_law_shuffled" sShuf f fd) (N : Nms mg) (DP : Df K mg "_law_pick" sPick ["_law_bag_here", "_law_many"] fp fdp) (GP : FnOk P w K mg base CX0 1 fp fdp ["_law_bag_here", "_law_many"] spPick) :
    FnOk P w K mg base CX0 2 f fd ["_law_bag_here", "_law_things"] spShuf := by
  refine F.ok scShuf (fun vs H Q E h => ?_) (fun cdv A outer s H vs Q E hr h => ?_)
  · obtain ⟨b, l, T, xs, rfl, _⟩ := h
    rfl
  · obtain ⟨b, l, T, xs, rfl, nT, hT, B, few, k⟩ := h
    have nd := scShuf.nd
    refine ⟨_, pss_cons (ps_set (i := 2) nd rfl (Or.inl rfl) (pe_callTy call_list_of (by rfl) N.list (by decide +kernel) (pa_cons (pv 1) pa_nil)))
      (pss_cons (ps_set (i := 3) nd rfl (Or.inl rfl) (pe_lst pa_nil))
      (pss_cons (ps_for PassesOwn.never rfl (pi_range1 rfl N.range (pa_cons (pe_callB call_len (by rfl) N.len PySem.boot_len (pa_cons (pv 1) pa_nil)) pa_nil)) (pg_name (i := 4) nd rfl (Or.inl rfl))
        (pss_one (ps_expr (pe_bm PySem.F.plainAttrs_list PySem.F.slot_list_append PySem.F.type_list_append mt_append (pv 3)
          (pa_cons (pe_bm PySem.F.plainAttrs_list PySem.F.slot_list_pop PySem.F.type_list_pop mt_popAt (pv 2) (pa_cons (pe_call GP hr rfl DP.g DP.F.kp DP.b .nil pass0 (pa_cons (pv 0) (pa_cons (pe_callB call_len (by rfl) N.len PySem.boot_len (pa_cons (pv 2) pa_nil)) pa_nil))) pa_nil)) pa_nil)))))
      (pss_one (ps_ret (pv 3))))), ?_⟩
    refine ⟨_, rfl, T, xs, rfl, .inl (SqL.of hT), fun Z nZ => ?_⟩
    have zb := B.ne_b nZ
    have zl := B.ne_l nZ
    have d0 : Dr b l H (upd H Z (.lst xs)) := (Dr.refl B).put nZ zb zl
    have hZ : upd H Z (.lst xs) Z = some (.lst xs) := upd_same
    generalize upd H Z (.lst xs) = H1 at d0 hZ ⊢
    refine ⟨by decide, fun R nR => ?_⟩
    have rb := d0.bag.ne_b nR
    have rl := d0.bag.ne_l nR
    have nZR : Z ≠ R := ne_of_none hZ nR
    have nR0 : H R = none := by
      cases e : H R with
      | none => rfl
      | some o =>
        exfalso
        by_cases q : R = b
        · exact rb q
        · rw [d0.but _ _ e q] at nR
          cases nR
    have d1 : Dr b l H (upd H1 R (.lst [])) := d0.put nR0 rb rl
    have hZ1 : upd H1 R (.lst []) Z = some (.lst xs) := by rw [upd_ne nZR]; exact hZ
    have hR1 : upd H1 R (.lst []) R = some (.lst []) := upd_same
    generalize upd H1 R (.lst []) = H2 at d1 hZ1 hR1 ⊢
    refine ⟨_, rfl, .ref T, xs.length, rfl, .inl ⟨xs, SqL.of (d1.but _ _ hT nT), rfl⟩, _, rfl, by omega, by omega, for_range (lo := 0) (n := ((xs.length : Nat) : Int).toNat) (fun i σ H' => Dr b l H H' ∧ ∃ ys zs o, H' R = some (.lst ys) ∧ H' Z = some (.lst zs) ∧ (ys ++ zs).Perm xs ∧ ys.length = i ∧
      σ = [some (.ref b), some (.ref T), some (.ref Z), some (.ref R), o]) ⟨d1, [], xs, _, hR1, hZ1, List.Perm.refl _, rfl, rfl⟩ ?_ ?_⟩
    · rintro i σ1 H3 hi ⟨d3, ys, zs, o, hR, hZ3, pm, ln, rfl⟩
      have lz : ys.length + zs.length = xs.length := by rw [← List.length_append]; exact pm.length_eq
      refine ⟨_, rfl, .inl ⟨rfl, _, SqL.of hR⟩, _, rfl, .inl ⟨rfl, _, SqL.of hZ3⟩, _, rfl, _, rfl, .ref Z, zs.length, rfl, .inl ⟨zs, SqL.of hZ3, rfl⟩, ?_⟩
      refine ⟨b, l, (zs.length : Nat), rfl, by omega, by omega, d3.bag, fun r H4 r0 r1 B4 bt _ => ?_⟩
      have d4 : Dr b l H H4 := ⟨B4, d3.but.trans bt⟩
      have hZ4 := bt _ _ hZ3 zb
      have hR4 := bt _ _ hR rb
      have hk : r.toNat < zs.length := by omega
      have pz : (zs[r.toNat] :: zs.eraseIdx r.toNat).Perm zs := pull_perm hk
      refine ⟨Z, zs, r, r.toNat, zs[r.toNat], rfl, rfl, hZ4, by omega, by omega, seqIndex_of r0 r1, List.getElem?_eq_getElem hk, R, ys, zs[r.toNat], rfl, rfl, (by rw [upd_ne (Ne.symm nZR)]; exact hR4), small1000 (by omega), (d4.put nZ zb zl).put nR0 rb rl, ys ++ [zs[r.toNat]], zs.eraseIdx r.toNat, _, upd_same, (by rw [upd_ne nZR]; exact upd_same), ?_, (by rw [List.length_append, ln]; rfl), rfl⟩
      rw [List.append_assoc]
      exact (List.Perm.append_left ys pz).trans pm
    · rintro σ1 H3 ⟨d3, ys, zs, o, hR, hZ3, pm, ln, rfl⟩
      have lz : ys.length + zs.length = xs.length := by rw [← List.length_append]; exact pm.length_eq
      have : zs = [] := List.eq_nil_of_length_eq_zero (by omega)
      subst this
      rw [List.append_nil] at pm
      exact ⟨_, rfl, k R ys H3 d3 nR0 rb rl hR pm⟩
end
end K02

/-! k02, part O: names drawn apart: what they are. -/
namespace K02
open PySem L2 PySem.Spec PyProof.Rows
/-- a name: a letter set into a stem, something behind -/
def apRaw (st : Str) (pl c : Nat) (tl : Str) : Str := cutS st none (some (pl : Int)) ++ ⟨#[c]⟩ ++ cutS st (some (pl : Int)) none ++ tl
/-- and "z" behind a word that is kept -/
def apName (st : Str) (pl c : Nat) (tl : Str) : Str := if inV (.str (apRaw st pl c tl)) resV = true then apRaw st pl c tl ++ "z" else apRaw st pl c tl
theorem cps_app (x y : Str) : (x ++ y).cps.toList = x.cps.toList ++ y.cps.toList := Array.toList_append
theorem len_cps (x : Str) : x.cps.toList.length = x.length := Array.length_toList
theorem cut_lo {st : Str} {pl : Nat} (h : pl ≤ st.length) : (cutS st none (some (pl : Int))).cps.toList = st.cps.toList.take pl := by
  unfold cutS
  rw [HT.sIx_nat, HT.sIx_none, Nat.min_eq_left h, List.drop_zero, Nat.sub_zero]
theorem cut_hi {st : Str} {pl : Nat} (h : pl ≤ st.length) : (cutS st (some (pl : Int)) none).cps.toList = st.cps.toList.drop pl := by
  unfold cutS
  rw [HT.sIx_nat, HT.sIx_none, Nat.min_eq_left h]
  exact List.take_of_length_le (by rw [List.length_drop, len_cps]; exact Nat.le_refl _)
theorem raw_cps {st : Str} {pl c : Nat} {tl : Str} (h : pl ≤ st.length) : (apRaw st pl c tl).cps.toList = st.cps.toList.take pl ++ c :: (st.cps.toList.drop pl ++ tl.cps.toList) := by
  unfold apRaw
  rw [cps_app, cps_app, cps_app, cut_lo h, cut_hi h]
  show st.cps.toList.take pl ++ [c] ++ _ ++ _ = _
  rw [List.append_assoc, List.append_assoc]
  rfl
theorem raw_len {st : Str} {pl c : Nat} {tl : Str} (h : pl ≤ st.length) : (apRaw st pl c tl).length = st.length + 1 + tl.length := by
  rw [← len_cps, raw_cps h, List.length_append, List.length_cons, List.length_append, List.length_take, List.length_drop, len_cps, len_cps]
  omega
theorem raw_let {st : Str} {pl c : Nat} {tl : Str} (h : pl ≤ st.length) (hs : AllIn isLet st) (ht : AllIn isLet tl) (hc : isLet c = true) : AllIn isLet (apRaw st pl c tl) := by
  intro x hx
  rw [raw_cps h] at hx
  rcases List.mem_append.mp hx with q | q
  · exact hs x (List.mem_of_mem_take q)
  · rcases List.mem_cons.mp q with rfl | q
    · exact hc
    · rcases List.mem_append.mp q with q | q
      · exact hs x (List.mem_of_mem_drop q)
      · exact ht x q
theorem raw_at {st : Str} {pl c : Nat} {tl : Str} (h : pl ≤ st.length) : (apRaw st pl c tl).cps.toList[pl]? = some c := by
  have l : (st.cps.toList.take pl).length = pl := by rw [List.length_take, len_cps, Nat.min_eq_left h]
  rw [raw_cps h, List.getElem?_append_right (by omega), l, Nat.sub_self]
  rfl
theorem name_at {st : Str} {pl c : Nat} {tl : Str} (h : pl ≤ st.length) : (apName st pl c tl).cps.toList[pl]? = some c := by
  unfold apName
  split
  · rw [cps_app, List.getElem?_append_left (by rw [len_cps, raw_len h]; omega)]
    exact raw_at h
  · exact raw_at h
theorem mem_res {z : Str} : inV (.str z) resV = true ↔ z ∈ reserved := by
  unfold inV
  rw [List.any_eq_true]
  constructor
  · rintro ⟨y, hy, e⟩
    obtain ⟨x, hx, rfl⟩ := List.mem_map.mp hy
    have : (x == z) = true := e
    rw [← eq_of_beq this]
    exact hx
  · intro h
    exact ⟨.str z, List.mem_map.mpr ⟨z, h, rfl⟩, by show (z == z) = true; exact beq_self_eq_true z⟩
theorem res_z : ∀ z ∈ reserved, inV (.str (z ++ "z")) resV = false ∧ AllIn isLet (z ++ "z") := by
  have h : ∀ z ∈ reserved, inV (.str (z ++ "z")) resV = false ∧ (z ++ "z").cps.toList.all isLet = true := by decide +kernel
  exact fun z hz => ⟨(h z hz).1, fun c hc => List.all_eq_true.mp (h z hz).2 c hc⟩
theorem nmS_of {z : Str} (h1 : 1 ≤ z.length) (h2 : z.length ≤ 12) (h3 : AllIn isLet z) (h4 : inV (.str z) resV = false) : nmS z = true := by
  unfold nmS
  rw [decide_eq_true (by omega), decide_eq_true (by omega), h4]
  simp only [Bool.true_and, Bool.not_false, Bool.and_true]
  exact List.all_eq_true.mpr h3
theorem name_ok {st : Str} {pl c : Nat} {tl : Str} (h : pl ≤ st.length) (h7 : st.length ≤ 7) (h3 : tl.length ≤ 3) (hs : AllIn isLet st) (ht : AllIn isLet tl) (hc : isLet c = true) : nmS (apName st pl c tl) = true := by
  have l := raw_len (c := c) (tl := tl) h
  have a := raw_let h hs ht hc
  unfold apName
  split
  · rename_i q
    have z := res_z _ (mem_res.mp q)
    refine nmS_of ?_ ?_ z.2 z.1
    · rw [Str.length_append]; omega
    · rw [Str.length_append, l]
      show st.length + 1 + tl.length + 1 ≤ 12
      omega
  · rename_i q
    exact nmS_of (by omega) (by omega) a (Bool.eq_false_iff.mpr q)
/-- a drawn name: a right one of at most eleven letters -/
def nmW (z : Str) : Prop := nmS z = true ∧ z.length ≤ 11
theorem res_le : ∀ z ∈ reserved, z.length ≤ 10 := by decide +kernel
theorem name_ok11 {st : Str} {pl c : Nat} {tl : Str} (h : pl ≤ st.length) (h7 : st.length ≤ 7) (h3 : tl.length ≤ 3) (hs : AllIn isLet st) (ht : AllIn isLet tl) (hc : isLet c = true) : nmW (apName st pl c tl) := by
  refine ⟨name_ok h h7 h3 hs ht hc, ?_⟩
  have l := raw_len (c := c) (tl := tl) h
  unfold apName
  split
  · rename_i q
    have z := res_le _ (mem_res.mp q)
    rw [Str.length_append]
    show _ + 1 ≤ 11
    omega
  · omega
theorem let_uni {c : Nat} (h : isLet c = true) : c < 0x110000 := by
  have h' : c ∈ letters.cps.toList := of_decide_eq_true h
  have : ∀ c ∈ letters.cps.toList, c < 0x110000 := by decide +kernel
  exact this c h'
theorem nm_sh {z : Str} (h : nmS z = true) : Sh z := by
  have l := (name_short h).2
  unfold nmS at h
  simp only [Bool.and_eq_true, decide_eq_true_eq, List.all_eq_true] at h
  obtain ⟨_, h3, _⟩ := h
  refine ⟨by omega, ?_⟩
  unfold PyData.strOk
  rw [← Array.all_toList]
  exact List.all_eq_true.mpr fun c hc => decide_eq_true (let_uni (h3 c hc))
/-- the letters at two places of the alphabet differ -/
theorem let_apart : ∀ i, i < 26 → ∀ j, j < 26 → letters.cps.toList[i]? = letters.cps.toList[j]? → i = j := by decide +kernel
end K02

/-! k02, part P: _law_apart. -/
namespace K02
open PySem L2 PySem.Spec PyProof.Rows
abbrev sApart : Stmt := top 34
abbrev apN : List Str := ["_law_bag_here", "_law_many", "_law_signs", "_law_most", "_law_tail", "_law_barred", "_law_k", "_law_stem", "_law_place", "_law_start", "_law_longer", "_law_row", "_law_name", "_law_step"]
/-- len of a text -/
def rLn : List V → Hp → VK → Prop := fun vs G R => ∃ y, vs = [V.str y] ∧ y.length ≤ sizeLine ∧ R (.int y.length) G
def spApart : Sp := fun vs H Q _ => ∃ (b l : Addr) (m : Nat), vs = [.ref b, .int (m : Nat), .str letters, .int 7, .int 3] ∧ m ≤ 20 ∧ BagL H b l ∧
  ∀ (p : Addr) (zs : List Str) (H' : Hp), Dr b l H H' → H p = none → p ≠ b → p ≠ l → H' p = some (.lst (zs.map V.str)) → zs.length = m → (∀ z ∈ zs, nmW z) → zs.Nodup → Q (.ref p) H'
section
variable {P : Program} {w : World} {K : PySem.W.Frag} {mg : Str → Option Value} {base : Heap}
theorem scApart : FnScope apN ["_law_bag_here", "_law_many", "_law_signs", "_law_most", "_law_tail"] (defScope sApart) := ⟨rfl, rfl, rfl, by decide +kernel, rfl, by decide +kernel, by decide +kernel⟩
abbrev tSign : TE := tOp rIxS (tVar 2) (tCall spPick [] E0 (tCons (tVar 0) (tCons (tCB rLn (tCons (tVar 2) tNil)) tNil)))
/-- letters drawn so far stand at D -/
def LetD (b l : Addr) (H H' : Hp) (D : Addr) (i : Nat) : Prop := Dr b l H H' ∧ ∃ ys : List Str, H' D = some (.lst (ys.map V.str)) ∧ ys.length = i ∧ ∀ y ∈ ys, y.length = 1 ∧ AllIn isLet y
theorem sign_turn {b l : Addr} {σ : L2.St} {H H2 : Hp} {D : Addr} {i : Nat} (σ0 : σ[0]? = some (some (.ref b))) (σ2 : σ[2]? = some (some (.str letters))) (hD : H D = none) (nb : D ≠ b) (nl : D ≠ l) (hi : i ≤ 100) (h : LetD b l H H2 D i) :
    tSign σ H2 fun y H4 => ∃ acc, H4 D = some (.lst acc) ∧ acc.length < sizeLine ∧ LetD b l H (upd H4 D (.lst (acc ++ [y]))) D (i + 1) := by
  obtain ⟨d2, ys, h2, hl, hy⟩ := h
  refine ⟨_, σ2, _, σ0, _, σ2, letters, rfl, by decide, b, l, _, rfl, by decide, by decide, d2.bag, fun r H3 r0 r1 B3 bt nw => ?_⟩
  obtain ⟨j, rfl⟩ := Int.eq_ofNat_of_zero_le r0
  have l26 : letters.length = 26 := by decide
  have hj : j < letters.cps.toList.length := by rw [len_cps]; omega
  have h3 : H3 D = some (.lst (ys.map V.str)) := bt _ _ h2 nb
  refine ⟨letters, _, letters.cps.toList[j], rfl, rfl, by decide, atI_nat (List.getElem?_eq_getElem hj), ys.map V.str, h3, ?_, (d2.trans ⟨B3, bt⟩).put hD nb nl, ys ++ [⟨#[letters.cps.toList[j]]⟩], ?_, ?_, ?_⟩
  · rw [List.length_map, hl]; exact small1000 (by omega)
  · rw [upd_same, List.map_append]; rfl
  · rw [List.length_append, hl]; rfl
  · intro y hy2
    rcases List.mem_append.mp hy2 with z | z
    · exact hy y z
    · rw [List.mem_singleton.mp z]
      refine ⟨rfl, fun c hc => ?_⟩
      have : c = letters.cps.toList[j] := List.mem_singleton.mp hc
      rw [this]
      exact decide_eq_true (List.getElem_mem hj)
theorem sum_ones : ∀ {l : List Str}, (∀ y ∈ l, y.length = 1 ∧ AllIn isLet y) → (l.map (·.length)).sum = l.length
  | [], _ => rfl
  | a :: r, h => by
    rw [List.map_cons, List.sum_cons, (h a List.mem_cons_self).1, sum_ones fun y hy => h y (List.mem_cons_of_mem _ hy), List.length_cons]
    omega
theorem ok_apart {f fp : Addr} {fd fdp : FuncData} (F : Fun K "_law_apart" "_law_apart" sApart f fd) (N : Nms mg) (DP : Df K mg "_law_pick" sPick ["_law_bag_here", "_law_many"] fp fdp) (GP : FnOk P w K mg base CX0 1 fp fdp ["_law_bag_here", "_law_many"] spPick) :
    FnOk P w K mg base CX0 2 f fd ["_law_bag_here", "_law_many", "_law_signs", "_law_most", "_law_tail"] spApart := by
  refine F.ok scApart (fun vs H Q E h => ?_) (fun cdv A outer s H vs Q E hr h => ?_)
  · obtain ⟨b, l, m, rfl, _⟩ := h
    rfl
  · obtain ⟨b, l, m, rfl, hm, B, k⟩ := h
    have nd := scApart.nd
    refine ⟨_, pss_cons (ps_set (i := 5) nd rfl (Or.inl rfl) (pe_split pe_str pe_str))
      (pss_cons (ps_set (i := 7) nd rfl (Or.inl rfl) (pe_join pe_str (pe_lc (own := [("_law_k", 6)]) (g := gName 6) (tt := tYes) (te := tSign) rfl nd (pi_range1 rfl N.range (pa_cons (pe_call GP hr rfl DP.g DP.F.kp DP.b .nil pass0 (pa_cons (pv 0) (pa_cons (pe_op op_add (pv 3) pe_int) pa_nil))) pa_nil))
          (blkOk_by (N := apN) (sc := defScope sApart) (by decide +kernel)) (fun _ _ _ _ _ => pg_name (i := 6) nd rfl (Or.inl rfl)) (fun _ _ _ _ _ => pts_nil)
          (fun _ _ _ _ _ => pe_ix ix_str (pv 2) (pe_call GP hr rfl DP.g DP.F.kp DP.b .nil pass0 (pa_cons (pv 0) (pa_cons (pe_callB call_len_str (by rfl) N.len PySem.boot_len (pa_cons (pv 2) pa_nil)) pa_nil))) (fun _ _ => rfl)))))
      (pss_cons (ps_set (i := 8) nd rfl (Or.inl rfl) (pe_call GP hr rfl DP.g DP.F.kp DP.b .nil pass0 (pa_cons (pv 0) (pa_cons (pe_op op_add (pe_callB call_len_str (by rfl) N.len PySem.boot_len (pa_cons (pv 7) pa_nil)) pe_int) pa_nil))))
      (pss_cons (ps_set (i := 9) nd rfl (Or.inl rfl) (pe_call GP hr rfl DP.g DP.F.kp DP.b .nil pass0 (pa_cons (pv 0) (pa_cons (pe_callB call_len_str (by rfl) N.len PySem.boot_len (pa_cons (pv 2) pa_nil)) pa_nil))))
      (pss_cons (ps_set (i := 10) nd rfl (Or.inl rfl) (pe_op op_mul (pe_call GP hr rfl DP.g DP.F.kp DP.b .nil pass0 (pa_cons (pv 0) (pa_cons pe_int pa_nil))) (pv 4)))
      (pss_cons (ps_set (i := 11) nd rfl (Or.inl rfl) (pe_lst pa_nil))
      (pss_cons (ps_for PassesOwn.never rfl (pi_range1 rfl N.range (pa_cons (pv 1) pa_nil)) (pg_name (i := 6) nd rfl (Or.inl rfl))
        (pss_cons (ps_set (i := 12) nd rfl (Or.inl rfl) (pe_op op_add_str (pe_op op_add_str (pe_slice sl_str (pv 7) po_none (po_some (pv 8)))
            (pe_ix ix_str (pv 2) (pe_op op_mod (pe_callTy call_int1 (by rfl) N.int (by decide +kernel) (pa_cons (pe_op op_add (pv 9) (pv 6)) pa_nil)) (pe_callB call_len_str (by rfl) N.len PySem.boot_len (pa_cons (pv 2) pa_nil))) (fun _ _ => rfl))) (pe_slice sl_str (pv 7) (po_some (pv 8)) po_none)))
        (pss_cons (ps_set (i := 12) nd rfl (Or.inl rfl) (pe_op op_add_str (pv 12) (pe_join pe_str (pe_lc (own := [("_law_step", 13)]) (g := gName 13) (tt := tYes) (te := tSign) rfl nd (pi_range1 rfl N.range (pa_cons (pe_call GP hr rfl DP.g DP.F.kp DP.b .nil pass0 (pa_cons (pv 0) (pa_cons (pe_op op_add (pv 10) pe_int) pa_nil))) pa_nil))
          (blkOk_by (N := apN) (sc := defScope sApart) (by decide +kernel)) (fun _ _ _ _ _ => pg_name (i := 13) nd rfl (Or.inl rfl)) (fun _ _ _ _ _ => pts_nil)
          (fun _ _ _ _ _ => pe_ix ix_str (pv 2) (pe_call GP hr rfl DP.g DP.F.kp DP.b .nil pass0 (pa_cons (pv 0) (pa_cons (pe_callB call_len_str (by rfl) N.len PySem.boot_len (pa_cons (pv 2) pa_nil)) pa_nil))) (fun _ _ => rfl))))))
        (pss_cons (ps_if (pt_cmpR op_in_seq (pv 12) (pv 5) rfl) (pss_one (ps_set (i := 12) nd rfl (Or.inl rfl) (pe_op op_add_str (pv 12) pe_str))) pss_nil)
        (pss_one (ps_expr (pe_bm PySem.F.plainAttrs_list PySem.F.slot_list_append PySem.F.type_list_append mt_append (pv 11) (pa_cons (pv 12) pa_nil))))))))
      (pss_one (ps_ret (pv 11))))))))), ?_⟩
    refine ⟨⟨_, rfl⟩, _, _, rfl, rfl, rfl, by decide, fun R nR => ?_⟩
    have e : Txt.split "any none mix form state over from parts some each main falls not and or two ring open" " " = reserved := by decide +kernel
    rw [e]
    have Rb := B.ne_b nR
    have Rl := B.ne_l nR
    have d1 : Dr b l H (upd H R (.lst resV)) := (Dr.refl B).put nR Rb Rl
    have hR1 : upd H R (.lst resV) R = some (.lst resV) := upd_same
    show _
    refine ⟨⟨_, rfl⟩, _, rfl, _, rfl, _, _, rfl, rfl, b, l, _, rfl, by decide, by decide, d1.bag, fun n1 H2 p0 p1 B2 bt2 _ => ⟨_, rfl, by omega, by omega, fun D hD => ?_⟩⟩
    have nDb := B2.ne_b hD
    have nDl := B2.ne_l hD
    refine lc_range (lo := 0) (n := n1.toNat) (fun i H' => LetD b l H2 H' D i) ⟨(Dr.refl B2).put hD nDb nDl, [], upd_same, rfl, (fun y hy => by cases hy)⟩ (fun i G hi h => ⟨rfl, yesT (sign_turn rfl rfl hD nDb nDl (by omega) h)⟩) ?_
    rintro H3 ⟨d3', ys, h3, hl, hy⟩
    obtain ⟨j1, j2⟩ := join_signs hy
    refine ⟨"", D, ys, rfl, rfl, .inl (SqL.of h3), by rw [sum_ones hy]; show ys.length + ys.length * 0 ≤ _; omega, ?_⟩
    rw [join_eq']
    have st7 : (Str.join "" ys).length ≤ 7 := by omega
    generalize Str.join "" ys = st at j1 j2 st7 ⊢
    have d3 : Dr b l H H3 := d1.trans (Dr.trans ⟨B2, bt2⟩ d3')
    have hR3 : H3 R = some (.lst resV) := d3'.but _ _ (bt2 _ _ hR1 Rb) Rb
    clear p0 p1
    refine ⟨_, rfl, _, rfl, st, rfl, Nat.le_trans st7 (by decide), _, _, rfl, rfl, b, l, _, rfl, by omega, by omega, d3.bag, fun pl H4 p0 p1 B4 bt4 _ => ?_⟩
    obtain ⟨pl, rfl⟩ := Int.eq_ofNat_of_zero_le p0
    have hpl : pl ≤ st.length := by omega
    have d4 : Dr b l H H4 := d3.trans ⟨B4, bt4⟩
    have hR4 := bt4 _ _ hR3 Rb
    refine ⟨_, rfl, _, rfl, letters, rfl, by decide, b, l, _, rfl, by decide, by decide, d4.bag, fun sa H5 s0 s1 B5 bt5 _ => ?_⟩
    obtain ⟨sa, rfl⟩ := Int.eq_ofNat_of_zero_le s0
    have d5 : Dr b l H H5 := d4.trans ⟨B5, bt5⟩
    have hR5 := bt5 _ _ hR4 Rb
    refine ⟨_, rfl, b, l, 2, rfl, by decide, by decide, d5.bag, fun lg H6 g0 g1 B6 bt6 _ => ⟨_, rfl, lg, 3, rfl, rfl, .inl ⟨by omega, by omega⟩, ?_⟩⟩
    have d6 : Dr b l H H6 := d5.trans ⟨B6, bt6⟩
    have hR6 := bt6 _ _ hR5 Rb
    have hlg : 0 ≤ lg * 3 ∧ lg * 3 ≤ 3 := by omega
    refine ⟨by decide, fun W nW => ?_⟩
    have Wb := d6.bag.ne_b nW
    have Wl := d6.bag.ne_l nW
    have nW0 : H W = none := by
      cases e : H W with
      | none => rfl
      | some o =>
        have := d6.but _ _ e Wb
        rw [this] at nW
        cases nW
    have nRW : R ≠ W := ne_of_none hR6 nW
    have d7 : Dr b l H (upd H6 W (.lst [])) := d6.put nW0 Wb Wl
    have hR7 : upd H6 W (.lst []) R = some (.lst resV) := by rw [upd_ne nRW]; exact hR6
    have hW7 : upd H6 W (.lst []) W = some (.lst []) := upd_same
    generalize upd H6 W (.lst []) = H7 at d7 hR7 hW7 ⊢
    refine ⟨_, rfl, _, rfl, by omega, by omega, for_range (lo := 0) (n := ((m : Nat) : Int).toNat) (fun i σ H' => Dr b l H H' ∧ H' R = some (.lst resV) ∧ ∃ (zs : List Str) (o6 o12 : Option V), H' W = some (.lst (zs.map V.str)) ∧ zs.length = i ∧ (∀ z ∈ zs, nmW z) ∧ zs.Nodup ∧
      (∀ z ∈ zs, ∃ j, j < i ∧ z.cps.toList[pl]? = letters.cps.toList[(sa + j) % 26]?) ∧
      σ = [some (.ref b), some (.int (m : Nat)), some (.str letters), some (.int 7), some (.int 3), some (.ref R), o6, some (.str st), some (.int (pl : Nat)), some (.int (sa : Nat)), some (.int (lg * 3)), some (.ref W), o12, none]) ⟨d7, hR7, [], _, _, hW7, rfl, (fun z hz => by cases hz), List.nodup_nil, (fun z hz => by cases hz), rfl⟩ ?_ ?_⟩
    · rintro i σ1 G1 hi ⟨f1, hRg, zs, o6, o12, hWg, ln, okz, ndz, atz, rfl⟩
      have hi' : i < 20 := by omega
      rw [Int.zero_add]
      have l26 : letters.length = 26 := by decide
      have hx : (sa + i) % 26 < letters.cps.toList.length := by rw [len_cps, l26]; exact Nat.mod_lt _ (by decide)
      obtain ⟨c, hc⟩ : ∃ c, letters.cps.toList[(sa + i) % 26]? = some c := ⟨_, List.getElem?_eq_getElem hx⟩
      have lc : isLet c = true := decide_eq_true (List.mem_of_getElem? hc)
      have im : ((sa : Nat) : Int) + ((i : Nat) : Int) = ((sa + i : Nat) : Int) := by omega
      have ix : (((sa : Nat) : Int) + ((i : Nat) : Int)) % ((letters.length : Nat) : Int) = (((sa + i) % 26 : Nat) : Int) := by rw [im, l26]; rfl
      have st9 : st.length ≤ sizeLine := Nat.le_trans st7 (by decide)
      have c1 : (cutS st none (some (pl : Int))).length ≤ 7 := Nat.le_trans (cutS_length _ _ _) st7
      have c2 : (cutS st (some (pl : Int)) none).length ≤ 7 := Nat.le_trans (cutS_length _ _ _) st7
      have one : (⟨#[c]⟩ : Str).length = 1 := rfl
      refine ⟨_, rfl, _, rfl, _, rfl, st, rfl, st9, _, rfl, _, rfl, _, rfl, _, _, rfl, rfl, .inl ⟨_, rfl, _, rfl, letters, rfl, by decide, _, _, rfl, rfl, (by show (0 : Int) < ((letters.length : Nat) : Int); rw [l26]; decide), letters, _, c, rfl, rfl, by decide, (by rw [ix]; exact atI_nat hc), _, _, rfl, rfl, ?_, _, rfl, _, rfl, _, rfl, st, rfl, st9, _, _, rfl, rfl, ?_, ?_⟩⟩
      · rw [one]; exact Nat.le_of_lt (small1000 (by omega))
      · rw [Str.length_append, one]; exact Nat.le_of_lt (small1000 (by omega))
      refine ⟨_, rfl, ⟨_, rfl⟩, _, rfl, _, rfl, _, _, rfl, rfl, b, l, _, rfl, by omega, by omega, f1.bag, fun n2 G2 q0 q1 B2 bt2' _ => ⟨_, rfl, by omega, by omega, fun D hD => ?_⟩⟩
      have nDb := B2.ne_b hD
      have nDl := B2.ne_l hD
      refine lc_range (lo := 0) (n := n2.toNat) (fun i H' => LetD b l G2 H' D i) ⟨(Dr.refl B2).put hD nDb nDl, [], upd_same, rfl, (fun y hy => by cases hy)⟩ (fun i G hi h => ⟨rfl, yesT (sign_turn rfl rfl hD nDb nDl (by omega) h)⟩) ?_
      rintro G3 ⟨g3, ys, h3, hl, hy⟩
      obtain ⟨k1, k2⟩ := join_signs hy
      have t3 : (Str.join "" ys).length ≤ 3 := by omega
      refine ⟨"", D, ys, rfl, rfl, .inl (SqL.of h3), (by rw [sum_ones hy]; show ys.length + ys.length * 0 ≤ _; omega), ?_⟩
      rw [join_eq']
      generalize Str.join "" ys = tl at k1 k2 t3 ⊢
      refine ⟨_, _, rfl, rfl, ?_, ?_⟩
      · rw [Str.length_append, Str.length_append, one]; exact Nat.le_of_lt (small1000 (by omega))
      have er : cutS st none (some (pl : Int)) ++ ⟨#[c]⟩ ++ cutS st (some (pl : Int)) none ++ tl = apRaw st pl c tl := rfl
      rw [er]
      have d3' : Dr b l H G3 := f1.trans (Dr.trans ⟨B2, bt2'⟩ g3)
      have hR3' := g3.but _ _ (bt2' _ _ hRg Rb) Rb
      have hW3 := g3.but _ _ (bt2' _ _ hWg Wb) Wb
      have rl := raw_len (c := c) (tl := tl) hpl
      have good := name_ok11 hpl st7 t3 j2 k2 lc
      have atn := name_at (c := c) (tl := tl) hpl
      have fresh : apName st pl c tl ∉ zs := fun hz => by
        obtain ⟨j, hj, e⟩ := atz _ hz
        rw [atn, ← hc] at e
        have := let_apart _ (Nat.mod_lt _ (by decide)) _ (Nat.mod_lt _ (by decide)) e
        omega
      have done : ∀ o6' o12', Dr b l H (upd G3 W (.lst (zs.map V.str ++ [.str (apName st pl c tl)]))) ∧ upd G3 W (.lst (zs.map V.str ++ [.str (apName st pl c tl)])) R = some (.lst resV) ∧ ∃ (zs' : List Str) (o6 o12 : Option V),
          upd G3 W (.lst (zs.map V.str ++ [.str (apName st pl c tl)])) W = some (.lst (zs'.map V.str)) ∧ zs'.length = i + 1 ∧ (∀ z ∈ zs', nmW z) ∧ zs'.Nodup ∧ (∀ z ∈ zs', ∃ j, j < i + 1 ∧ z.cps.toList[pl]? = letters.cps.toList[(sa + j) % 26]?) ∧
          [some (.ref b), some (.int (m : Nat)), some (.str letters), some (.int 7), some (.int 3), some (.ref R), o6', some (.str st), some (.int (pl : Nat)), some (.int (sa : Nat)), some (.int (lg * 3)), some (.ref W), o12', none] =
            [some (.ref b), some (.int (m : Nat)), some (.str letters), some (.int 7), some (.int 3), some (.ref R), o6, some (.str st), some (.int (pl : Nat)), some (.int (sa : Nat)), some (.int (lg * 3)), some (.ref W), o12, none] := fun o6' o12' => by
        refine ⟨d3'.put nW0 Wb Wl, (by rw [upd_ne nRW]; exact hR3'), zs ++ [apName st pl c tl], o6', o12', ?_, ?_, ?_, ?_, ?_, rfl⟩
        · rw [upd_same, List.map_append]; rfl
        · rw [List.length_append, ln]; rfl
        · intro z hz
          rcases List.mem_append.mp hz with h | h
          · exact okz z h
          · rw [List.mem_singleton.mp h]; exact good
        · refine List.nodup_append.mpr ⟨ndz, by simp, fun x hx y hy e => ?_⟩
          rw [List.mem_singleton.mp hy] at e
          exact fresh (e ▸ hx)
        · intro z hz
          rcases List.mem_append.mp hz with h | h
          · obtain ⟨j, hj, e⟩ := atz z h
            exact ⟨j, by omega, e⟩
          · rw [List.mem_singleton.mp h]
            exact ⟨i, Nat.lt_succ_self i, by rw [atn, hc]⟩
      have lw : (zs.map V.str).length < sizeLine := by rw [List.length_map]; exact small1000 (by omega)
      refine ⟨_, rfl, _, rfl, R, resV, rfl, .inl (SqL.of hR3'), rfl, by decide, _, rfl, ?_⟩
      cases q : inV (.str (apRaw st pl c tl)) resV with
      | true =>
        have en : apRaw st pl c tl ++ "z" = apName st pl c tl := by unfold apName; rw [if_pos q]
        refine iteT ⟨_, rfl, _, _, rfl, rfl, (by rw [rl]; exact Nat.le_of_lt (small1000 (by show _ + 1 ≤ 1000; omega))), ?_⟩
        rw [en]
        exact ⟨_, rfl, .inl ⟨rfl, _, SqL.of hW3⟩, _, rfl, W, _, _, rfl, rfl, hW3, lw, done _ _⟩
      | false =>
        have en : apRaw st pl c tl = apName st pl c tl := by unfold apName; rw [if_neg (by rw [q]; exact Bool.false_ne_true)]
        rw [en]
        refine iteF ?_
        exact ⟨_, rfl, .inl ⟨rfl, _, SqL.of hW3⟩, _, rfl, W, _, _, rfl, rfl, hW3, lw, done _ _⟩
    · rintro σ1 G1 ⟨f1, hRg, zs, o6, o12, hWg, ln, okz, ndz, atz, rfl⟩
      exact ⟨_, rfl, k W zs G1 f1 nW0 Wb Wl hWg (by omega) okz ndz⟩
end
end K02

/-! k02, part Q: _law_names. -/
namespace K02
open PySem L2 PySem.Spec PyProof.Rows
abbrev sNames : Stmt := top 35
def spNames : Sp := fun vs H Q _ => ∃ (b l : Addr) (m : Nat), vs = [.ref b, .int (m : Nat)] ∧ m ≤ 20 ∧ BagL H b l ∧
  ∀ (p : Addr) (zs : List Str) (H' : Hp), Dr b l H H' → H p = none → p ≠ b → p ≠ l → H' p = some (.lst (zs.map V.str)) → zs.length = m → (∀ z ∈ zs, nmW z) → zs.Nodup → Q (.ref p) H'
section
variable {P : Program} {w : World} {K : PySem.W.Frag} {mg : Str → Option Value} {base : Heap}
theorem scNames : FnScope ["_law_bag_here", "_law_many"] ["_law_bag_here", "_law_many"] (defScope sNames) := ⟨rfl, rfl, rfl, by decide +kernel, rfl, by decide +kernel, by decide +kernel⟩
theorem ok_names {f fa : Addr} {fd fda : FuncData} (F : Fun K "_law_names" "_law_names" sNames f fd) (DA : Df K mg "_law_apart" sApart ["_law_bag_here", "_law_many", "_law_signs", "_law_most", "_law_tail"] fa fda)
    (GA : FnOk P w K mg base CX0 2 fa fda ["_law_bag_here", "_law_many", "_law_signs", "_law_most", "_law_tail"] spApart) : FnOk P w K mg base CX0 3 f fd ["_law_bag_here", "_law_many"] spNames := by
  refine F.ok scNames (fun vs H Q E h => ?_) (fun cdv A outer s H vs Q E hr h => ?_)
  · obtain ⟨b, l, m, rfl, _⟩ := h
    rfl
  · obtain ⟨b, l, m, rfl, hm, B, k⟩ := h
    refine ⟨_, pss_one (ps_ret (pe_call GA hr rfl DA.g DA.F.kp DA.b .nil pass0 (pa_cons (pv 0) (pa_cons (pv 1) (pa_cons pe_str (pa_cons pe_int (pa_cons pe_int pa_nil))))))), ?_⟩
    exact ⟨_, rfl, _, rfl, b, l, m, rfl, hm, B, k⟩
end
end K02

/-! k02, part R: a drawn stock is a right one. -/
namespace K02
open PySem L2 PySem.Spec PyProof.Rows
/-- names and rows as the law draws them -/
structure DrawnOk (s t l : List Str) (zs : List Str) (rs : List FRow) : Prop where
  ls : 1 ≤ s.length ∧ s.length ≤ 5
  lt : 1 ≤ t.length ∧ t.length ≤ 4
  ll : 1 ≤ l.length ∧ l.length ≤ 4
  lr : 1 ≤ rs.length ∧ rs.length ≤ 6
  nr : rs.map FRow.n = zs.map V.str
  nm : ∀ z ∈ s ++ (t ++ (l ++ zs)), nmS z = true
  nd : (s ++ (t ++ (l ++ zs))).Nodup
  row : ∀ r ∈ rs, 1 ≤ r.lo ∧ r.lo ≤ r.hi ∧ r.hi ≤ 4 ∧ r.ts ≠ [] ∧ r.ts.length ≤ 100 ∧ (∀ x ∈ r.ts, x ∈ rootsOf rs) ∧ r.ts.Nodup
theorem nodup_take {α : Type} {xs : List α} {j : Nat} {x : α} (h : xs.Nodup) (e : xs[j]? = some x) : x ∉ xs.take j := fun hm => by
  have s : (xs.take (j + 1)).Nodup := h.sublist (List.take_sublist _ _)
  rw [List.take_add_one, e] at s
  exact (List.nodup_append.mp s).2.2 x hm x (List.mem_singleton.mpr rfl) rfl
theorem inV_str {z : Str} {xs : List V} (h : inV (.str z) xs = true) : V.str z ∈ xs := by
  obtain ⟨y, hy, e⟩ := List.any_eq_true.mp h
  cases y with
  | str y =>
    have : (y == z) = true := e
    rw [← eq_of_beq this]
    exact hy
  | _ => cases e
theorem nd_str {xs : List Str} (h : xs.Nodup) : (xs.map V.str).Nodup := by
  refine List.Pairwise.map _ (fun a b n e => n ?_) h
  injection e
theorem once_none {xs : List Str} (h : xs.Nodup) : firstTwice (xs.map V.str) 0 (xs.map V.str) = none := by
  have hd := nd_str h
  rw [twice_drop (i := (xs.map V.str).length) (Nat.le_refl _) (fun j _ x e => ?_), List.drop_length]
  · rfl
  · refine Bool.eq_false_iff.mpr fun q => ?_
    obtain ⟨z, _, rfl⟩ := List.mem_map.mp (List.mem_of_getElem? e)
    exact nodup_take hd e (inV_str q)
theorem good_none : ∀ {ds : List PyData}, (∀ d ∈ ds, nmD d = true) → firstBad ds = none
  | [], _ => rfl
  | d :: r, h => by
    show (if nmD d = true then (firstBad r).map (· + 1) else some 0) = none
    rw [if_pos (h d List.mem_cons_self), good_none fun x hx => h x (List.mem_cons_of_mem _ hx)]
    rfl
namespace DrawnOk
variable {s t l zs : List Str} {rs : List FRow}
theorem all (D : DrawnOk s t l zs rs) : allNames (s.map V.str) (t.map V.str) (l.map V.str) rs = (s ++ (t ++ (l ++ zs))).map V.str := by
  show s.map V.str ++ (t.map V.str ++ (l.map V.str ++ rs.map FRow.n)) = _
  rw [D.nr, List.map_append, List.map_append, List.map_append]
theorem twice (D : DrawnOk s t l zs rs) : firstTwice (allNames (s.map V.str) (t.map V.str) (l.map V.str) rs) 0 (allNames (s.map V.str) (t.map V.str) (l.map V.str) rs) = none := by
  rw [D.all]
  exact once_none D.nd
theorem bad (D : DrawnOk s t l zs rs) : firstBad ((s ++ (t ++ (l ++ zs))).map PyData.str) = none := good_none fun d hd => by
  obtain ⟨z, hz, rfl⟩ := List.mem_map.mp hd
  exact D.nm z hz
theorem text (D : DrawnOk s t l zs rs) : ∀ x ∈ rootsOf rs, ∃ z, x = .str z ∧ (z = "mix" ∨ nmS z = true) := fun x hx => by
  rcases List.mem_cons.mp hx with rfl | hx
  · exact ⟨_, rfl, .inl rfl⟩
  · rw [D.nr] at hx
    obtain ⟨z, hz, rfl⟩ := List.mem_map.mp hx
    exact ⟨z, rfl, .inr (D.nm z (List.mem_append.mpr (.inr (List.mem_append.mpr (.inr (List.mem_append.mpr (.inr hz)))))))⟩
theorem takes (D : DrawnOk s t l zs rs) : takesErr (rootsOf rs) rs = none := by
  rw [takes_drop (i := rs.length) (fun r hr => ?_), List.drop_length]
  · rfl
  rw [List.take_length] at hr
  obtain ⟨_, _, _, _, _, hin, hnd⟩ := D.row r hr
  rw [take_drop (i := r.ts.length) (Nat.le_refl _) (fun j x _ e => ?_), List.drop_length]
  · rfl
  have hx := hin x (List.mem_of_getElem? e)
  obtain ⟨z, rfl, _⟩ := D.text x hx
  refine ⟨inV_mem hx, Bool.eq_false_iff.mpr fun q => nodup_take hnd e (inV_str q)⟩
theorem flat (D : DrawnOk s t l zs rs) : ∀ x ∈ rootsOf rs, FlatSh x := fun x hx => by
  obtain ⟨z, rfl, h | h⟩ := D.text x hx
  · subst h
    exact .inr ⟨_, rfl, ⟨by decide +kernel, by decide +kernel⟩, by decide +kernel⟩
  · exact .inr ⟨z, rfl, nm_sh h, (name_short h).1⟩
theorem rows (D : DrawnOk s t l zs rs) : RowsOk rs :=
  ⟨by have := D.lr.2; omega, fun r hr => by
    have : r.n ∈ rs.map FRow.n := List.mem_map.mpr ⟨r, hr, rfl⟩
    rw [D.nr] at this
    obtain ⟨z, _, e⟩ := List.mem_map.mp this
    exact ⟨z, e.symm⟩, fun r hr => ⟨fun x hx => D.flat x ((D.row r hr).2.2.2.2.2.1 x hx), (D.row r hr).2.2.2.2.1⟩⟩
end DrawnOk
end K02

/-! k02, part S: a drawn stock's rows as data; what Stock is handed for it. -/
namespace K02
open PySem L2 PySem.Spec PyProof.Rows
def rowDL (r : FRow) : PyData := .tuple [dV r.n, .int r.lo, .int r.hi, .list (r.ts.map dV)]
theorem flat_rps {H : Hp} : ∀ {xs : List V}, (∀ x ∈ xs, FlatSh x) → Rps H xs (xs.map dV)
  | [], _ => .nil
  | x :: xs, h => .cons (h x List.mem_cons_self).rp (flat_rps fun y hy => h y (List.mem_cons_of_mem _ hy))
theorem RowsL.rps {H : Hp} : ∀ {vs : List V} {rs : List FRow}, RowsL H vs rs → (∀ r ∈ rs, FlatSh r.n ∧ ∀ x ∈ r.ts, FlatSh x) → Rps H vs (rs.map rowDL)
  | _, _, .nil, _ => .nil
  | _, _, @RowsL.cons _ q t r vs rs e1 e2 c, h => by
    obtain ⟨h1, h2⟩ := h r List.mem_cons_self
    exact .cons (.tup e1 (.cons h1.rp (.cons (.int _) (.cons (.int _) (.cons (.lst e2 (flat_rps h2)) .nil))))) (RowsL.rps c fun x hx => h x (List.mem_cons_of_mem _ hx))
theorem RowsL.toV {H : Hp} : ∀ {vs : List V} {rs : List FRow}, RowsL H vs rs → RowsV H vs rs
  | _, _, .nil => .nil
  | _, _, .cons e1 e2 c => .cons ⟨_, _, rfl, .inr e1, .inl e2⟩ (RowsL.toV c)
theorem listD_of {d : PyData} {lo hi : Int} (h : dL d = true) (h1 : lo ≤ (lenD d : Int)) (h2 : (lenD d : Int) ≤ hi) : listD lo hi d = true := by
  unfold listD
  rw [h, decide_eq_true h1, decide_eq_true h2]
  rfl
theorem DrawnOk.parts {s t l zs : List Str} {rs : List FRow} (D : DrawnOk s t l zs rs) {d1 d2 d3 : PyData} (e1 : dL d1 = true) (l1 : lenD d1 = s.length) (e2 : dL d2 = true) (l2 : lenD d2 = t.length) (e3 : dL d3 = true) (l3 : lenD d3 = l.length) :
    partsErr d1 d2 d3 (.list (rs.map rowDL)) = none := by
  have g : goodP d1 d2 d3 (.list (rs.map rowDL)) 4 := by
    have := D.ls; have := D.lt; have := D.ll; have := D.lr
    refine ⟨fun _ => listD_of e1 (by omega) (by omega), fun _ => listD_of e2 (by omega) (by omega), fun _ => listD_of e3 (by omega) (by omega), fun _ => listD_of rfl ?_ ?_⟩
    · show (1 : Int) ≤ ((rs.map rowDL).length : Int)
      rw [List.length_map]; omega
    · show ((rs.map rowDL).length : Int) ≤ 6
      rw [List.length_map]; omega
  rw [g.all, if_neg]
  show ¬ (rs.map rowDL).all rowD = false
  rw [Bool.not_eq_false, List.all_eq_true]
  intro d hd
  obtain ⟨r, hr, rfl⟩ := List.mem_map.mp hd
  obtain ⟨h1, h2, h3, h4, _⟩ := D.row r hr
  have pos : 0 < (r.ts.map dV).length := by rw [List.length_map]; exact List.length_pos_iff.mpr h4
  have e : rowD (rowDL r) = (decide (1 ≤ r.lo) && (decide (r.lo ≤ r.hi) && (decide (r.hi ≤ 4) && (true && decide (0 < (r.ts.map dV).length))))) := rfl
  rw [e, decide_eq_true h1, decide_eq_true h2, decide_eq_true h3, decide_eq_true pos]
  rfl
end K02

/-! k02, part T: the law's drawn stock; a Stock of it. -/
namespace K02
open PySem L2 PySem.Spec PyProof.Rows K02T
abbrev sStockOf : Stmt := top 37
/-- a drawn share: two words, two small numbers -/
def ShD (d : PyData) : Prop := ∃ o u x y, d = .tuple [.str o, .str u, .int x, .int y] ∧ Sh o ∧ Sh u ∧ (0 ≤ x ∧ x ≤ 100) ∧ (0 ≤ y ∧ y ≤ 100)
/-- the law's own dict of a drawn stock -/
structure Drawn (H : Hp) (A : Addr) (s t l zs : List Str) (rs : List FRow) : Prop where
  ex : ∃ S1 S2 S3 F S4 xs shs shd, H A = some (.dK [(Sum.inr "stuffs", .ref S1), (Sum.inr "states", .ref S2), (Sum.inr "forms", .ref F), (Sum.inr "lands", .ref S3), (Sum.inr "shares", .ref S4)]) ∧
    H S1 = some (.lst (s.map V.str)) ∧ H S2 = some (.lst (t.map V.str)) ∧ H S3 = some (.lst (l.map V.str)) ∧ H F = some (.lst xs) ∧ RowsL H xs rs ∧ H S4 = some (.lst shs) ∧ Rps H shs shd ∧ (∀ d ∈ shd, ShD d) ∧ shd.length ≤ 3
  ok : DrawnOk s t l zs rs
  sh : ∀ z ∈ s ++ (t ++ (l ++ zs)), z.length ≤ 11
  few : s.length ≤ 3 ∧ t.length ≤ 3 ∧ l.length ≤ 3 ∧ rs.length ≤ 5
  tsl : ∀ r ∈ rs, r.ts.length ≤ 20
theorem strs_rps {H : Hp} : ∀ {zs : List Str}, (∀ z ∈ zs, Sh z) → Rps H (zs.map V.str) (zs.map PyData.str)
  | [], _ => .nil
  | z :: zs, h => .cons (.str z (h z List.mem_cons_self)) (strs_rps fun x hx => h x (List.mem_cons_of_mem _ hx))
def spStockOf (CS : Addr) : Sp := fun vs H Q _ => ∃ A s t l zs rs, vs = [.ref A] ∧ Drawn H A s t l zs rs ∧ ∀ x H', Same H H' → StkF H' CS x (s.map V.str) (t.map V.str) (l.map V.str) rs → Q (.ref x) H'
section
variable {P : Program} {w : World} {K : PySem.W.Frag} {mg : Str → Option Value} {base : Heap}
theorem scStockOf : FnScope ["_law_stock_here"] ["_law_stock_here"] (defScope sStockOf) := ⟨rfl, rfl, rfl, by decide +kernel, rfl, by decide +kernel, by decide +kernel⟩
/-- a stock is made of what was drawn -/
theorem mk_stock {CS CB CN CT CU : Addr} {v1 v2 v3 v4 : V} {s t l zs : List Str} {rs : List FRow} {H : Hp} {R : VK} {E : XK} {x dx : Addr} {xs : List V} (D : DrawnOk s t l zs rs) (i1 : ∃ a, v1 = .ref a ∧ SqD H a (s.map V.str)) (i2 : ∃ a, v2 = .ref a ∧ SqD H a (t.map V.str)) (i3 : ∃ a, v3 = .ref a ∧ SqD H a (l.map V.str))
    {d4 : PyData} (i4 : ∃ a, v4 = .ref a ∧ H a = some (.lst xs)) (r4 : Rp H v4 d4) (e4 : ∀ {d1 d2 d3 : PyData}, dL d1 = true → lenD d1 = s.length → dL d2 = true → lenD d2 = t.length → dL d3 = true → lenD d3 = l.length → partsErr d1 d2 d3 d4 = none)
    (rows : RowsV H xs rs) (nx : H x = none) (ndx : H dx = none) (nex : dx ≠ x) (k : ∀ H', Same H H' → StkF H' CS x (s.map V.str) (t.map V.str) (l.map V.str) rs → R .non H') :
    spSInit CS CB CN CT CU [.ref x, v1, v2, v3, v4] (upd (upd H dx (.own x)) x (.ins CS dx [])) R E := by
  have s1 := same_new (o := .own x) (Same.rfl' (H := H)) ndx
  have nx1 : upd H dx (.own x) x = none := by rw [upd_ne (Ne.symm nex)]; exact nx
  have s2 := same_new (o := .ins CS dx []) s1 nx1
  have shs : ∀ z ∈ s ++ (t ++ (l ++ zs)), Sh z := fun z hz => nm_sh (D.nm z hz)
  have rp : ∀ {v : V} {ys : List Str}, (∀ z ∈ ys, Sh z) → (∃ a, v = .ref a ∧ SqD H a (ys.map V.str)) → ∃ d, Rp H v d ∧ dL d = true ∧ lenD d = ys.length := fun {v ys} hs ⟨a, e, h⟩ => by
    subst e
    rcases h with h | h
    · exact ⟨_, .lst h (strs_rps hs), rfl, List.length_map ..⟩
    · exact ⟨_, .tup h (strs_rps hs), rfl, List.length_map ..⟩
  obtain ⟨d1, q1, a1, b1⟩ := rp (fun z hz => shs z (List.mem_append.mpr (.inl hz))) i1
  obtain ⟨d2, q2, a2, b2⟩ := rp (fun z hz => shs z (List.mem_append.mpr (.inr (List.mem_append.mpr (.inl hz))))) i2
  obtain ⟨d3, q3, a3, b3⟩ := rp (fun z hz => shs z (List.mem_append.mpr (.inr (List.mem_append.mpr (.inr (List.mem_append.mpr (.inl hz))))))) i3
  have rps : Rps H (allNames (s.map V.str) (t.map V.str) (l.map V.str) rs) ((s ++ (t ++ (l ++ zs))).map PyData.str) := by
    rw [D.all]
    exact strs_rps shs
  have rl : rs.length = zs.length := by have := congrArg List.length D.nr; rwa [List.length_map, List.length_map] at this
  have T : Told H v1 v2 v3 v4 (s.map V.str) (t.map V.str) (l.map V.str) xs ((s ++ (t ++ (l ++ zs))).map PyData.str) rs := by
    refine ⟨i1, i2, i3, i4, rows, rps, fun d hd => ?_, fun r hr => ⟨fun y hy => D.flat y ((D.row r hr).2.2.2.2.2.1 y hy), (D.row r hr).2.2.2.2.1⟩, ?_⟩
    · obtain ⟨z, hz, rfl⟩ := List.mem_map.mp hd
      exact .inl (name_short (D.nm z hz)).1
    · have := D.ls; have := D.lt; have := D.ll; have := D.lr
      rw [List.length_map, List.length_append, List.length_append, List.length_append]
      omega
  refine ⟨x, dx, v1, v2, v3, v4, d1, d2, d3, d4, rfl, upd_same, q1.mono (Sq.of s2), q2.mono (Sq.of s2), q3.mono (Sq.of s2), r4.mono (Sq.of s2), .inr ⟨e4 a1 b1 a2 b2 a3 b3, _, _, _, xs, _, rs, T.same s2, ?_⟩⟩
  rw [D.bad]
  dsimp only
  rw [D.twice]
  dsimp only
  rw [D.takes]
  exact fun H' kx st => k H' (fun b u e => kx b u (fun z => by rw [z, nx] at e; cases e) (s2 b u e)) st
theorem ok_stockof {f fI CS CB CN CT CU : Addr} {fd fdI : FuncData} (F : Fun K "_law_stock_of" "_law_stock_of" sStockOf f fd) (N : Nms mg)
    (MT : Mk K CS fI) (gS : mg "Stock" = some (.ref CS)) (bI : Binds K fdI ["self", "stuffs", "states", "lands", "forms"] []) (GI : FnOk P w K mg base (L2.CX P w) 6 fI fdI ["self", "stuffs", "states", "lands", "forms"] (spSInit CS CB CN CT CU)) :
    FnOk P w K mg base CX0 8 f fd ["_law_stock_here"] (spStockOf CS) := by
  refine F.ok scStockOf (fun vs H Q E h => ?_) (fun cdv A0 outer s0 H vs Q E hr h => ?_)
  · obtain ⟨A, s, t, l, zs, rs, rfl, _⟩ := h
    rfl
  · obtain ⟨A, s, t, l, zs, rs, rfl, D, k⟩ := h
    have hu := hu_of hr
    refine ⟨_, pss_one (ps_ret (pe_makeS MT GI hr rfl gS bI (fun σ => passAt takes0 σ) (pa_cons (pe_callTy call_list_of (by rfl) N.list (by decide +kernel) (pa_cons (pe_dget hu (pv 0) pe_str (fun _ _ => rfl)) pa_nil)) (pa_cons (pe_callTy call_tupOf (by rfl) N.tuple (by decide +kernel) (pa_cons (pe_dget hu (pv 0) pe_str (fun _ _ => rfl)) pa_nil))
      (pa_cons (pe_callTy call_list_of (by rfl) N.list (by decide +kernel) (pa_cons (pe_dget hu (pv 0) pe_str (fun _ _ => rfl)) pa_nil)) (pa_cons (pe_callTy call_list_of (by rfl) N.list (by decide +kernel) (pa_cons (pe_dget hu (pv 0) pe_str (fun _ _ => rfl)) pa_nil)) pa_nil)))))), ?_⟩
    obtain ⟨S1, S2, S3, Fa, S4, xs, shs, shd, hA, h1, h2, h3, hF, rows, h4, _⟩ := D.ex
    refine ⟨_, rfl, A, .ref S1, rfl, DGet.k (k := Sum.inr "stuffs") hA, S1, _, rfl, .inl (SqL.of h1), fun M1 n1 => ?_⟩
    have s1 := same_new (o := .lst (s.map V.str)) (Same.rfl' (H := H)) n1
    have g1 : upd H M1 (.lst (s.map V.str)) M1 = some (.lst (s.map V.str)) := upd_same
    generalize upd H M1 (.lst (s.map V.str)) = H1 at s1 g1 ⊢
    refine ⟨_, rfl, A, .ref S2, rfl, DGet.k (k := Sum.inr "states") (s1 _ _ hA), S2, _, rfl, .inl ⟨SqL.of (s1 _ _ h2), fun M2 n2 => ?_⟩⟩
    have s2' := same_new (o := .tup (t.map V.str)) (Same.rfl' (H := H1)) n2
    have g2 : upd H1 M2 (.tup (t.map V.str)) M2 = some (.tup (t.map V.str)) := upd_same
    generalize upd H1 M2 (.tup (t.map V.str)) = H2 at s2' g2 ⊢
    have s2 := s1.trans s2'
    refine ⟨_, rfl, A, .ref S3, rfl, DGet.k (k := Sum.inr "lands") (s2 _ _ hA), S3, _, rfl, .inl (SqL.of (s2 _ _ h3)), fun M3 n3 => ?_⟩
    have s3' := same_new (o := .lst (l.map V.str)) (Same.rfl' (H := H2)) n3
    have g3 : upd H2 M3 (.lst (l.map V.str)) M3 = some (.lst (l.map V.str)) := upd_same
    generalize upd H2 M3 (.lst (l.map V.str)) = H3 at s3' g3 ⊢
    have s3 := s2.trans s3'
    refine ⟨_, rfl, A, .ref Fa, rfl, DGet.k (k := Sum.inr "forms") (s3 _ _ hA), Fa, _, rfl, .inl (SqL.of (s3 _ _ hF)), fun M4 n4 => ?_⟩
    have s4' := same_new (o := .lst xs) (Same.rfl' (H := H3)) n4
    have g4 : upd H3 M4 (.lst xs) M4 = some (.lst xs) := upd_same
    generalize upd H3 M4 (.lst xs) = H4 at s4' g4 ⊢
    have s4 := s3.trans s4'
    intro x dx nx ndx nex
    have D' := D.ok
    have rowsN : ∀ r ∈ rs, FlatSh r.n ∧ ∀ y ∈ r.ts, FlatSh y := fun r hr => ⟨D'.flat _ (List.mem_cons_of_mem _ (List.mem_map.mpr ⟨r, hr, rfl⟩)), fun y hy => D'.flat y ((D'.row r hr).2.2.2.2.2.1 y hy)⟩
    exact mk_stock D' ⟨M1, rfl, .inl (s4' _ _ (s3' _ _ (s2' _ _ g1)))⟩ ⟨M2, rfl, .inr (s4' _ _ (s3' _ _ g2))⟩ ⟨M3, rfl, .inl (s4' _ _ g3)⟩ ⟨M4, rfl, g4⟩ (.lst g4 ((rows.same s4).rps rowsN)) (fun e1 l1 e2 l2 e3 l3 => D'.parts e1 l1 e2 l2 e3 l3) (rows.same s4).toV nx ndx nex (fun H' s5 st => ⟨rfl, k x H' (s4.trans s5) st⟩)
end
end K02

/-! k02, part U: _law_stock. -/
namespace K02
open PySem L2 PySem.Spec PyProof.Rows
abbrev sLStock : Stmt := top 36
abbrev stN : List Str := ["_law_bag_here", "_law_most", "_law_many", "_law_names_here", "_law_roots", "_law_forms", "_law_name", "_law_high", "_law_takes", "_law_stock_here", "_law_k", "_law_told"]
/-- rows that are being made: the list of rows at Fm, the bag at b -/
inductive RowsX (H : Hp) (b Fm : Addr) : List V → List FRow → Prop
  | nil : RowsX H b Fm [] []
  | cons {q t : Addr} {r : FRow} {vs : List V} {rs : List FRow} : H q = some (.tup [r.n, .int r.lo, .int r.hi, .ref t]) → H t = some (.lst r.ts) → q ≠ b → q ≠ Fm → t ≠ b → t ≠ Fm → RowsX H b Fm vs rs → RowsX H b Fm (.ref q :: vs) (r :: rs)
theorem RowsX.mono {H H' : Hp} {b Fm : Addr} (k : ∀ c u, H c = some u → c ≠ b → c ≠ Fm → H' c = some u) : ∀ {vs : List V} {rs : List FRow}, RowsX H b Fm vs rs → RowsX H' b Fm vs rs
  | _, _, .nil => .nil
  | _, _, .cons e1 e2 a1 a2 a3 a4 c => .cons (k _ _ e1 a1 a2) (k _ _ e2 a3 a4) a1 a2 a3 a4 (RowsX.mono k c)
theorem RowsX.toL {H : Hp} {b Fm : Addr} : ∀ {vs : List V} {rs : List FRow}, RowsX H b Fm vs rs → RowsL H vs rs
  | _, _, .nil => .nil
  | _, _, .cons e1 e2 _ _ _ _ c => .cons e1 e2 (RowsX.toL c)
theorem RowsX.snoc {H : Hp} {b Fm q t : Addr} {r : FRow} (e1 : H q = some (.tup [r.n, .int r.lo, .int r.hi, .ref t])) (e2 : H t = some (.lst r.ts)) (a1 : q ≠ b) (a2 : q ≠ Fm) (a3 : t ≠ b) (a4 : t ≠ Fm) : ∀ {vs : List V} {rs : List FRow}, RowsX H b Fm vs rs → RowsX H b Fm (vs ++ [.ref q]) (rs ++ [r])
  | _, _, .nil => .cons e1 e2 a1 a2 a3 a4 .nil
  | _, _, .cons x1 x2 x3 x4 x5 x6 c => .cons x1 x2 x3 x4 x5 x6 (RowsX.snoc e1 e2 a1 a2 a3 a4 c)
/-- what a drawn row is -/
structure RowP (rt : List V) (r : FRow) : Prop where
  lo : 1 ≤ r.lo
  hi : r.lo ≤ r.hi
  top : r.hi ≤ 4
  ne : r.ts ≠ []
  few : r.ts.length ≤ 20
  sub : ∀ x ∈ r.ts, x ∈ rt
  nd : r.ts.Nodup
/-- all but the bag and the rows being made stands -/
def Kp (b Fm : Addr) (G G' : Hp) : Prop := ∀ c u, G c = some u → c ≠ b → c ≠ Fm → G' c = some u
theorem Kp.refl (b Fm : Addr) (G : Hp) : Kp b Fm G G := fun _ _ e _ _ => e
theorem Kp.trans {b Fm : Addr} {G G1 G2 : Hp} (x : Kp b Fm G G1) (y : Kp b Fm G1 G2) : Kp b Fm G G2 := fun c u e n m => y c u (x c u e n m) n m
theorem Kp.but {b Fm : Addr} {G G' : Hp} (x : But b G G') : Kp b Fm G G' := fun c u e n _ => x c u e n
theorem Kp.new {b Fm p : Addr} {G G' : Hp} {o : HO} (x : Kp b Fm G G') (n : G' p = none) : Kp b Fm G (upd G' p o) := fun c u e nb nf => by rw [upd_ne (ne_of_none (x c u e nb nf) n)]; exact x c u e nb nf
theorem Kp.rows {b Fm : Addr} {G G' : Hp} {o : HO} (x : Kp b Fm G G') : Kp b Fm G (upd G' Fm o) := fun c u e nb nf => by rw [upd_ne nf]; exact x c u e nb nf
theorem putK_new {kvs : List (Key × V)} {k : Key} {v : V} (h : ∀ p ∈ kvs, p.1 ≠ k) : putK kvs k v = kvs ++ [(k, v)] := by
  unfold putK
  rw [if_neg]
  intro q
  obtain ⟨p, hp, e⟩ := List.any_eq_true.mp q
  exact h p hp (of_decide_eq_true e)
theorem keys_new {k : Key} : ∀ {kvs : List (Key × V)}, (∀ j ∈ kvs.map (·.1), j ≠ k) → ∀ p ∈ kvs, p.1 ≠ k := fun {kvs} h p hp => h p.1 (List.mem_map.mpr ⟨p, hp, rfl⟩)
theorem lands_new : ∀ j ∈ ([Sum.inr ("stuffs" : Str), Sum.inr ("states" : Str), Sum.inr ("forms" : Str)] : List Key), j ≠ (Sum.inr ("lands" : Str) : Key) := by decide +kernel
theorem shares_new : ∀ j ∈ ([Sum.inr ("stuffs" : Str), Sum.inr ("states" : Str), Sum.inr ("forms" : Str), Sum.inr ("lands" : Str)] : List Key), j ≠ (Sum.inr ("shares" : Str) : Key) := by decide +kernel
/-- shares: a word, a name, two numbers each -/
def ShX (G : Hp) (b S4 : Addr) (shs : List V) : Prop := ∀ v ∈ shs, ∃ q o u x y, v = .ref q ∧ G q = some (.tup [.str o, .str u, .int x, .int y]) ∧ q ≠ b ∧ q ≠ S4 ∧ Sh o ∧ Sh u ∧ (0 ≤ x ∧ x ≤ 100) ∧ (0 ≤ y ∧ y ≤ 100)
theorem ShX.mono {G G' : Hp} {b S4 : Addr} {shs : List V} (k : Kp b S4 G G') (h : ShX G b S4 shs) : ShX G' b S4 shs := fun v hv => by
  obtain ⟨q, o, u, x, y, e, g, n1, n2, s1⟩ := h v hv
  exact ⟨q, o, u, x, y, e, k _ _ g n1 n2, n1, n2, s1⟩
theorem ShX.rps {G : Hp} {b S4 : Addr} : ∀ {shs : List V}, ShX G b S4 shs → ∃ shd, Rps G shs shd ∧ ∀ d ∈ shd, ShD d
  | [], _ => ⟨[], .nil, fun d hd => by cases hd⟩
  | v :: shs, h => by
    obtain ⟨q, o, u, x, y, rfl, g, _, _, s1, s2, b1, b2⟩ := h v List.mem_cons_self
    obtain ⟨shd, r, k⟩ := ShX.rps (shs := shs) fun z hz => h z (List.mem_cons_of_mem _ hz)
    refine ⟨_, .cons (.tup g (.cons (.str o s1) (.cons (.str u s2) (.cons (.int x) (.cons (.int y) .nil))))) r, fun d hd => ?_⟩
    rcases List.mem_cons.mp hd with rfl | hd
    · exact ⟨o, u, x, y, rfl, s1, s2, b1, b2⟩
    · exact k d hd
theorem cutV_lo {xs : List V} {n : Nat} (h : n ≤ xs.length) : cutV xs none (some (n : Int)) = xs.take n := by
  unfold cutV
  rw [HT.sIx_nat, HT.sIx_none, Nat.min_eq_left h, List.drop_zero, Nat.sub_zero]
theorem cutV_hi {xs : List V} {n : Nat} (h : n ≤ xs.length) : cutV xs (some (n : Int)) none = xs.drop n := by
  unfold cutV
  rw [HT.sIx_nat, HT.sIx_none, Nat.min_eq_left h]
  exact List.take_of_length_le (by rw [List.length_drop]; exact Nat.le_refl _)
theorem cutV_mid {xs : List V} {m n : Nat} (h : n ≤ xs.length) (hm : m ≤ n) : cutV xs (some (m : Int)) (some (n : Int)) = (xs.drop m).take (n - m) := by
  unfold cutV
  rw [HT.sIx_nat, HT.sIx_nat, Nat.min_eq_left h, Nat.min_eq_left (Nat.le_trans hm h)]
def spLStock : Sp := fun vs H Q _ => ∃ b l, vs = [.ref b, .int 4] ∧ BagL H b l ∧ ∀ A s t ln zs rs H', Dr b l H H' → Drawn H' A s t ln zs rs → Q (.ref A) H'
section
variable {P : Program} {w : World} {K : PySem.W.Frag} {mg : Str → Option Value} {base : Heap}
theorem scLStock : FnScope stN ["_law_bag_here", "_law_most"] (defScope sLStock) := ⟨rfl, rfl, rfl, by decide +kernel, rfl, by decide +kernel, by decide +kernel⟩
theorem ok_lstock {f fp fo fc fs fh fn : Addr} {fd fdp fdo fdc fds fdh fdn : FuncData} (F : Fun K "_law_stock" "_law_stock" sLStock f fd) (N : Nms mg) (hsum : mg "sum" = none) (DP : Df K mg "_law_pick" sPick ["_law_bag_here", "_law_many"] fp fdp) (GP : FnOk P w K mg base CX0 1 fp fdp ["_law_bag_here", "_law_many"] spPick)
    (DO : Df K mg "_law_one_in" sOneIn ["_law_bag_here", "_law_many"] fo fdo) (GO : FnOk P w K mg base CX0 2 fo fdo ["_law_bag_here", "_law_many"] spOneIn) (DC : Df K mg "_law_choice" sChoice ["_law_bag_here", "_law_things"] fc fdc) (GC : FnOk P w K mg base CX0 2 fc fdc ["_law_bag_here", "_law_things"] (spChoice K))
    (DS : Df K mg "_law_some" sSome ["_law_bag_here", "_law_things"] fs fds) (GS : FnOk P w K mg base CX0 2 fs fds ["_law_bag_here", "_law_things"] spSome) (DH : Df K mg "_law_shuffled" sShuf ["_law_bag_here", "_law_things"] fh fdh) (GH : FnOk P w K mg base CX0 2 fh fdh ["_law_bag_here", "_law_things"] spShuf)
    (DN : Df K mg "_law_names" sNames ["_law_bag_here", "_law_many"] fn fdn) (GN : FnOk P w K mg base CX0 3 fn fdn ["_law_bag_here", "_law_many"] spNames) :
    FnOk P w K mg base CX0 4 f fd ["_law_bag_here", "_law_most"] spLStock := by
  refine F.ok scLStock (fun vs H Q E h => ?_) (fun cdv A0 outer s0 H vs Q E hr h => ?_)
  · obtain ⟨b, l, rfl, _⟩ := h
    rfl
  · obtain ⟨b, l, rfl, B, k⟩ := h
    have nd := scLStock.nd
    have hu := hu_of hr
    have r1 := hr.mono (show 1 ≤ 3 by decide)
    have r2 := hr.mono (show 2 ≤ 3 by decide)
    refine ⟨_, pss_cons (ps_set (i := 2) nd rfl (Or.inl rfl) (pe_lst (pa_cons (pe_op op_add pe_int (pe_call GP r1 rfl DP.g DP.F.kp DP.b .nil pass0 (pa_cons (pv 0) (pa_cons pe_int pa_nil)))) (pa_cons (pe_op op_add pe_int (pe_call GP r1 rfl DP.g DP.F.kp DP.b .nil pass0 (pa_cons (pv 0) (pa_cons pe_int pa_nil))))
          (pa_cons (pe_op op_add pe_int (pe_call GP r1 rfl DP.g DP.F.kp DP.b .nil pass0 (pa_cons (pv 0) (pa_cons pe_int pa_nil)))) pa_nil)))))
      (C8.pss_cut (ps_if (pt_val (pe_call GO r2 rfl DO.g DO.F.kp DO.b .nil pass0 (pa_cons (pv 0) (pa_cons pe_int pa_nil)))) (pss_one (ps_asg pe_int (pg_sub (pv 2) (pe_call GP r1 rfl DP.g DP.F.kp DP.b .nil pass0 (pa_cons (pv 0) (pa_cons pe_int pa_nil))) set_list))) pss_nil)
      (pss_cons (ps_set (i := 3) nd rfl (Or.inl rfl) (pe_call GN hr rfl DN.g DN.F.kp DN.b .nil pass0 (pa_cons (pv 0) (pa_cons (pe_op op_add (pe_op op_add (pe_callB (cr_sum rfl) (by rfl) hsum (by decide +kernel) (pa_cons (pv 2) pa_nil)) pe_int) (pe_call GP r1 rfl DP.g DP.F.kp DP.b .nil pass0 (pa_cons (pv 0) (pa_cons pe_int pa_nil)))) pa_nil))))
      (pss_cons (ps_set (i := 4) nd rfl (Or.inl rfl) (pe_op op_cat (pe_lst (pa_cons pe_str pa_nil)) (pe_slice sl_list (pv 3) (po_some (pe_callB (cr_sum rfl) (by rfl) hsum (by decide +kernel) (pa_cons (pv 2) pa_nil))) po_none)))
      (pss_cons (ps_set (i := 5) nd rfl (Or.inl rfl) (pe_lst pa_nil))
      (pss_cons (ps_for PassesOwn.never rfl (pi_list (pe_slice sl_list (pv 4) (po_some pe_int) po_none)) (pg_name (i := 6) nd rfl (Or.inl rfl))
        (pss_cons (ps_set (i := 7) nd rfl (Or.inl rfl) (pe_op op_add pe_int (pe_call GP r1 rfl DP.g DP.F.kp DP.b .nil pass0 (pa_cons (pv 0) (pa_cons pe_int pa_nil)))))
        (C8.pss_cut (ps_if (pt_val (pe_call GO r2 rfl DO.g DO.F.kp DO.b .nil pass0 (pa_cons (pv 0) (pa_cons pe_int pa_nil)))) (pss_one (ps_set (i := 7) nd rfl (Or.inl rfl) (pv 1))) pss_nil)
        (pss_cons (ps_set (i := 8) nd rfl (Or.inl rfl) (pe_call GS r2 rfl DS.g DS.F.kp DS.b .nil pass0 (pa_cons (pv 0) (pa_cons (pv 4) pa_nil))))
        (C8.pss_cut (ps_if (PW.pt (pw_and (pt_cmpR op_notIn_seq pe_str (pv 8) rfl) (pw_and1 (pt_not (pt_val (pe_call GO r2 rfl DO.g DO.F.kp DO.b .nil pass0 (pa_cons (pv 0) (pa_cons pe_int pa_nil)))))))) (pss_one (ps_set (i := 8) nd rfl (Or.inl rfl) (pe_op op_cat (pv 8) (pe_lst (pa_cons pe_str pa_nil))))) pss_nil)
        (C8.pss_cut (ps_if (pt_cmpR (op_eqD hr.units) (pv 8) (pe_lst pa_nil) (nomark _)) (pss_one (ps_set (i := 8) nd rfl (Or.inl rfl) (pe_lst (pa_cons (pe_call GC r2 rfl DC.g DC.F.kp DC.b .nil pass0 (pa_cons (pv 0) (pa_cons (pv 4) pa_nil))) pa_nil)))) pss_nil)
        (pss_one (ps_expr (pe_bm PySem.F.plainAttrs_list PySem.F.slot_list_append PySem.F.type_list_append mt_append (pv 5) (pa_cons (pe_tup (pa_cons (pv 6) (pa_cons (pe_op op_add pe_int (pe_call GP r1 rfl DP.g DP.F.kp DP.b .nil pass0 (pa_cons (pv 0) (pa_cons (pv 7) pa_nil)))) (pa_cons (pv 7)
          (pa_cons (pe_call GH r2 rfl DH.g DH.F.kp DH.b .nil pass0 (pa_cons (pv 0) (pa_cons (pv 8) pa_nil))) pa_nil))))) pa_nil))))))))))
      (pss_cons (ps_set (i := 9) nd rfl (Or.inl rfl) (pe_disp (pps_cons pe_str (pe_slice sl_list (pv 3) po_none (po_some (pe_ix ix_list (pv 2) pe_int (fun _ _ => rfl)))) (pps_cons pe_str (pe_slice sl_list (pv 3) (po_some (pe_ix ix_list (pv 2) pe_int (fun _ _ => rfl))) (po_some (pe_op op_add (pe_ix ix_list (pv 2) pe_int (fun _ _ => rfl)) (pe_ix ix_list (pv 2) pe_int (fun _ _ => rfl)))))
          (pps_cons pe_str (pv 5) pps_nil))) rfl rfl (by simp) (by decide)))
      (pss_cons (ps_dput hu (pv 9) pe_str (pe_slice sl_list (pv 3) (po_some (pe_op op_add (pe_ix ix_list (pv 2) pe_int (fun _ _ => rfl)) (pe_ix ix_list (pv 2) pe_int (fun _ _ => rfl)))) (po_some (pe_callB (cr_sum rfl) (by rfl) hsum (by decide +kernel) (pa_cons (pv 2) pa_nil)))) rfl)
      (pss_cons (ps_dput hu (pv 9) pe_str (pe_lst pa_nil) rfl)
      (pss_cons (ps_for PassesOwn.never rfl (pi_range1 rfl N.range (pa_cons (pe_op op_add pe_int (pe_call GP r1 rfl DP.g DP.F.kp DP.b .nil pass0 (pa_cons (pv 0) (pa_cons pe_int pa_nil)))) pa_nil)) (pg_name (i := 10) nd rfl (Or.inl rfl))
        (pss_cons (ps_set (i := 11) nd rfl (Or.inl rfl) (pe_call GC r2 rfl DC.g DC.F.kp DC.b .nil pass0 (pa_cons (pv 0) (pa_cons (pe_lst (pa_cons (pe_tup (pa_cons pe_int (pa_cons pe_int pa_nil))) (pa_cons (pe_tup (pa_cons pe_int (pa_cons pe_int pa_nil))) (pa_cons (pe_tup (pa_cons pe_int (pa_cons pe_int pa_nil))) (pa_cons (pe_tup (pa_cons pe_int (pa_cons pe_int pa_nil)))
            (pa_cons (pe_tup (pa_cons pe_int (pa_cons pe_int pa_nil))) (pa_cons (pe_tup (pa_cons pe_int (pa_cons pe_int pa_nil))) (pa_cons (pe_tup (pa_cons pe_int (pa_cons pe_int pa_nil))) (pa_cons (pe_tup (pa_cons pe_int (pa_cons pe_int pa_nil))) (pa_cons (pe_tup (pa_cons pe_int (pa_cons pe_int pa_nil))) (pa_cons (pe_tup (pa_cons pe_int (pa_cons pe_int pa_nil))) pa_nil))))))))))) pa_nil))))
        (pss_one (ps_expr (pe_bm PySem.F.plainAttrs_list PySem.F.slot_list_append PySem.F.type_list_append mt_append (pe_dget hu (pv 9) pe_str (fun _ _ => rfl)) (pa_cons (pe_op op_catT (pe_tup (pa_cons (pe_call GC r2 rfl DC.g DC.F.kp DC.b .nil pass0 (pa_cons (pv 0) (pa_cons (pe_lst (pa_cons pe_str (pa_cons pe_str pa_nil))) pa_nil)))
            (pa_cons (pe_call GC r2 rfl DC.g DC.F.kp DC.b .nil pass0 (pa_cons (pv 0) (pa_cons (pe_dget hu (pv 9) pe_str (fun _ _ => rfl)) pa_nil))) pa_nil))) (pv 11)) pa_nil))))))
      (pss_one (ps_ret (pv 9)))))))))))), ?_⟩
    refine ⟨_, rfl, b, l, 2, rfl, by decide, by decide, B, fun a1 H1 x1 y1 B1 t1 _ => ⟨_, _, rfl, rfl, _, rfl, b, l, 2, rfl, by decide, by decide, B1, fun a2 H2 x2 y2 B2 t2 _ => ⟨_, _, rfl, rfl, _, rfl, b, l, 2, rfl, by decide, by decide, B2, fun a3 H3 x3 y3 B3 t3 _ => ⟨_, _, rfl, rfl, by show 3 ≤ sizeLine; decide, fun M nM => ?_⟩⟩⟩⟩
    have d3 : Dr b l H H3 := (Dr.trans ⟨B1, t1⟩ ⟨B2, t2⟩).trans ⟨B3, t3⟩
    have new : ∀ {H' : Hp} {p : Addr}, Dr b l H H' → H' p = none → H p = none ∧ p ≠ b ∧ p ≠ l := fun {H' p} d e => by
      have nb := d.bag.ne_b e
      refine ⟨?_, nb, d.bag.ne_l e⟩
      cases q : H p with
      | none => rfl
      | some o => rw [d.but _ _ q nb] at e; cases e
    obtain ⟨M0, Mb, Ml⟩ := new d3 nM
    refine ⟨fun σ H' => ∃ p1 p2 p3 : Nat, σ = [some (.ref b), some (.int 4), some (.ref M), none, none, none, none, none, none, none, none, none] ∧ H' M = some (.lst [.int p1, .int p2, .int p3]) ∧ (1 ≤ p1 ∧ p1 ≤ 3) ∧ (1 ≤ p2 ∧ p2 ≤ 3) ∧ (1 ≤ p3 ∧ p3 ≤ 3) ∧ Dr b l H H', ?_, ?_⟩
    · have dM := d3.put (o := .lst [(fun i j => V.int (i + j)) 1 a1, (fun i j => V.int (i + j)) 1 a2, (fun i j => V.int (i + j)) 1 a3]) M0 Mb Ml
      obtain ⟨m1, rfl⟩ := Int.eq_ofNat_of_zero_le x1
      obtain ⟨m2, rfl⟩ := Int.eq_ofNat_of_zero_le x2
      obtain ⟨m3, rfl⟩ := Int.eq_ofNat_of_zero_le x3
      have e1 : (1 : Int) + (m1 : Nat) = ((1 + m1 : Nat) : Int) := by omega
      have e2 : (1 : Int) + (m2 : Nat) = ((1 + m2 : Nat) : Int) := by omega
      have e3 : (1 : Int) + (m3 : Nat) = ((1 + m3 : Nat) : Int) := by omega
      have hM4 : upd H3 M (.lst [(fun i j => V.int (i + j)) 1 (m1 : Int), (fun i j => V.int (i + j)) 1 (m2 : Int), (fun i j => V.int (i + j)) 1 (m3 : Int)]) M = some (.lst [.int (1 + m1 : Nat), .int (1 + m2 : Nat), .int (1 + m3 : Nat)]) := by
        rw [← e1, ← e2, ← e3]
        exact upd_same
      refine ⟨_, rfl, b, l, 8, rfl, by decide, by decide, dM.bag, fun r H5 B5 t5 _ => ⟨_, rfl, ?_⟩⟩
      have d5 : Dr b l H H5 := dM.trans ⟨B5, t5⟩
      have hM5 := t5 _ _ hM4 Mb
      cases r with
      | false => exact iteF ⟨_, _, _, rfl, hM5, by omega, by omega, by omega, d5⟩
      | true =>
        refine iteT ⟨_, rfl, _, rfl, b, l, 3, rfl, by decide, by decide, B5, fun j H6 j0 j1 B6 t6 _ => ?_⟩
        obtain ⟨j, rfl⟩ := Int.eq_ofNat_of_zero_le j0
        have hj : j < 3 := by omega
        have hM6 := t6 _ _ hM5 Mb
        refine ⟨M, _, _, j, rfl, rfl, hM6, (by unfold ixN; rw [if_pos (by omega), if_pos (by show ((j : Nat) : Int) < 3; omega)]; rfl), ?_⟩
        have d6 := (d5.trans ⟨B6, t6⟩).put (o := .lst ([V.int (1 + m1 : Nat), .int (1 + m2 : Nat), .int (1 + m3 : Nat)].set j (.int 3))) M0 Mb Ml
        match j, hj with
        | 0, _ => exact ⟨3, _, _, rfl, upd_same, by omega, by omega, by omega, d6⟩
        | 1, _ => exact ⟨_, 3, _, rfl, upd_same, by omega, by omega, by omega, d6⟩
        | 2, _ => exact ⟨_, _, 3, rfl, upd_same, by omega, by omega, by omega, d6⟩
    rintro σ1 H4 ⟨p1, p2, p3, rfl, hM, q1, q2, q3, d4⟩
    have sm : ([(p1 : Int), (p2 : Int), (p3 : Int)] : List Int).sum = ((p1 + p2 + p3 : Nat) : Int) := by
      show (p1 : Int) + ((p2 : Int) + ((p3 : Int) + 0)) = _
      omega
    refine ⟨_, rfl, _, rfl, M, [(p1 : Int), p2, p3], rfl, SqL.of hM, _, _, rfl, rfl, _, rfl, b, l, 3, rfl, by decide, by decide, d4.bag, fun c H5 c0 c1 B5 t5 _ => ?_⟩
    obtain ⟨c, rfl⟩ := Int.eq_ofNat_of_zero_le c0
    have d5 : Dr b l H H5 := d4.trans ⟨B5, t5⟩
    have hM5 := t5 _ _ hM Mb
    have im : ([(p1 : Int), (p2 : Int), (p3 : Int)] : List Int).sum + 1 + (c : Int) = ((p1 + p2 + p3 + 1 + c : Nat) : Int) := by rw [sm]; omega
    refine ⟨_, _, rfl, rfl, b, l, p1 + p2 + p3 + 1 + c, ?_, by omega, B5, fun Nm zs H6 d6' nN nNb nNl hN ln okw ndz => ?_⟩
    · rw [← im]; rfl
    have okz : ∀ z ∈ zs, nmS z = true := fun z hz => (okw z hz).1
    have d6 : Dr b l H H6 := d5.trans d6'
    obtain ⟨N0, Nb, Nl⟩ := new d5 nN
    have hM6 := d6'.but _ _ hM5 Mb
    have lnv : (zs.map V.str).length = p1 + p2 + p3 + 1 + c := by rw [List.length_map, ln]
    refine ⟨by decide, fun X1 nX1 => ?_⟩
    obtain ⟨X10, X1b, X1l⟩ := new d6 nX1
    have d7 := d6.put (o := .lst [.str "mix"]) X10 X1b X1l
    have g1 : upd H6 X1 (.lst [.str "mix"]) X1 = some (.lst [.str "mix"]) := upd_same
    have hN7 : upd H6 X1 (.lst [.str "mix"]) Nm = some (.lst (zs.map V.str)) := by rw [upd_ne (ne_of_none hN nX1)]; exact hN
    have hM7 : upd H6 X1 (.lst [.str "mix"]) M = some (.lst [.int p1, .int p2, .int p3]) := by rw [upd_ne (ne_of_none hM6 nX1)]; exact hM6
    generalize upd H6 X1 (.lst [.str "mix"]) = H7 at d7 g1 hN7 hM7 ⊢
    refine ⟨_, rfl, _, rfl, M, [(p1 : Int), p2, p3], rfl, SqL.of hM7, _, rfl, Nm, _, rfl, SqL.of hN7, fun X2 nX2 => ?_⟩
    rw [sm, cutV_hi (by rw [lnv]; omega)]
    obtain ⟨X20, X2b, X2l⟩ := new d7 nX2
    have d8 := d7.put (o := .lst ((zs.map V.str).drop (p1 + p2 + p3))) X20 X2b X2l
    have g2 : upd H7 X2 (.lst ((zs.map V.str).drop (p1 + p2 + p3))) X2 = some (.lst ((zs.map V.str).drop (p1 + p2 + p3))) := upd_same
    have s8 := same_new (o := .lst ((zs.map V.str).drop (p1 + p2 + p3))) (Same.rfl' (H := H7)) nX2
    generalize upd H7 X2 (.lst ((zs.map V.str).drop (p1 + p2 + p3))) = H8 at d8 g2 s8 ⊢
    refine ⟨X1, X2, _, _, rfl, rfl, s8 _ _ g1, g2, ?_, fun Rt nRt => ?_⟩
    · show 1 + ((zs.map V.str).drop (p1 + p2 + p3)).length ≤ sizeLine
      rw [List.length_drop, lnv]
      exact Nat.le_of_lt (small1000 (by omega))
    obtain ⟨Rt0, Rtb, Rtl⟩ := new d8 nRt
    have ed : (zs.map V.str).drop (p1 + p2 + p3) = (zs.drop (p1 + p2 + p3)).map V.str := List.map_drop.symm
    rw [ed]
    have d9 := d8.put (o := .lst ([.str "mix"] ++ (zs.drop (p1 + p2 + p3)).map V.str)) Rt0 Rtb Rtl
    have g3 : upd H8 Rt (.lst ([.str "mix"] ++ (zs.drop (p1 + p2 + p3)).map V.str)) Rt = some (.lst (.str "mix" :: (zs.drop (p1 + p2 + p3)).map V.str)) := upd_same
    have s9 := same_new (o := .lst ([.str "mix"] ++ (zs.drop (p1 + p2 + p3)).map V.str)) (Same.rfl' (H := H8)) nRt
    generalize upd H8 Rt (.lst ([.str "mix"] ++ (zs.drop (p1 + p2 + p3)).map V.str)) = H9 at d9 g3 s9 ⊢
    have hM9 := s9 _ _ (s8 _ _ hM7)
    have hN9 := s9 _ _ (s8 _ _ hN7)
    refine ⟨by decide, fun Fm nFm => ?_⟩
    obtain ⟨Fm0, Fmb, Fml⟩ := new d9 nFm
    have nMF : M ≠ Fm := ne_of_none hM9 nFm
    have nNF : Nm ≠ Fm := ne_of_none hN9 nFm
    have nRF : Rt ≠ Fm := ne_of_none g3 nFm
    have da := d9.put (o := .lst []) Fm0 Fmb Fml
    have sa := same_new (o := .lst []) (Same.rfl' (H := H9)) nFm
    have ga : upd H9 Fm (.lst []) Fm = some (.lst []) := upd_same
    generalize upd H9 Fm (.lst []) = Ha at da sa ga ⊢
    have hMa := sa _ _ hM9
    have hNa := sa _ _ hN9
    have hRa := sa _ _ g3
    generalize hfs : zs.drop (p1 + p2 + p3) = fs at hRa ⊢
    have lfs : fs.length = 1 + c := by rw [← hfs, List.length_drop, ln]; omega
    refine ⟨_, rfl, _, rfl, Rt, _, rfl, SqL.of hRa, fun X3 nX3 => ?_⟩
    have cr : cutV (V.str "mix" :: fs.map V.str) (some 1) none = fs.map V.str := cutV_hi (n := 1) (by show 1 ≤ (fs.map V.str).length + 1; omega)
    rw [cr]
    obtain ⟨X30, X3b, X3l⟩ := new da nX3
    have db := da.put (o := .lst (fs.map V.str)) X30 X3b X3l
    have sb := same_new (o := .lst (fs.map V.str)) (Same.rfl' (H := Ha)) nX3
    have gX3 : upd Ha X3 (.lst (fs.map V.str)) X3 = some (.lst (fs.map V.str)) := upd_same
    generalize upd Ha X3 (.lst (fs.map V.str)) = Hb at db sb gX3 ⊢
    have hMb := sb _ _ hMa
    have hNb := sb _ _ hNa
    have hRb := sb _ _ hRa
    have gb := sb _ _ ga
    have nXF : X3 ≠ Fm := Ne.symm (ne_of_none ga nX3)
    have fsn : fs.Nodup := by rw [← hfs]; exact ndz.sublist (List.drop_sublist _ _)
    have fok : ∀ z ∈ fs, nmS z = true := fun z hz => okz z (List.mem_of_mem_drop (by rw [hfs]; exact hz))
    have rtn : (V.str "mix" :: fs.map V.str).Nodup := by
      refine List.nodup_cons.mpr ⟨fun hm => ?_, nd_str fsn⟩
      obtain ⟨z, hz, e⟩ := List.mem_map.mp hm
      injection e with e
      have := fok z hz
      rw [e] at this
      exact absurd this (by decide +kernel)
    have rtl : (V.str "mix" :: fs.map V.str).length ≤ 10 := by show (fs.map V.str).length + 1 ≤ 10; rw [List.length_map]; omega
    have rtf : ∀ x ∈ V.str "mix" :: fs.map V.str, ∃ z, x = .str z := fun x hx => by
      rcases List.mem_cons.mp hx with rfl | hx
      · exact ⟨_, rfl⟩
      · obtain ⟨z, _, rfl⟩ := List.mem_map.mp hx
        exact ⟨z, rfl⟩
    have rtF : ∀ x ∈ V.str "mix" :: fs.map V.str, FlatSh x := fun x hx => by
      rcases List.mem_cons.mp hx with rfl | hx
      · exact .inr ⟨_, rfl, ⟨by decide +kernel, by decide +kernel⟩, by decide +kernel⟩
      · obtain ⟨z, hz, rfl⟩ := List.mem_map.mp hx
        exact .inr ⟨z, rfl, nm_sh (fok z hz), (name_short (fok z hz)).1⟩
    generalize hrt : V.str "mix" :: fs.map V.str = rt at hRb rtn rtl rtf rtF
    have mixr : V.str "mix" ∈ rt := by rw [← hrt]; exact List.mem_cons_self
    refine ⟨X3, rfl, ⟨_, SqL.of gX3⟩, for_it (walk_list (K := K) (a := X3) (xs := fs.map V.str)) (fun i σ H' => Dr b l H H' ∧ Kp b Fm Hb H' ∧ ∃ xs rs o6 o7 o8, H' Fm = some (.lst xs) ∧ RowsX H' b Fm xs rs ∧ rs.map FRow.n = (fs.take i).map V.str ∧ (∀ r ∈ rs, RowP rt r) ∧
      σ = [some (.ref b), some (.int 4), some (.ref M), some (.ref Nm), some (.ref Rt), some (.ref Fm), o6, o7, o8, none, none, none]) ⟨db, Kp.refl _ _ _, [], [], _, _, _, gb, .nil, rfl, (fun r hr => by cases hr), rfl⟩ (fun i σ H' _ h => SqL.of (h.2.1 _ _ gX3 X3b nXF)) ?_ ?_⟩
    · rintro i y σ2 G1 G2 hi ⟨f1, kp1, xs, rs, o6, o7, o8, hF1, rx1, nr1, pr1, rfl⟩ ⟨rfl, hy⟩
      have lrs : rs.length ≤ 10 := by
        have := congrArg List.length nr1
        rw [List.length_map, List.length_map, List.length_take] at this
        omega
      have lxs : xs.length = rs.length := rx1.toL.len
      have hy' : (fs.map V.str)[i]? = some y := hy
      refine ⟨_, rfl, b, l, 2, rfl, by decide, by decide, f1.bag, fun h G3 h0 h1 B3 t3 _ => ⟨_, _, rfl, rfl, ?_⟩⟩
      obtain ⟨h, rfl⟩ := Int.eq_ofNat_of_zero_le h0
      have e1 : (1 : Int) + (h : Nat) = ((1 + h : Nat) : Int) := by omega
      have f3 := f1.trans ⟨B3, t3⟩
      have kp3 := kp1.trans (Kp.but t3)
      have hF3 := t3 _ _ hF1 Fmb
      have rx3 := rx1.mono (Kp.but (Fm := Fm) t3)
      refine ⟨fun σ G => ∃ hg : Nat, (1 ≤ hg ∧ hg ≤ 4) ∧ σ = [some (.ref b), some (.int 4), some (.ref M), some (.ref Nm), some (.ref Rt), some (.ref Fm), some y, some (.int (hg : Nat)), o8, none, none, none] ∧ Dr b l H G ∧ Kp b Fm Hb G ∧ G Fm = some (.lst xs) ∧ RowsX G b Fm xs rs, ?_, ?_⟩
      · refine ⟨_, rfl, b, l, 6, rfl, by decide, by decide, f3.bag, fun r G4 B4 t4 _ => ⟨_, rfl, ?_⟩⟩
        have f4 := f3.trans ⟨B4, t4⟩
        have kp4 := kp3.trans (Kp.but t4)
        have hF4 := t4 _ _ hF3 Fmb
        have rx4 := rx3.mono (Kp.but (Fm := Fm) t4)
        cases r with
        | false => exact iteF ⟨1 + h, by omega, by rw [← e1]; rfl, f4, kp4, hF4, rx4⟩
        | true => exact iteT ⟨_, rfl, 4, by omega, rfl, f4, kp4, hF4, rx4⟩
      rintro σ3 G4 ⟨hg, hgb, rfl, f4, kp4, hF4, rx4⟩
      have hR4 := kp4 _ _ hRb Rtb nRF
      refine ⟨_, rfl, _, rfl, b, l, Rt, rt, rfl, Rtb, hR4, f4.bag, by omega, fun T ys G5 f5' nT Tb Tl hT sub => ?_⟩
      have f5 := f4.trans f5'
      have TF : T ≠ Fm := Ne.symm (ne_of_none hF4 nT)
      have kp5 := kp4.trans (Kp.but f5'.but)
      have hF5 := f5'.but _ _ hF4 Fmb
      have rx5 := rx4.mono (Kp.but (Fm := Fm) f5'.but)
      refine ⟨fun σ G => ∃ (T : Addr) (ys : List V), σ = [some (.ref b), some (.int 4), some (.ref M), some (.ref Nm), some (.ref Rt), some (.ref Fm), some y, some (.int (hg : Nat)), some (.ref T), none, none, none] ∧ T ≠ b ∧ T ≠ Fm ∧ G T = some (.lst ys) ∧ ys.Nodup ∧ (∀ x ∈ ys, x ∈ rt) ∧ ys.length ≤ 20 ∧
        Dr b l H G ∧ Kp b Fm Hb G ∧ G Fm = some (.lst xs) ∧ RowsX G b Fm xs rs, ?_, ?_⟩
      · have ysn : ys.Nodup := rtn.sublist sub
        have ysr : ∀ x ∈ ys, x ∈ rt := fun x hx => sub.subset hx
        have ysl : ys.length ≤ 10 := Nat.le_trans sub.length_le rtl
        have fl : ys.all flatV = true := List.all_eq_true.mpr fun x hx => by
          obtain ⟨z, rfl⟩ := rtf x (ysr x hx)
          rfl
        refine ⟨_, rfl, T, ys, rfl, .inl (SqL.of hT), rfl, fl, _, rfl, ?_⟩
        cases q : inV (.str "mix") ys with
        | true => exact iteF (iteF ⟨T, ys, rfl, Tb, TF, hT, ysn, ysr, by omega, f5, kp5, hF5, rx5⟩)
        | false =>
          refine iteT ⟨_, rfl, b, l, 4, rfl, by decide, by decide, f5.bag, fun r G6 B6 t6 _ => ⟨_, rfl, ?_⟩⟩
          have f6 := f5.trans ⟨B6, t6⟩
          have kp6 := kp5.trans (Kp.but t6)
          have hF6 := t6 _ _ hF5 Fmb
          have rx6 := rx5.mono (Kp.but (Fm := Fm) t6)
          have hT6 := t6 _ _ hT Tb
          cases r with
          | true => exact iteF ⟨T, ys, rfl, Tb, TF, hT6, ysn, ysr, by omega, f6, kp6, hF6, rx6⟩
          | false =>
            refine iteT ⟨_, rfl, by decide, fun Z nZ => ?_⟩
            obtain ⟨Z0, Zb, Zl⟩ := new f6 nZ
            have sz := same_new (o := .lst [.str "mix"]) (Same.rfl' (H := G6)) nZ
            have f7 := f6.put (o := .lst [.str "mix"]) Z0 Zb Zl
            have kp7 := kp6.new (o := .lst [.str "mix"]) nZ
            have rx7 := rx6.mono (fun c u e _ _ => sz c u e)
            have gZ : upd G6 Z (.lst [.str "mix"]) Z = some (.lst [.str "mix"]) := upd_same
            generalize upd G6 Z (.lst [.str "mix"]) = G7 at sz f7 kp7 rx7 gZ ⊢
            have hF7 := sz _ _ hF6
            refine ⟨T, Z, ys, _, rfl, rfl, sz _ _ hT6, gZ, Nat.le_of_lt (small1000 (by show ys.length + 1 ≤ 1000; omega)), fun T2 nT2 => ?_⟩
            obtain ⟨T20, T2b, T2l⟩ := new f7 nT2
            have sy := same_new (o := .lst (ys ++ [.str "mix"])) (Same.rfl' (H := G7)) nT2
            refine ⟨T2, ys ++ [.str "mix"], rfl, T2b, Ne.symm (ne_of_none hF7 nT2), upd_same, ?_, ?_, ?_, f7.put T20 T2b T2l, kp7.new nT2, sy _ _ hF7, rx7.mono (fun c u e _ _ => sy c u e)⟩
            · refine List.nodup_append.mpr ⟨ysn, by simp, fun x hx y hy e => ?_⟩
              rw [List.mem_singleton.mp hy] at e
              subst e
              rw [inV_mem hx] at q
              cases q
            · intro x hx
              rcases List.mem_append.mp hx with h | h
              · exact ysr x h
              · rw [List.mem_singleton.mp h]; exact mixr
            · rw [List.length_append]
              show ys.length + 1 ≤ 20
              omega
      clear sub hT TF Tb Tl nT f5' f5 kp5 hF5 rx5
      rintro σ4 G6 ⟨T, ys, rfl, Tb, TF, hT, ysn, ysr, ysl, f6, kp6, hF6, rx6⟩
      refine ⟨fun σ G => ∃ (T : Addr) (ys : List V), σ = [some (.ref b), some (.int 4), some (.ref M), some (.ref Nm), some (.ref Rt), some (.ref Fm), some y, some (.int (hg : Nat)), some (.ref T), none, none, none] ∧ T ≠ b ∧ T ≠ Fm ∧ G T = some (.lst ys) ∧ ys.Nodup ∧ (∀ x ∈ ys, x ∈ rt) ∧ ys.length ≤ 20 ∧ ys ≠ [] ∧
        Dr b l H G ∧ Kp b Fm Hb G ∧ G Fm = some (.lst xs) ∧ RowsX G b Fm xs rs, ?_, ?_⟩
      · have fl : ∀ x ∈ ys, FlatSh x := fun x hx => rtF x (ysr x hx)
        refine ⟨_, rfl, by decide, fun Z nZ => ?_⟩
        obtain ⟨Z0, Zb, Zl⟩ := new f6 nZ
        have sz := same_new (o := .lst []) (Same.rfl' (H := G6)) nZ
        have f7 := f6.put (o := .lst []) Z0 Zb Zl
        have kp7 := kp6.new (o := .lst []) nZ
        have rx7 := rx6.mono (fun c u e _ _ => sz c u e)
        have gZ : upd G6 Z (.lst []) Z = some (.lst []) := upd_same
        generalize upd G6 Z (.lst []) = G7 at sz f7 kp7 rx7 gZ ⊢
        have hF7 := sz _ _ hF6
        have hT7 := sz _ _ hT
        refine ⟨.list (ys.map dV), .list [], .lst (SqL.of hT7) (flat_dp fl), .lst (SqL.of gZ) .nil, lst_shaped fl, rfl, _, rfl, ?_⟩
        rw [eqv_nil]
        by_cases ye : ys = []
        · rw [decide_eq_true ye]
          have hR7 := kp7 _ _ hRb Rtb nRF
          refine iteT ⟨_, rfl, _, rfl, b, l, Rt, rt, rfl, hR7, Rtb, List.length_pos_of_mem mixr, by omega, f7.bag, fun x G8 xin B8 t8 _ => ⟨by show 1 ≤ sizeLine; decide, fun T2 nT2 => ?_⟩⟩
          have f8 := f7.trans ⟨B8, t8⟩
          obtain ⟨T20, T2b, T2l⟩ := new f8 nT2
          have sy := same_new (o := .lst [x]) (Same.rfl' (H := G8)) nT2
          have hF8 := t8 _ _ hF7 Fmb
          have rx8 := rx7.mono (Kp.but (Fm := Fm) t8)
          exact ⟨T2, [x], rfl, T2b, Ne.symm (ne_of_none hF8 nT2), upd_same, by simp, (fun z hz => by rw [List.mem_singleton.mp hz]; exact xin), (by show 1 ≤ 20; decide), by simp, f8.put T20 T2b T2l, (kp7.trans (Kp.but t8)).new nT2, sy _ _ hF8, rx8.mono (fun c u e _ _ => sy c u e)⟩
        · rw [decide_eq_false ye]
          exact iteF ⟨T, ys, rfl, Tb, TF, hT7, ysn, ysr, ysl, ye, f7, kp7, hF7, rx7⟩
      clear hT TF Tb ysn ysr ysl f6 kp6 hF6 rx6
      rintro σ5 G7 ⟨T, ys, rfl, Tb, TF, hT, ysn, ysr, ysl, ye, f7, kp7, hF7, rx7⟩
      refine ⟨_, rfl, .inl ⟨rfl, _, SqL.of hF7⟩, _, rfl, _, rfl, _, rfl, b, l, hg, rfl, by omega, by omega, f7.bag, fun lo G8 l0 l1 B8 t8 _ => ⟨_, _, rfl, rfl, _, rfl, _, rfl, _, rfl, b, l, T, ys, rfl, Tb, t8 _ _ hT Tb, B8, by omega, fun S ws G9 d9' nS Sb Sl hS pm => ⟨by show 4 ≤ sizeLine; decide, fun q nq => ?_⟩⟩⟩
      obtain ⟨lo, rfl⟩ := Int.eq_ofNat_of_zero_le l0
      have f9 := (f7.trans ⟨B8, t8⟩).trans d9'
      have k79 : But b G7 G9 := t8.trans d9'.but
      have hF9 := k79 _ _ hF7 Fmb
      obtain ⟨q0, qb, ql⟩ := new f9 nq
      have qF : q ≠ Fm := Ne.symm (ne_of_none hF9 nq)
      have SF : S ≠ Fm := Ne.symm (ne_of_none (t8 _ _ hF7 Fmb) nS)
      have Sq' : S ≠ q := ne_of_none hS nq
      have rx9 := rx7.mono (Kp.but (Fm := Fm) k79)
      have el : (1 : Int) + (lo : Nat) = ((1 + lo : Nat) : Int) := by omega
      have gq : upd G9 q (.tup [y, (fun i j => V.int (i + j)) 1 (lo : Int), .int hg, .ref S]) q = some (.tup [y, .int ((1 : Int) + lo), .int hg, .ref S]) := upd_same
      have sq := same_new (o := .tup [y, (fun i j => V.int (i + j)) 1 (lo : Int), .int hg, .ref S]) (Same.rfl' (H := G9)) nq
      have fq := f9.put (o := .tup [y, (fun i j => V.int (i + j)) 1 (lo : Int), .int hg, .ref S]) q0 qb ql
      have kq := (kp7.trans (Kp.but k79)).new (o := .tup [y, (fun i j => V.int (i + j)) 1 (lo : Int), .int hg, .ref S]) nq
      have rxq := rx9.mono (fun c u e _ _ => sq c u e)
      have hFq := sq _ _ hF9
      have hSq := sq _ _ hS
      refine ⟨Fm, xs, .ref q, rfl, rfl, hFq, small1000 (by omega), ?_⟩
      generalize upd G9 q (.tup [y, (fun i j => V.int (i + j)) 1 (lo : Int), .int hg, .ref S]) = Gq at gq sq fq kq rxq hFq hSq ⊢
      have rxF : RowsX (upd Gq Fm (.lst (xs ++ [.ref q]))) b Fm xs rs := rxq.mono (fun c u e _ m => by rw [upd_ne m]; exact e)
      have pml := pm.length_eq
      refine ⟨fq.put Fm0 Fmb Fml, kq.rows, xs ++ [.ref q], rs ++ [⟨y, (1 : Int) + lo, hg, ws⟩], _, _, _, upd_same, rxF.snoc (by rw [upd_ne qF]; exact gq) (by rw [upd_ne SF]; exact hSq) qb qF Sb SF, ?_, fun r hr => ?_, rfl⟩
      · rw [List.map_append, nr1, List.take_add_one, List.map_append]
        rw [List.getElem?_map] at hy'
        cases e : fs[i]? with
        | none => rw [e] at hy'; cases hy'
        | some z =>
          rw [e] at hy'
          cases hy'
          rfl
      · rcases List.mem_append.mp hr with h | h
        · exact pr1 r h
        · rw [List.mem_singleton.mp h]
          refine ⟨by show (1 : Int) ≤ 1 + lo; omega, by show (1 : Int) + lo ≤ hg; omega, by show (hg : Int) ≤ 4; omega, ?_, by show ws.length ≤ 20; omega, fun x hx => ysr x (pm.mem_iff.mp hx), pm.nodup_iff.mpr ysn⟩
          intro e
          have e : ws = [] := e
          rw [e] at pml
          exact ye (List.eq_nil_of_length_eq_zero pml.symm)
    rintro σ2 G1 ⟨f1, kp1, xs, rs, o6, o7, o8, hF1, rx1, nr1, pr1, rfl⟩
    rw [List.length_map, List.take_length] at nr1
    have hN1 := kp1 _ _ hNb Nb nNF
    have hM1 := kp1 _ _ hMb Mb nMF
    have rows1 := rx1.toL
    have m0 : atI [V.int (p1 : Nat), .int (p2 : Nat), .int (p3 : Nat)] 0 = some (.int (p1 : Nat)) := atI_nat (j := 0) rfl
    have m1 : atI [V.int (p1 : Nat), .int (p2 : Nat), .int (p3 : Nat)] 1 = some (.int (p2 : Nat)) := atI_nat (j := 1) rfl
    have e12 : ((p1 : Nat) : Int) + ((p2 : Nat) : Int) = ((p1 + p2 : Nat) : Int) := by omega
    intro A nA
    obtain ⟨A0, Ab, Al⟩ := new f1 nA
    have g1s := same_new (o := .dK []) (Same.rfl' (H := G1)) nA
    have f2 := f1.put (o := .dK []) A0 Ab Al
    have gA : upd G1 A (.dK []) A = some (.dK []) := upd_same
    generalize upd G1 A (.dK []) = G2 at g1s f2 gA ⊢
    refine ⟨_, rfl, _, rfl, M, _, 0, _, rfl, rfl, SqL.of (g1s _ _ hM1), m0, _, rfl, Nm, _, rfl, SqL.of (g1s _ _ hN1), fun S1 nS1 => ?_⟩
    rw [cutV_lo (by rw [lnv]; omega)]
    obtain ⟨S10, S1b, S1l⟩ := new f2 nS1
    have g2s' := same_new (o := .lst ((zs.map V.str).take p1)) (Same.rfl' (H := G2)) nS1
    have f3 := f2.put (o := .lst ((zs.map V.str).take p1)) S10 S1b S1l
    have gS1 : upd G2 S1 (.lst ((zs.map V.str).take p1)) S1 = some (.lst ((zs.map V.str).take p1)) := upd_same
    generalize upd G2 S1 (.lst ((zs.map V.str).take p1)) = G3 at g2s' f3 gS1 ⊢
    have g2s := g1s.trans g2s'
    refine ⟨_, rfl, _, rfl, M, _, 0, _, rfl, rfl, SqL.of (g2s _ _ hM1), m0, _, rfl, _, rfl, M, _, 0, _, rfl, rfl, SqL.of (g2s _ _ hM1), m0, _, rfl, M, _, 1, _, rfl, rfl, SqL.of (g2s _ _ hM1), m1, _, _, rfl, rfl, _, rfl, Nm, _, rfl, SqL.of (g2s _ _ hN1), fun S2 nS2 => ?_⟩
    rw [e12, cutV_mid (by rw [lnv]; omega) (by omega)]
    obtain ⟨S20, S2b, S2l⟩ := new f3 nS2
    have g3s' := same_new (o := .lst (((zs.map V.str).drop p1).take (p1 + p2 - p1))) (Same.rfl' (H := G3)) nS2
    have f4 := f3.put (o := .lst (((zs.map V.str).drop p1).take (p1 + p2 - p1))) S20 S2b S2l
    have gS2 : upd G3 S2 (.lst (((zs.map V.str).drop p1).take (p1 + p2 - p1))) S2 = some (.lst (((zs.map V.str).drop p1).take (p1 + p2 - p1))) := upd_same
    generalize upd G3 S2 (.lst (((zs.map V.str).drop p1).take (p1 + p2 - p1))) = G4 at g3s' f4 gS2 ⊢
    have g3s := g2s.trans g3s'
    have gA4 := g3s' _ _ (g2s' _ _ gA)
    have gS14 := g3s' _ _ gS1
    have hF4 := g3s _ _ hF1
    have rows4 := rows1.same g3s
    have nAF : A ≠ Fm := Ne.symm (ne_of_none hF1 nA)
    have nAS1 : S1 ≠ A := Ne.symm (ne_of_none gA nS1)
    have nAS2 : S2 ≠ A := Ne.symm (ne_of_none (g2s' _ _ gA) nS2)
    refine ⟨_, rfl, gA4, [(Sum.inr "stuffs", .ref S1), (Sum.inr "states", .ref S2), (Sum.inr "forms", .ref Fm)], rfl, by show 3 ≤ 15; decide, ?_⟩
    -- all but A stands
    have ka : ∀ {o : HO} {c : Addr} {u : HO}, G4 c = some u → c ≠ A → upd G4 A o c = some u := fun {o c u} e n => by rw [upd_ne n]; exact e
    have mA : M ≠ A := ne_of_none hM1 nA
    have NA : Nm ≠ A := ne_of_none hN1 nA
    have f5 := f4.put (o := .dK (mergeK [] [((Sum.inr "stuffs" : Key), V.ref S1), (Sum.inr "states", .ref S2), (Sum.inr "forms", .ref Fm)])) A0 Ab Al
    have gA5 : upd G4 A (.dK (mergeK [] [((Sum.inr "stuffs" : Key), V.ref S1), (Sum.inr "states", .ref S2), (Sum.inr "forms", .ref Fm)])) A = some (.dK [(Sum.inr "stuffs", .ref S1), (Sum.inr "states", .ref S2), (Sum.inr "forms", .ref Fm)]) := upd_same
    have hM5' := ka (o := .dK (mergeK [] [((Sum.inr "stuffs" : Key), V.ref S1), (Sum.inr "states", .ref S2), (Sum.inr "forms", .ref Fm)])) (g3s _ _ hM1) mA
    have hN5' := ka (o := .dK (mergeK [] [((Sum.inr "stuffs" : Key), V.ref S1), (Sum.inr "states", .ref S2), (Sum.inr "forms", .ref Fm)])) (g3s _ _ hN1) NA
    have hF5' := ka (o := .dK (mergeK [] [((Sum.inr "stuffs" : Key), V.ref S1), (Sum.inr "states", .ref S2), (Sum.inr "forms", .ref Fm)])) hF4 (Ne.symm nAF)
    have hS15 := ka (o := .dK (mergeK [] [((Sum.inr "stuffs" : Key), V.ref S1), (Sum.inr "states", .ref S2), (Sum.inr "forms", .ref Fm)])) gS14 nAS1
    have hS25 := ka (o := .dK (mergeK [] [((Sum.inr "stuffs" : Key), V.ref S1), (Sum.inr "states", .ref S2), (Sum.inr "forms", .ref Fm)])) gS2 nAS2
    have s15 : Same G1 (upd G4 A (.dK (mergeK [] [((Sum.inr "stuffs" : Key), V.ref S1), (Sum.inr "states", .ref S2), (Sum.inr "forms", .ref Fm)]))) := same_put g3s nA
    generalize upd G4 A (.dK (mergeK [] [((Sum.inr "stuffs" : Key), V.ref S1), (Sum.inr "states", .ref S2), (Sum.inr "forms", .ref Fm)])) = G5 at f5 gA5 hM5' hN5' hF5' hS15 hS25 s15 ⊢
    refine ⟨_, rfl, _, rfl, M, _, 0, _, rfl, rfl, SqL.of hM5', m0, _, rfl, M, _, 1, _, rfl, rfl, SqL.of hM5', m1, _, _, rfl, rfl, _, rfl, _, rfl, M, [(p1 : Int), p2, p3], rfl, SqL.of hM5', _, rfl, Nm, _, rfl, SqL.of hN5', fun S3 nS3 => ?_⟩
    rw [e12, sm, cutV_mid (by rw [lnv]; omega) (by omega)]
    obtain ⟨S30, S3b, S3l⟩ := new f5 nS3
    have g6s := same_new (o := .lst (((zs.map V.str).drop (p1 + p2)).take (p1 + p2 + p3 - (p1 + p2)))) (Same.rfl' (H := G5)) nS3
    have f6 := f5.put (o := .lst (((zs.map V.str).drop (p1 + p2)).take (p1 + p2 + p3 - (p1 + p2)))) S30 S3b S3l
    have gS3 : upd G5 S3 (.lst (((zs.map V.str).drop (p1 + p2)).take (p1 + p2 + p3 - (p1 + p2)))) S3 = some (.lst (((zs.map V.str).drop (p1 + p2)).take (p1 + p2 + p3 - (p1 + p2)))) := upd_same
    generalize upd G5 S3 (.lst (((zs.map V.str).drop (p1 + p2)).take (p1 + p2 + p3 - (p1 + p2)))) = G6 at g6s f6 gS3 ⊢
    have nAS3 : S3 ≠ A := Ne.symm (ne_of_none gA5 nS3)
    have gA6 := g6s _ _ gA5
    refine ⟨_, rfl, A, _, rfl, DPut.k (k := Sum.inr "lands") gA6 (by show 3 < sizeLine; decide), ?_⟩
    have pl : putK [((Sum.inr "stuffs" : Key), V.ref S1), (Sum.inr "states", V.ref S2), (Sum.inr "forms", V.ref Fm)] (Sum.inr "lands") (V.ref S3) = [((Sum.inr "stuffs" : Key), V.ref S1), (Sum.inr "states", V.ref S2), (Sum.inr "forms", V.ref Fm), (Sum.inr "lands", V.ref S3)] := by refine putK_new (keys_new ?_); exact lands_new
    rw [pl]
    generalize hk4 : [((Sum.inr "stuffs" : Key), V.ref S1), (Sum.inr "states", V.ref S2), (Sum.inr "forms", V.ref Fm), (Sum.inr "lands", V.ref S3)] = k4
    have f7 := f6.put (o := .dK k4) A0 Ab Al
    have gA7 : upd G6 A (.dK k4) A = some (.dK k4) := upd_same
    have s17 : Same G1 (upd G6 A (.dK k4)) := same_put (s15.trans g6s) nA
    have hS17 : upd G6 A (.dK k4) S1 = _ := (upd_ne nAS1).trans (g6s _ _ hS15)
    have hS27 : upd G6 A (.dK k4) S2 = _ := (upd_ne nAS2).trans (g6s _ _ hS25)
    have hS37 : upd G6 A (.dK k4) S3 = _ := (upd_ne nAS3).trans gS3
    generalize upd G6 A (.dK k4) = G7 at f7 gA7 s17 hS17 hS27 hS37 ⊢
    refine ⟨by decide, fun S4 nS4 => ?_⟩
    obtain ⟨S40, S4b, S4l⟩ := new f7 nS4
    have g8s := same_new (o := .lst []) (Same.rfl' (H := G7)) nS4
    have f8 := f7.put (o := .lst []) S40 S4b S4l
    have gS4 : upd G7 S4 (.lst []) S4 = some (.lst []) := upd_same
    generalize upd G7 S4 (.lst []) = G8 at g8s f8 gS4 ⊢
    have nAS4 : S4 ≠ A := Ne.symm (ne_of_none gA7 nS4)
    have S14 : S1 ≠ S4 := ne_of_none hS17 nS4
    have S24 : S2 ≠ S4 := ne_of_none hS27 nS4
    have S34 : S3 ≠ S4 := ne_of_none hS37 nS4
    have F4 : Fm ≠ S4 := ne_of_none (s17 _ _ hF1) nS4
    have gA8 := g8s _ _ gA7
    refine ⟨_, rfl, A, _, rfl, DPut.k (k := Sum.inr "shares") gA8 (by rw [← hk4]; show 4 < sizeLine; decide), ?_⟩
    have pk : putK k4 (Sum.inr "shares") (V.ref S4) = [((Sum.inr "stuffs" : Key), V.ref S1), (Sum.inr "states", V.ref S2), (Sum.inr "forms", V.ref Fm), (Sum.inr "lands", V.ref S3), (Sum.inr "shares", V.ref S4)] := by rw [← hk4]; refine putK_new (keys_new ?_); exact shares_new
    rw [pk]
    generalize hk5 : [((Sum.inr "stuffs" : Key), V.ref S1), (Sum.inr "states", V.ref S2), (Sum.inr "forms", V.ref Fm), (Sum.inr "lands", V.ref S3), (Sum.inr "shares", V.ref S4)] = k5
    have f9 := f8.put (o := .dK k5) A0 Ab Al
    have gA9 : upd G8 A (.dK k5) A = some (.dK k5) := upd_same
    have s19 : Same G1 (upd G8 A (.dK k5)) := same_put (s17.trans g8s) nA
    have hS19 : upd G8 A (.dK k5) S1 = _ := (upd_ne nAS1).trans (g8s _ _ hS17)
    have hS29 : upd G8 A (.dK k5) S2 = _ := (upd_ne nAS2).trans (g8s _ _ hS27)
    have hS39 : upd G8 A (.dK k5) S3 = _ := (upd_ne nAS3).trans (g8s _ _ hS37)
    have hS49 : upd G8 A (.dK k5) S4 = _ := (upd_ne nAS4).trans gS4
    generalize upd G8 A (.dK k5) = G9 at f9 gA9 s19 hS19 hS29 hS39 hS49 ⊢
    have ix : ∀ {G : Hp}, Kp b S4 G9 G → G A = some (.dK k5) := fun kp => kp _ _ gA9 Ab (Ne.symm nAS4)
    refine ⟨_, rfl, b, l, 3, rfl, by decide, by decide, f9.bag, fun nc Gc c0' c1' Bc tc _ => ⟨_, _, rfl, rfl, _, rfl, by omega, by omega, for_range (lo := 0) (n := ((1 : Int) + nc).toNat) (fun i σ H' => Dr b l H H' ∧ Kp b S4 G9 H' ∧ ∃ (shs : List V) (o10 o11 : Option V), H' S4 = some (.lst shs) ∧ ShX H' b S4 shs ∧ shs.length ≤ i ∧
      σ = [some (.ref b), some (.int 4), some (.ref M), some (.ref Nm), some (.ref Rt), some (.ref Fm), o6, o7, o8, some (.ref A), o10, o11]) ⟨f9.trans ⟨Bc, tc⟩, Kp.but tc, [], _, _, tc _ _ hS49 S4b, (fun v hv => by cases hv), Nat.le_refl _, rfl⟩ ?_ ?_⟩⟩
    · rintro i σ3 U0 hi ⟨fU, kU, shs, o10, o11, hU, shx, lsh, rfl⟩
      refine ⟨_, rfl, ?_⟩
      refine ⟨by decide, fun t1 n1 => ?_⟩
      have z1 := same_new (o := .tup [.int 1, .int 2]) (Same.rfl' (H := U0)) n1
      have h1 : upd U0 t1 (.tup [.int 1, .int 2]) t1 = some (.tup [.int 1, .int 2]) := upd_same
      generalize upd U0 t1 (.tup [.int 1, .int 2]) = U1 at z1 h1 ⊢
      refine ⟨by decide, fun t2 n2 => ?_⟩
      have z2 := same_new (o := .tup [.int 1, .int 2]) (Same.rfl' (H := U1)) n2
      have h2 : upd U1 t2 (.tup [.int 1, .int 2]) t2 = some (.tup [.int 1, .int 2]) := upd_same
      generalize upd U1 t2 (.tup [.int 1, .int 2]) = U2 at z2 h2 ⊢
      replace h1 := z2 _ _ h1
      refine ⟨by decide, fun t3 n3 => ?_⟩
      have z3 := same_new (o := .tup [.int 1, .int 3]) (Same.rfl' (H := U2)) n3
      have h3 : upd U2 t3 (.tup [.int 1, .int 3]) t3 = some (.tup [.int 1, .int 3]) := upd_same
      generalize upd U2 t3 (.tup [.int 1, .int 3]) = U3 at z3 h3 ⊢
      replace h1 := z3 _ _ h1
      replace h2 := z3 _ _ h2
      refine ⟨by decide, fun t4 n4 => ?_⟩
      have z4 := same_new (o := .tup [.int 2, .int 3]) (Same.rfl' (H := U3)) n4
      have h4 : upd U3 t4 (.tup [.int 2, .int 3]) t4 = some (.tup [.int 2, .int 3]) := upd_same
      generalize upd U3 t4 (.tup [.int 2, .int 3]) = U4 at z4 h4 ⊢
      replace h1 := z4 _ _ h1
      replace h2 := z4 _ _ h2
      replace h3 := z4 _ _ h3
      refine ⟨by decide, fun t5 n5 => ?_⟩
      have z5 := same_new (o := .tup [.int 0, .int 1]) (Same.rfl' (H := U4)) n5
      have h5 : upd U4 t5 (.tup [.int 0, .int 1]) t5 = some (.tup [.int 0, .int 1]) := upd_same
      generalize upd U4 t5 (.tup [.int 0, .int 1]) = U5 at z5 h5 ⊢
      replace h1 := z5 _ _ h1
      replace h2 := z5 _ _ h2
      replace h3 := z5 _ _ h3
      replace h4 := z5 _ _ h4
      refine ⟨by decide, fun t6 n6 => ?_⟩
      have z6 := same_new (o := .tup [.int 1, .int 1]) (Same.rfl' (H := U5)) n6
      have h6 : upd U5 t6 (.tup [.int 1, .int 1]) t6 = some (.tup [.int 1, .int 1]) := upd_same
      generalize upd U5 t6 (.tup [.int 1, .int 1]) = U6 at z6 h6 ⊢
      replace h1 := z6 _ _ h1
      replace h2 := z6 _ _ h2
      replace h3 := z6 _ _ h3
      replace h4 := z6 _ _ h4
      replace h5 := z6 _ _ h5
      refine ⟨by decide, fun t7 n7 => ?_⟩
      have z7 := same_new (o := .tup [.int 1, .int 4]) (Same.rfl' (H := U6)) n7
      have h7 : upd U6 t7 (.tup [.int 1, .int 4]) t7 = some (.tup [.int 1, .int 4]) := upd_same
      generalize upd U6 t7 (.tup [.int 1, .int 4]) = U7 at z7 h7 ⊢
      replace h1 := z7 _ _ h1
      replace h2 := z7 _ _ h2
      replace h3 := z7 _ _ h3
      replace h4 := z7 _ _ h4
      replace h5 := z7 _ _ h5
      replace h6 := z7 _ _ h6
      refine ⟨by decide, fun t8 n8 => ?_⟩
      have z8 := same_new (o := .tup [.int 3, .int 5]) (Same.rfl' (H := U7)) n8
      have h8 : upd U7 t8 (.tup [.int 3, .int 5]) t8 = some (.tup [.int 3, .int 5]) := upd_same
      generalize upd U7 t8 (.tup [.int 3, .int 5]) = U8 at z8 h8 ⊢
      replace h1 := z8 _ _ h1
      replace h2 := z8 _ _ h2
      replace h3 := z8 _ _ h3
      replace h4 := z8 _ _ h4
      replace h5 := z8 _ _ h5
      replace h6 := z8 _ _ h6
      replace h7 := z8 _ _ h7
      refine ⟨by decide, fun t9 n9 => ?_⟩
      have z9 := same_new (o := .tup [.int 1, .int 20]) (Same.rfl' (H := U8)) n9
      have h9 : upd U8 t9 (.tup [.int 1, .int 20]) t9 = some (.tup [.int 1, .int 20]) := upd_same
      generalize upd U8 t9 (.tup [.int 1, .int 20]) = U9 at z9 h9 ⊢
      replace h1 := z9 _ _ h1
      replace h2 := z9 _ _ h2
      replace h3 := z9 _ _ h3
      replace h4 := z9 _ _ h4
      replace h5 := z9 _ _ h5
      replace h6 := z9 _ _ h6
      replace h7 := z9 _ _ h7
      replace h8 := z9 _ _ h8
      refine ⟨by decide, fun t10 n10 => ?_⟩
      have z10 := same_new (o := .tup [.int 19, .int 20]) (Same.rfl' (H := U9)) n10
      have h10 : upd U9 t10 (.tup [.int 19, .int 20]) t10 = some (.tup [.int 19, .int 20]) := upd_same
      generalize upd U9 t10 (.tup [.int 19, .int 20]) = U10 at z10 h10 ⊢
      replace h1 := z10 _ _ h1
      replace h2 := z10 _ _ h2
      replace h3 := z10 _ _ h3
      replace h4 := z10 _ _ h4
      replace h5 := z10 _ _ h5
      replace h6 := z10 _ _ h6
      replace h7 := z10 _ _ h7
      replace h8 := z10 _ _ h8
      replace h9 := z10 _ _ h9
      have zz : Same U0 U10 := z1.trans (z2.trans (z3.trans (z4.trans (z5.trans (z6.trans (z7.trans (z8.trans (z9.trans z10))))))))
      refine ⟨by show 10 ≤ sizeLine; decide, fun Lt nLt => ?_⟩
      have zl := same_new (o := .lst [.ref t1, .ref t2, .ref t3, .ref t4, .ref t5, .ref t6, .ref t7, .ref t8, .ref t9, .ref t10]) zz nLt
      have hLt : upd U10 Lt (.lst [.ref t1, .ref t2, .ref t3, .ref t4, .ref t5, .ref t6, .ref t7, .ref t8, .ref t9, .ref t10]) Lt = some (.lst [.ref t1, .ref t2, .ref t3, .ref t4, .ref t5, .ref t6, .ref t7, .ref t8, .ref t9, .ref t10]) := upd_same
      have zt := same_new (o := .lst [.ref t1, .ref t2, .ref t3, .ref t4, .ref t5, .ref t6, .ref t7, .ref t8, .ref t9, .ref t10]) (Same.rfl' (H := U10)) nLt
      have f11 : Dr b l H (upd U10 Lt (.lst [.ref t1, .ref t2, .ref t3, .ref t4, .ref t5, .ref t6, .ref t7, .ref t8, .ref t9, .ref t10])) := fU.trans ⟨fU.bag.same zl, But.of zl⟩
      have Ltb : Lt ≠ b := by
        have B10 : BagL U10 b l := fU.bag.same zz
        exact B10.ne_b nLt
      have pairs : ∀ x ∈ ([.ref t1, .ref t2, .ref t3, .ref t4, .ref t5, .ref t6, .ref t7, .ref t8, .ref t9, .ref t10] : List V), ∃ t p q, x = .ref t ∧ upd U10 Lt (.lst [.ref t1, .ref t2, .ref t3, .ref t4, .ref t5, .ref t6, .ref t7, .ref t8, .ref t9, .ref t10]) t = some (.tup [.int p, .int q]) ∧ (0 ≤ p ∧ p ≤ 100) ∧ (0 ≤ q ∧ q ≤ 100) := by
        intro x hx
        simp only [List.mem_cons, List.not_mem_nil, or_false] at hx
        rcases hx with rfl | rfl | rfl | rfl | rfl | rfl | rfl | rfl | rfl | rfl
        · exact ⟨t1, _, _, rfl, zt _ _ h1, by decide, by decide⟩
        · exact ⟨t2, _, _, rfl, zt _ _ h2, by decide, by decide⟩
        · exact ⟨t3, _, _, rfl, zt _ _ h3, by decide, by decide⟩
        · exact ⟨t4, _, _, rfl, zt _ _ h4, by decide, by decide⟩
        · exact ⟨t5, _, _, rfl, zt _ _ h5, by decide, by decide⟩
        · exact ⟨t6, _, _, rfl, zt _ _ h6, by decide, by decide⟩
        · exact ⟨t7, _, _, rfl, zt _ _ h7, by decide, by decide⟩
        · exact ⟨t8, _, _, rfl, zt _ _ h8, by decide, by decide⟩
        · exact ⟨t9, _, _, rfl, zt _ _ h9, by decide, by decide⟩
        · exact ⟨t10, _, _, rfl, zt _ _ h10, by decide, by decide⟩
      generalize upd U10 Lt (.lst [.ref t1, .ref t2, .ref t3, .ref t4, .ref t5, .ref t6, .ref t7, .ref t8, .ref t9, .ref t10]) = U11 at zl hLt zt f11 pairs ⊢
      refine ⟨b, l, Lt, _, rfl, hLt, Ltb, by show 0 < 10; decide, by show 10 < 1000; decide, f11.bag, fun x U12 xin B12 t12 _ => ?_⟩
      obtain ⟨tt, v1, v2, rfl, ht, vb1, vb2⟩ := pairs x xin
      have ttb : tt ≠ b := fun e => by
        obtain ⟨ns, a, r, m, c', hb, _⟩ := f11.bag
        rw [e, hb] at ht
        cases ht
      have ht2 := t12 _ _ ht ttb
      have f12 := f11.trans ⟨B12, t12⟩
      have k12 : Kp b S4 U0 U12 := fun c u e n m => t12 _ _ (zl _ _ e) n
      have hU12 := t12 _ _ (zl _ _ hU) S4b
      have hA12 := ix (kU.trans k12)
      have gSh : DGet U12 A (.str "shares") (some (.ref S4)) := by
        have g := DGet.k (k := Sum.inr "shares") hA12
        rw [← hk5] at g
        exact g
      refine ⟨_, rfl, A, .ref S4, rfl, gSh, .inl ⟨rfl, _, SqL.of hU12⟩, ?_⟩
      have new2 : ∀ {H' : Hp} {p : Addr}, Dr b l H H' → H' p = none → p ≠ b := fun {H' p} d e => d.bag.ne_b e
      refine ⟨_, rfl, by decide, fun L2 nL2 => ?_⟩
      have y1 := same_new (o := .lst [.str "over", .str "from"]) (Same.rfl' (H := U12)) nL2
      have f13 : Dr b l H (upd U12 L2 (.lst [.str "over", .str "from"])) := f12.trans ⟨B12.same y1, But.of y1⟩
      have L2b := new2 f12 nL2
      refine ⟨b, l, L2, _, rfl, upd_same, L2b, by decide, by decide, f13.bag, fun x1 U13 x1in B13 t13 _ => ?_⟩
      have f14 := f13.trans ⟨B13, t13⟩
      have k13 : Kp b S4 U12 U13 := fun c u e n m => t13 _ _ (y1 _ _ e) n
      have hU13 := t13 _ _ (y1 _ _ hU12) S4b
      have ht3 := t13 _ _ (y1 _ _ ht2) ttb
      have hA13 := ix ((kU.trans k12).trans k13)
      have hS13 := ((kU.trans k12).trans k13) _ _ hS19 S1b S14
      have gSt : DGet U13 A (.str "stuffs") (some (.ref S1)) := by
        have g := DGet.k (k := Sum.inr "stuffs") hA13
        rw [← hk5] at g
        exact g
      have ls1 : ((zs.map V.str).take p1).length = p1 := by rw [List.length_take, lnv]; omega
      refine ⟨_, rfl, _, rfl, A, .ref S1, rfl, gSt, b, l, S1, _, rfl, hS13, S1b, by omega, by omega, f14.bag, fun x2 U14 x2in B14 t14 _ => ⟨by show 2 ≤ sizeLine; decide, fun q1 nq1 => ?_⟩⟩
      obtain ⟨o, rfl, sho⟩ : ∃ o, x1 = .str o ∧ Sh o := by
        simp only [List.mem_cons, List.not_mem_nil, or_false] at x1in
        rcases x1in with rfl | rfl
        · exact ⟨_, rfl, by decide +kernel, by decide +kernel⟩
        · exact ⟨_, rfl, by decide +kernel, by decide +kernel⟩
      obtain ⟨u, rfl, shu⟩ : ∃ u, x2 = .str u ∧ Sh u := by
        obtain ⟨z, hz, rfl⟩ := List.mem_map.mp (List.mem_of_mem_take x2in)
        exact ⟨z, rfl, nm_sh (okz z hz)⟩
      have f15 := f14.trans ⟨B14, t14⟩
      have k14 : Kp b S4 U13 U14 := Kp.but t14
      have hU14 := t14 _ _ hU13 S4b
      have ht4 := t14 _ _ ht3 ttb
      have y2 := same_new (o := .tup [.str o, .str u]) (Same.rfl' (H := U14)) nq1
      have hq1 : upd U14 q1 (.tup [.str o, .str u]) q1 = some (.tup [.str o, .str u]) := upd_same
      have f16 : Dr b l H (upd U14 q1 (.tup [.str o, .str u])) := f15.trans ⟨B14.same y2, But.of y2⟩
      generalize upd U14 q1 (.tup [.str o, .str u]) = U15 at y2 hq1 f16 ⊢
      refine ⟨_, rfl, q1, tt, _, _, rfl, rfl, SqT.of hq1, SqT.of (y2 _ _ ht4), by simp, by show 4 ≤ sizeLine; decide, (fun e => by cases e), fun _ q nq => ?_⟩
      have y3 := same_new (o := .tup ([.str o, .str u] ++ [.int v1, .int v2])) (Same.rfl' (H := U15)) nq
      have hq : upd U15 q (.tup ([.str o, .str u] ++ [.int v1, .int v2])) q = some (.tup [.str o, .str u, .int v1, .int v2]) := upd_same
      have qb := new2 f16 nq
      have f17 : Dr b l H (upd U15 q (.tup ([.str o, .str u] ++ [.int v1, .int v2]))) := f16.trans ⟨f16.bag.same y3, But.of y3⟩
      have hU15 := y2 _ _ hU14
      have qS : q ≠ S4 := Ne.symm (ne_of_none hU15 nq)
      generalize upd U15 q (.tup ([.str o, .str u] ++ [.int v1, .int v2])) = U16 at y3 hq f17 ⊢
      have hU16 := y3 _ _ hU15
      have kk : Kp b S4 U0 U16 := ((k12.trans k13).trans k14).trans fun c u' e _ _ => y3 _ _ (y2 _ _ e)
      refine ⟨S4, shs, .ref q, rfl, rfl, hU16, small1000 (by omega), ?_⟩
      refine ⟨f17.put S40 S4b S4l, (kU.trans kk).rows, shs ++ [.ref q], _, _, upd_same, ?_, ?_, rfl⟩
      · intro v hv
        rcases List.mem_append.mp hv with h | h
        · exact ((shx.mono kk).mono (Kp.refl b S4 U16).rows) v h
        · rw [List.mem_singleton.mp h]
          exact ⟨q, o, u, v1, v2, rfl, by rw [upd_ne qS]; exact hq, qb, qS, sho, shu, vb1, vb2⟩
      · rw [List.length_append]
        show shs.length + 1 ≤ i + 1
        omega
    · rintro σ3 U0 ⟨fU, kU, shs, o10, o11, hU, shx, lsh, rfl⟩
      have hA := ix kU
      have h1 := kU _ _ hS19 S1b S14
      have h2 := kU _ _ hS29 S2b S24
      have h3 := kU _ _ hS39 S3b S34
      have hF := kU _ _ (s19 _ _ hF1) Fmb F4
      have rowsU : RowsL U0 xs rs := (rx1.mono (fun c u e n _ => kU _ _ (s19 _ _ e) n (ne_of_none (s17 _ _ e) nS4))).toL
      obtain ⟨shd, rsh, shok⟩ := shx.rps
      have lsd : shd.length ≤ 3 := by
        have := rsh.length
        omega
      have whole : zs.take p1 ++ ((zs.drop p1).take p2 ++ ((zs.drop (p1 + p2)).take p3 ++ fs)) = zs := by
        rw [← hfs]
        have d2 : zs.drop (p1 + p2 + p3) = (zs.drop (p1 + p2)).drop p3 := by rw [List.drop_drop]
        have d1 : zs.drop (p1 + p2) = (zs.drop p1).drop p2 := by rw [List.drop_drop]
        rw [d2, List.take_append_drop, d1, List.take_append_drop, List.take_append_drop]
      have lr : rs.length = fs.length := by
        have := congrArg List.length nr1
        rwa [List.length_map, List.length_map] at this
      refine ⟨_, rfl, k A (zs.take p1) ((zs.drop p1).take p2) ((zs.drop (p1 + p2)).take p3) fs rs U0 fU ⟨⟨S1, S2, S3, Fm, S4, xs, shs, shd, by rw [hk5]; exact hA, ?_, ?_, ?_, hF, rowsU, hU, rsh, shok, lsd⟩, ?_, (by rw [whole]; exact fun z hz => (okw z hz).2), ⟨?_, ?_, ?_, ?_⟩, fun r hr => (pr1 r hr).few⟩⟩
      · rw [h1, List.map_take]
      · rw [h2, List.map_take, List.map_drop, Nat.add_sub_cancel_left]
      · rw [h3, List.map_take, List.map_drop, Nat.add_sub_cancel_left]
      · have rtr : rt = rootsOf rs := by
          rw [← hrt]
          show _ = V.str "mix" :: rs.map FRow.n
          rw [nr1]
        refine ⟨?_, ?_, ?_, by omega, nr1, (by rw [whole]; exact okz), (by rw [whole]; exact ndz), fun r hr => ?_⟩
        · rw [List.length_take]; omega
        · rw [List.length_take, List.length_drop]; omega
        · rw [List.length_take, List.length_drop]; omega
        · have q := pr1 r hr
          exact ⟨q.lo, q.hi, q.top, q.ne, Nat.le_trans q.few (by decide), (by rw [← rtr]; exact q.sub), q.nd⟩
      · rw [List.length_take]; omega
      · rw [List.length_take, List.length_drop]; omega
      · rw [List.length_take, List.length_drop]; omega
      · omega
end
end K02

/-! k02, part V: iter(t) of a tuple; list(o) where o's own way to be walked is a tuple's iterator. -/
namespace K02
open PySem L2 PySem.Spec PyProof.Rows
/-- at it the iterator over the tuple at t, at the place i -/
def TIt (t it : Addr) (i : Nat) : HO := .ext fun h => h.IsTupleIter it t i
theorem tit_ok {P : Program} {w : World} {H : Hp} {h : Heap} {t it : Addr} {i : Nat} (e : h.IsTupleIter it t i) : ObjOk P w H h it (TIt t it i) := ⟨e, (let ⟨o, ho, _⟩ := e; ⟨o, ho⟩), fun _ _ q k => q.at k⟩
def rIterT (K : PySem.W.Frag) : List V → Hp → VK → Prop := fun xs H Q => ∃ (l : Addr) (zs : List V), xs = [.ref l] ∧ SqT K H l zs ∧ ∀ it, H it = none → (∀ m o, H m = some o → m < it) → Q (.ref it) (upd H it (TIt l it 0))
theorem call_iterT {X : Cx} : CallR X (.builtin "iter") (rIterT X.K) := by
  intro pins s σ H xs us Q I r h
  obtain ⟨l, zs, rfl, hq, q⟩ := h
  obtain ⟨u, rfl, ru⟩ := r.one
  cases ru
  obtain ⟨its, rv, pl, hz⟩ := I.tuple hq
  refine Calls.call_function_entry (by decide +kernel) (by decide +kernel) PySem.W.kdk_entry_iter (PySem.W.kdk_args_iter _) ?_
  unfold Builtin.«iter»
  refine wpAny_bind (m := someArgs "iter" 1 2 _) (wpAny_of_eq (a := [Value.ref l]) (by first | rfl | kernel_rfl!) ?_)
  show wpAny _ _ (pyIter (.ref l) >>= _) _ _ _
  refine wpAny_bind (wpAny_pyIter_tuple pl ?_)
  refine wpAny_pure ⟨_, rfl, .ref s.heap.objs.size, _, I.laid (t' := s.toks) (fun b u e => Heap.get?_push_of_some _ e) (Nat.le_refl _) (tit_ok (t := l) (i := 0) ?_), rfl, q _ (I.hok.fresh (Nat.le_refl _)) fun m o e => I.hok.lt e⟩
  exact ⟨_, Heap.get?_push_size _ rfl, rfl, rfl⟩
/-- o is walked by a tuple's iterator that its own method hands back -/
structure ItT (K : PySem.W.Frag) (C fi : Addr) : Prop where
  it : PySem.W.findIn K (.ref C) "__iter__" = some (some (.ref fi))
  itF : PySem.W.isFn K (.ref fi) = true
  nolen : PySem.W.findIn K (.ref C) "__len__" = some none
  nohint : PySem.W.findIn K (.ref C) "__length_hint__" = some none
/-- the walk, at the place i -/
structure AtT (H0 H : Hp) (t it q : Addr) (zs : List V) (i : Nat) : Prop where
  lst : H q = some (.lst (zs.take i))
  itr : H it = some (TIt t it i)
  rest : ∀ b, b ≠ q → b ≠ it → H b = H0 b
section
variable {X : Cx} {pins : List (Addr × Obj)} {σ : L2.St} {A1 : Around}
theorem tl_loop {it t q : Addr} {zs : List V} {H0 : Hp} {Rs : Result → Shared → Prop} (hh : A1.in1.handled = none) (hT : H0 t = some (.tup zs)) (tq : t ≠ q) (ti : t ≠ it) (qi : q ≠ it) (hn : X.s_0.heap.objs.size ≤ it)
    (hdone : ∀ H s, Inv X pins σ H s → H q = some (.lst zs) → H it = none → (∀ b, b ≠ q → b ≠ it → H b = H0 b) → Rs (.ok (.ret .none)) s) :
    ∀ (k i : Nat) (H : Hp) (s : Shared), zs.length - i = k → i ≤ zs.length → Inv X pins σ H s → AtT H0 H t it q zs i → codeAny (model X.prog X.w) A1 (.builtin "list.extend.loop" ⟨[.ref q, .ref it, .none], []⟩) Rs s := by
  intro k
  induction k with
  | zero =>
    intro i H s hk hi I a
    have ei : i = zs.length := by omega
    have hT' : H t = some (.tup zs) := by rw [a.rest t tq ti]; exact hT
    obtain ⟨its, rv, pl, hz⟩ := I.tuple (SqT.of hT')
    have st : s.heap.IsTupleIter it t i := (I.hok it _ a.itr).1
    refine codeAny_builtin PySem.F.entry_extend_loop ?_
    rw [Around.under_plainId PySem.F.plain_extend_loop _]
    show wpAny _ A1.in1 (pyNext (.ref it) >>= _) _ _ _
    have hext := a.itr
    unfold TIt at hext
    have I1 := ItX.inv_drop I hext
    obtain ⟨f0, f1, f2, f3, f4, f5⟩ := ItX.inv_fp I hext hn
    refine wpAny_bind (wpAny_pyNext_tuple_end hh st pl (by rw [List.getElem?_toArray]; exact List.getElem?_eq_none (by rw [← rv.length]; omega)) fun h' eb => ?_)
    have I2 : Inv X pins σ (ItX.dropH H it) { s with heap := h', toks := s.toks } := Inv.turned I1 (fun b o hb q => eb b o hb q) f0 f1 f3 f4 f5
    refine wpAny_pure (hdone _ _ I2 ?_ ItX.dropH_same fun b n1 n2 => ?_)
    · rw [ItX.dropH_ne qi, a.lst, ei, List.take_length]
    · rw [ItX.dropH_ne n2]
      exact a.rest b n1 n2
  | succ k ih =>
    intro i H s hk hi I a
    have lt : i < zs.length := by omega
    have hT' : H t = some (.tup zs) := by rw [a.rest t tq ti]; exact hT
    obtain ⟨its, rv, pl, hz⟩ := I.tuple (SqT.of hT')
    have st : s.heap.IsTupleIter it t i := (I.hok it _ a.itr).1
    obtain ⟨u, hu, ru⟩ := rv.get (List.getElem?_eq_getElem lt)
    refine codeAny_builtin PySem.F.entry_extend_loop ?_
    rw [Around.under_plainId PySem.F.plain_extend_loop _]
    show wpAny _ A1.in1 (pyNext (.ref it) >>= _) _ _ _
    refine wpAny_bind (wpAny_pyNext_tuple_item st pl (by rw [List.getElem?_toArray]; exact hu) fun h' hit' sb => ?_)
    have mu : Mut (H it) := by rw [a.itr]; exact True.intro
    have I1 : Inv X pins σ (upd H it (TIt t it (i + 1))) { s with heap := h', toks := s.toks } := I.write (x := it) (e := it) (t' := s.toks) mu (.inl rfl) (fun b o nb z => (sb.2 b nb).trans z) (let ⟨o, ho, _⟩ := hit'; ⟨o, ho⟩) (tit_ok hit')
    have hq1 : upd H it (TIt t it (i + 1)) q = some (.lst (zs.take i)) := by rw [upd_ne qi]; exact a.lst
    obtain ⟨z, its1, c, r2, hl, e⟩ := I1.lstM hq1
    have l1 : its1.length = i := by rw [← hl, List.length_take]; omega
    show wpAny _ A1.in1 (updateSeq q (·.push u) >>= _) _ _ _
    have tk : zs.take (i + 1) = zs.take i ++ [zs[i]] := by rw [List.take_add_one, List.getElem?_eq_getElem lt]; rfl
    refine wpAny_bind (wpAny_updateSeq e rfl (wpAny_pure ⟨plainId_quiet PySem.F.plain_extend_loop _, ?_⟩) (by rw [List.size_toArray]; omega) (by show (its1.toArray.push u).size ≤ sizeLine + 1; rw [Array.size_push, List.size_toArray]; omega))
    refine ih (i + 1) _ _ (by omega) lt (I1.lset (its' := its1 ++ [u]) (t' := s.toks) hq1 e (by simp) (r2.append (.cons ru .nil)) (by rw [List.length_append, List.length_singleton, List.length_take]; omega)) ⟨?_, ?_, fun b n1 n2 => ?_⟩
    · rw [upd_same, tk]
    · rw [upd_ne (Ne.symm qi), upd_same]
    · rw [upd_ne n1, upd_ne n2]
      exact a.rest b n1 n2
variable {CI : CXT} {C fi : Addr} {fdI : FuncData} {psI : List Str} {spI : Sp} {EI : XK} {n : Nat}
theorem t_hint {M : Model} {A : Around} {E : Value → Shared → Prop} {Q : Bool → Shared → Prop} {K : PySem.W.Frag} {a : Addr} {s : Shared} {ox : Obj} {od : Option Obj} (hc : ItT K C fi) (hK : K.In s.heap) (J : PySem.W.InstAt s.heap a ox C od) (h : Q true s) :
    wpAny M A (Builtin.List.listLengthHint (.ref a)) Q E s := by
  have hno : ItC K C fi fi → wpAny M A (Builtin.List.listLengthHint (.ref a)) Q E s := fun hc2 => own_hint hc2 hK J h
  unfold Builtin.List.listLengthHint
  refine wpAny_bind (wpAny_bind (J.type.here ((PySem.W.looks_findIn hK hc.nolen).here ?_)))
  refine (PySem.W.KFB.if_not rfl (PySem.W.KFB.if_not rfl ?_))
  exact wpAny_bind (wpAny_bind (J.type.here ((PySem.W.looks_findIn hK hc.nohint).here (wpAny_pure h))))
theorem t_extend {Rs : Result → Shared → Prop} {s : Shared} {H : Hp} {a q dx : Addr} {fs : List (Str × V)} {R : List V → Hp → Prop} (hcalm : X.A.handled = none) (sb : Sub X n X.A.in1.in1) (hc : ItT X.K C fi) (FI : FnOk X.prog X.w X.K X.mg X.base CI n fi fdI psI spI) (bI : Binds X.K fdI psI []) (xI : Passes CI X EI)
    (qbig : X.s_0.heap.objs.size ≤ q) (I : Inv X pins σ H s) (ha : H a = some (.ins C dx fs)) (hq : H q = some (.lst []))
    (hsp : spI [.ref a] H (fun v H2 => ∃ it t zs, v = .ref it ∧ (∀ m o, H m = some o → m < it) ∧ H2 = upd H it (TIt t it 0) ∧ H t = some (.tup zs) ∧ t ≠ q ∧ zs.length ≤ sizeLine ∧ ∀ H3, (∀ b o, H b = some o → b ≠ q → H3 b = some o) → H3 q = some (.lst zs) → R zs H3) EI)
    (hdone : ∀ zs H3 s3, Inv X pins σ H3 s3 → R zs H3 → Rs (.ok (.ret .none)) s3) (herr : ∀ e s, X.xe e s → Rs (.error e) s) :
    wpAny (model X.prog X.w) X.A.in1.in1 (Builtin.List.listExtendWith (.ref q) (.ref a) .none)
      (fun fin s' => match fin with | .done f => Rs (.ok f) s' | .again c' => c'.quiet = true ∧ codeAny (model X.prog X.w) X.A.in1 c' Rs s') (fun e s' => Rs (.error e) s') s := by
  have hne : q ≠ a := ne_of hq ha (fun z => nomatch z)
  obtain ⟨mA, J, _⟩ := ins_get I.hok ha
  obtain ⟨od, J, _⟩ := J.look
  obtain ⟨m0, hF⟩ := I.fr
  unfold Builtin.List.listExtendWith
  refine wpAny_bind (J.type.here ?_)
  have h1 : Builtin.List.listSameRef (.ref q) (.ref a) = false := by simp [Builtin.List.listSameRef, hne]
  have h2 : (Value.ref C == Value.type "list") = false := rfl
  have h3 : (Value.ref C == Value.type "tuple") = false := rfl
  simp only [h1, h2, h3, Bool.or_false, Bool.false_eq_true, if_false]
  refine wpAny_bind (PySem.W.owit_iter hF I.ok.mod.kin J hc.it hc.itF ?_)
  have e0 : Env0 X.prog X.w X.K X.mg X.base X.A.in1.in1 X.stack s H := by
    have e := I.env0
    exact ⟨by rw [sb.fr]; exact e.frames, e.mod, e.bs, e.bsz, e.funs, e.frf, e.hok, e.bare⟩
  have hl := FI.len _ _ _ _ hsp
  have r2 : Vals [V.ref a] [Value.ref a] := .cons rfl .nil
  refine wpAny_call (codeAny_mono (FI.run X.A.in1.in1 X.stack s H ⟨[.ref a], []⟩ [.ref a] [.ref a] _ EI sb.room e0 (by
    have := bI s [.ref a] I.kIn (by simpa using hl)
    simpa using this) r2 hsp) fun r s' hq' => ?_)
  cases r with
  | error e => exact herr e s' (xI pins σ _ _ e s' I hq')
  | ok fl =>
    cases fl with
    | next => exact False.elim hq'
    | brk => exact False.elim hq'
    | cont => exact False.elim hq'
    | ret u =>
      obtain ⟨v, H', I', rv', it, t, zs, ev, big, eH, ht, tq, hz, k⟩ := I.after hq'
      subst ev
      cases rv'
      have hqi : q < it := big q _ hq
      have hti : t < it := big t _ ht
      have hiH : H' it = some (TIt t it 0) := by rw [eH]; exact upd_same
      have st : s'.heap.IsTupleIter it t 0 := (I'.hok it _ hiH).1
      have haH : H' a = some (.ins C dx fs) := by
        rw [eH, upd_ne (Nat.ne_of_lt (big a _ ha))]
        exact ha
      have hqH : H' q = some (.lst []) := by rw [eH, upd_ne (Nat.ne_of_lt hqi)]; exact hq
      obtain ⟨mA', J', _⟩ := ins_get I'.hok haH
      obtain ⟨od', J', _⟩ := J'.look
      unfold PySem.W.OwitIt
      refine wpAny_specialOf (name := Str.ofString "__next__") st.typeIs PySem.F.slot_tuple_iterator_next.lookup ?_
      refine wpAny_bind (wpAny_holding (t_hint hc I'.kIn J' ?_))
      obtain ⟨z, its, c, r3, hl3, e3⟩ := I'.lstM hqH
      cases r3
      have fin : ∀ s2, Inv X pins σ H' s2 → codeAny (model X.prog X.w) X.A.in1 (.builtin "list.extend.loop" ⟨[.ref q, .ref it, .none], []⟩) Rs s2 := fun s2 J2 => by
        refine tl_loop (H0 := H) (A1 := X.A.in1) hcalm ht tq (Nat.ne_of_lt hti) (Nat.ne_of_lt hqi) (Nat.le_trans qbig (Nat.le_of_lt hqi)) (fun H3 s3 J3 hq3 hi3 rest => hdone zs H3 s3 J3 (k H3 (fun b o e n1 => ?_) hq3)) zs.length 0 H' s2 (Nat.sub_zero _) (Nat.zero_le _) J2 ⟨hqH, hiH, fun b n1 n2 => ?_⟩
        · rw [rest b n1 (Nat.ne_of_lt (big b o e))]
          exact e
        · rw [eH, upd_ne n2]
      refine wpAny_ite_split (fun _ => ?_) (fun _ => wpAny_pure ⟨plainId_quiet PySem.F.plain_extend_loop _, fin s' I'⟩)
      refine wpAny_bind (wpAny_rule ?_)
      refine wpAny_bind ?_
      show wpAny _ _ (updateSeq q (·.push .none) >>= fun _ => updateSeq q (·.pop)) _ _ _
      refine wpAny_bind (wpAny_updateSeq e3 rfl ?_)
      have I4 := I'.lset (f := (·.push Value.none)) (its' := [Value.none]) (ys := [.non]) (t' := s'.toks) hqH e3 (by simp) (.cons rfl .nil) (by rw [List.length_singleton, sizeLine_eq]; decide)
      obtain ⟨z4, its4, k4, r4, hl4, e4⟩ := I4.lstM upd_same
      obtain ⟨u4, rfl, ru4⟩ := r4.one
      refine wpAny_updateSeq e4 rfl ?_ (by show 1 ≤ sizeLine; rw [sizeLine_eq]; decide) (by show 0 ≤ sizeLine + 1; exact Nat.zero_le _)
      refine wpAny_pure ⟨plainId_quiet PySem.F.plain_extend_loop _, fin _ ?_⟩
      have I3 := I4.lset (f := (·.pop)) (its := [u4]) (its' := []) (ys := []) (t' := s'.toks) upd_same e4 (by rfl) .nil (Nat.zero_le _)
      rw [upd_upd] at I3
      have hH : upd H' q (.lst []) = H' := by
        funext b
        by_cases hb : b = q
        · rw [hb, upd_same, hqH]
        · rw [upd_ne hb]
      rw [hH] at I3
      exact I3
/-- list(o) -/
def rOwnT (C : Addr) (spI : Sp) (EI : XK) : List V → Hp → VK → Prop := fun xs H Q => ∃ a dx fs, xs = [.ref a] ∧ H a = some (.ins C dx fs) ∧ ∀ q, H q = none →
  spI [.ref a] (upd H q (.lst [])) (fun v H2 => ∃ it t zs, v = .ref it ∧ (∀ m o, upd H q (.lst []) m = some o → m < it) ∧ H2 = upd (upd H q (.lst [])) it (TIt t it 0) ∧ upd H q (.lst []) t = some (.tup zs) ∧ t ≠ q ∧ zs.length ≤ sizeLine ∧
    ∀ H3, (∀ b o, upd H q (.lst []) b = some o → b ≠ q → H3 b = some o) → H3 q = some (.lst zs) → Q (.ref q) H3) EI
theorem call_listT (hcalm : X.calm = true) (hc : ItT X.K C fi) (FI : FnOk X.prog X.w X.K X.mg X.base CI n fi fdI psI spI) (bI : Binds X.K fdI psI []) (xI : Passes CI X EI) (hr : Room (n + 2) X.A) : CallR X (.type "list") (rOwnT C spI EI) := by
  intro pins s σ H xs us Q I rv h
  obtain ⟨a, dx, fs, rfl, ha, hq⟩ := h
  obtain ⟨u, rfl, ru⟩ := rv.one
  cases ru
  have sb : Sub X n X.A.in1.in1 := (Sub.in1 (Sub.in1 (⟨hr, rfl⟩ : Sub X (n + 2) X.A)))
  refine callType_codes (Q₁ := fun obj s₁ => obj = .ref s.heap.objs.size ∧ s₁ = { s with heap := s.heap.push { cls := .type "list", data := .seq #[] } }) PySem.F.called_list (PySem.F.typeCall_list_1 _) PySem.F.entry_list_init (code_list_new _ ⟨rfl, rfl⟩) fun obj s₁ h₁ => ?_
  obtain ⟨rfl, rfl⟩ := h₁
  have hS : (s.heap.push { cls := .type "list", data := .seq #[] }).get? s.heap.objs.size = some { cls := .type "list", data := .seq #[] } := Heap.get?_push_size _ rfl
  refine ⟨⟨_, hS, rfl⟩, PySem.F.args_list_init_2 _ _, ?_⟩
  have fr : H s.heap.objs.size = none := I.hok.fresh (Nat.le_refl _)
  have hsp := hq _ fr
  have I1 : Inv X pins σ (upd H s.heap.objs.size (.lst [])) { s with heap := s.heap.push { cls := .type "list", data := .seq #[] } } := I.lnew (its := []) (t' := s.toks) .nil (Nat.zero_le _)
  show wpAny _ _ (do let old ← Builtin.List.listItems (.ref s.heap.objs.size); Builtin.List.listUpdate (.ref s.heap.objs.size) (fun _ => #[]); letGo old.toList.reverse; Builtin.List.listExtendWith (.ref s.heap.objs.size) (.ref a) .none) _ _ _
  refine wpAny_bind ?_
  unfold Builtin.List.listItems
  refine wpAny_bind (wpAny_seqItems hS rfl (wpAny_pure ?_))
  show wpAny _ _ (updateSeq s.heap.objs.size (fun _ => #[]) >>= fun _ => letGo (#[] : Array Value).toList.reverse >>= fun _ => Builtin.List.listExtendWith (.ref s.heap.objs.size) (.ref a) .none) _ _ _
  refine wpAny_bind (wpAny_updateSeq hS rfl ?_)
  have I2 := I1.lset (f := fun _ => #[]) (its := []) (its' := []) (ys := []) (t' := s.toks) upd_same hS rfl .nil (Nat.zero_le _)
  rw [upd_upd] at I2
  refine wpAny_bind (wpAny_letGo ?_)
  have ha2 : upd H s.heap.objs.size (.lst []) a = some (.ins C dx fs) := by rw [upd_ne (ne_of_none ha fr)]; exact ha
  exact t_extend (R := fun _ H3 => Q (.ref s.heap.objs.size) H3) (Rs := wants (fun r s₂ => r = .none ∧ EP X pins σ Q (.ref s.heap.objs.size) s₂) X.xe) (I.ok.hd hcalm) sb hc FI bI xI I.sz I2 ha2 upd_same hsp
    (fun zs H3 s3 J3 hR => ⟨rfl, .ref s.heap.objs.size, H3, J3, rfl, hR⟩) (fun e s' he => he)
end
end K02

/-! k02, part W: things that are no names. -/
namespace K02
open PySem L2 PySem.Spec PyProof.Rows
abbrev sOdd : Stmt := top 43
section
variable {X : Cx}
theorem op_mulS : OpR X (binaryOp .Mult) (fun x y H Q => ∃ i n, x = .str i ∧ y = .int n ∧ MulOk i n ∧ Q (.str (Txt.mul i n)) H) := by
  intro pins s σ H x y v u Q I rx ry h
  obtain ⟨i, n, rfl, rfl, ok, q⟩ := h
  obtain ⟨t, rfl⟩ := rx
  obtain ⟨t', rfl⟩ := ry
  exact SB.mul ok fun t2 k => ⟨.str (Txt.mul i n), H, I.tok _, ⟨_, rfl⟩, q⟩
end
abbrev low7 (c : Nat) : Bool := decide (c < 128)
theorem let_low {c : Nat} (h : isLet c = true) : low7 c = true ∧ isLet (PyProof.Rows.up1 c) = false ∧ low7 (PyProof.Rows.up1 c) = true := by
  have h' : c ∈ letters.cps.toList := of_decide_eq_true h
  have : ∀ c ∈ letters.cps.toList, low7 c = true ∧ isLet (PyProof.Rows.up1 c) = false ∧ low7 (PyProof.Rows.up1 c) = true := by decide +kernel
  exact this c h'
theorem odd_sh {z : Str} (h1 : z.length ≤ 20) (h2 : AllIn low7 z) : Sh z ∧ (reprText z).length ≤ 500 := by
  have lt : ∀ c ∈ z.cps.toList, c < 128 := fun c hc => of_decide_eq_true (h2 c hc)
  refine ⟨⟨by omega, ?_⟩, Nat.le_trans (PySem.StrLaws.reprText_len z fun c hc => ?_) (by omega)⟩
  · unfold PyData.strOk
    rw [← Array.all_toList]
    exact List.all_eq_true.mpr fun c hc => decide_eq_true (Nat.lt_of_lt_of_le (lt c hc) (by decide))
  · exact Nat.lt_of_lt_of_le (lt c hc) (by decide)
theorem nm_bad {z : Str} {c : Nat} (hc : c ∈ z.cps.toList) (h : isLet c = false) : nmS z = false := by
  have e : z.cps.toList.all isLet = false := List.all_eq_false.mpr ⟨c, hc, by rw [h]; exact Bool.false_ne_true⟩
  unfold nmS
  rw [e, Bool.false_and, Bool.and_false]
/-- what is no name, of whatever kind -/
structure OddV (H : Hp) (v : V) (d : PyData) : Prop where
  rp : Rp H v d
  sh : shw d
  no : nmD d = false
  up : ∀ G : Hp, (∀ a xs, H a = some (.tup xs) → G a = some (.tup xs)) → Rp G v d
theorem odd_str {H : Hp} {z : Str} (h1 : z.length ≤ 20) (h2 : AllIn low7 z) (h3 : nmS z = false) : OddV H (.str z) (.str z) := by
  obtain ⟨a, b⟩ := odd_sh h1 h2
  exact ⟨.str z a, .inl b, h3, fun _ _ => .str z a⟩
def spOdd : Sp := fun vs H Q _ => ∃ b l, vs = [.ref b] ∧ BagL H b l ∧ ∀ v d H', Dr b l H H' → OddV H' v d → Q v H'
theorem low_all {z : Str} (h : z.cps.toList.all low7 = true) : AllIn low7 z := fun c hc => List.all_eq_true.mp h c hc
theorem low_of {z : Str} (h : AllIn isLet z) : AllIn low7 z := fun c hc => (let_low (h c hc)).1
theorem tl_app (x y : Str) : (x ++ y).cps.toList = x.cps.toList ++ y.cps.toList := Array.toList_append
section
variable {P : Program} {w : World} {K : PySem.W.Frag} {mg : Str → Option Value} {base : Heap}
theorem scOdd : FnScope ["_law_bag_here", "_law_word", "_law_odd"] ["_law_bag_here"] (defScope sOdd) := ⟨rfl, rfl, rfl, by decide +kernel, rfl, by decide +kernel, by decide +kernel⟩
theorem ok_odd {f fp fl fc : Addr} {fd fdp fdl fdc : FuncData} (F : Fun K "_law_odd_name" "_law_odd_name" sOdd f fd) (DP : Df K mg "_law_pick" sPick ["_law_bag_here", "_law_many"] fp fdp) (GP : FnOk P w K mg base CX0 1 fp fdp ["_law_bag_here", "_law_many"] spPick)
    (DL : Df K mg "_law_letters" sLetters ["_law_bag_here", "_law_many"] fl fdl) (GL : FnOk P w K mg base CX0 2 fl fdl ["_law_bag_here", "_law_many"] spLetters) (DC : Df K mg "_law_choice" sChoice ["_law_bag_here", "_law_things"] fc fdc) (GC : FnOk P w K mg base CX0 2 fc fdc ["_law_bag_here", "_law_things"] (spChoice K)) :
    FnOk P w K mg base CX0 3 f fd ["_law_bag_here"] spOdd := by
  refine F.ok scOdd (fun vs H Q E h => ?_) (fun cdv A0 outer s0 H vs Q E hr h => ?_)
  · obtain ⟨b, l, rfl, _⟩ := h
    rfl
  · obtain ⟨b, l, rfl, B, k⟩ := h
    have nd := scOdd.nd
    have r1 := hr.mono (show 1 ≤ 2 by decide)
    refine ⟨_, pss_cons (ps_set (i := 1) nd rfl (Or.inl rfl) (pe_call GL hr rfl DL.g DL.F.kp DL.b .nil pass0 (pa_cons (pv 0) (pa_cons (pe_op op_add pe_int (pe_call GP r1 rfl DP.g DP.F.kp DP.b .nil pass0 (pa_cons (pv 0) (pa_cons pe_int pa_nil)))) pa_nil))))
      (pss_cons (ps_set (i := 2) nd rfl (Or.inl rfl) (pe_lst (pa_cons pe_str (pa_cons (pe_upper (pv 1)) (pa_cons (pe_op op_add_str (pv 1) pe_str) (pa_cons (pe_op op_add_str (pv 1) pe_str) (pa_cons (pe_op op_add_str (pe_op op_add_str (pv 1) pe_str) (pv 1)) (pa_cons pe_non (pa_cons pe_int (pa_cons pe_bl
          (pa_cons (pe_tup (pa_cons (pv 1) pa_nil)) (pa_cons (pe_op op_mulS pe_str pe_int) (pa_cons pe_str (pa_cons pe_str (pa_cons pe_str pa_nil)))))))))))))))
      (pss_one (ps_ret (pe_call GC hr rfl DC.g DC.F.kp DC.b .nil pass0 (pa_cons (pv 0) (pa_cons (pv 2) pa_nil)))))), ?_⟩
    refine ⟨_, rfl, _, rfl, b, l, 5, rfl, by decide, by decide, B, fun r H1 r0 r1' B1 t1 _ => ⟨_, _, rfl, rfl, ?_⟩⟩
    obtain ⟨r, rfl⟩ := Int.eq_ofNat_of_zero_le r0
    have e1 : (1 : Int) + (r : Nat) = ((1 + r : Nat) : Int) := by omega
    have d1 : Dr b l H H1 := ⟨B1, t1⟩
    refine ⟨b, l, 1 + r, by rw [← e1]; rfl, by omega, B1, fun z H2 zl za d2' => ?_⟩
    have d2 := d1.trans d2'
    have zlow := low_of za
    have zne : ∃ c, c ∈ z.cps.toList := by
      cases e : z.cps.toList with
      | nil =>
        have := len_cps z
        rw [e, zl] at this
        simp at this
        omega
      | cons c r => exact ⟨c, List.mem_cons_self⟩
    have eU : Txt.upper z = SX.S (z.cps.toList.map PyProof.Rows.up1) := by
      have := SX.upper_S (a := z.cps.toList) (List.all_eq_true.mpr fun c hc => zlow c hc)
      rw [SX.S_tl] at this
      exact this
    refine ⟨_, rfl, ⟨_, rfl⟩, z, rfl, rfl, by omega, ?_⟩
    refine ⟨_, rfl, _, _, rfl, rfl, Nat.le_of_lt (small1000 (by show z.length + 1 ≤ 1000; omega)), ?_⟩
    refine ⟨_, rfl, _, _, rfl, rfl, Nat.le_of_lt (small1000 (by show z.length + 1 ≤ 1000; omega)), ?_⟩
    refine ⟨_, rfl, _, _, rfl, rfl, Nat.le_of_lt (small1000 (by show z.length + 1 ≤ 1000; omega)), _, rfl, _, _, rfl, rfl, Nat.le_of_lt (small1000 (by rw [Str.length_append]; show z.length + 1 + z.length ≤ 1000; omega)), ?_⟩
    refine ⟨_, rfl, by show 1 ≤ sizeLine; decide, fun T nT => ?_⟩
    refine ⟨_, _, rfl, rfl, ⟨by decide, by decide, by decide⟩, ?_⟩
    have s3 := same_new (o := .tup [.str z]) (Same.rfl' (H := H2)) nT
    have hT : upd H2 T (.tup [.str z]) T = some (.tup [.str z]) := upd_same
    have d3 := d2.new (o := .tup [.str z]) nT
    generalize upd H2 T (.tup [.str z]) = H3 at s3 hT d3 ⊢
    refine ⟨by show 13 ≤ sizeLine; decide, fun L nL => ?_⟩
    have s4 := same_new (o := .lst [.str "", .str (Txt.upper z), .str (z ++ "1"), .str (z ++ " "), .str (z ++ "-" ++ z), .non, .int 5, .bl true, .ref T, .str (Txt.mul "q" 13), .str "main", .str "open", .str "two"]) (Same.rfl' (H := H3)) nL
    have hL : upd H3 L (.lst [.str "", .str (Txt.upper z), .str (z ++ "1"), .str (z ++ " "), .str (z ++ "-" ++ z), .non, .int 5, .bl true, .ref T, .str (Txt.mul "q" 13), .str "main", .str "open", .str "two"]) L = some (.lst [.str "", .str (Txt.upper z), .str (z ++ "1"), .str (z ++ " "), .str (z ++ "-" ++ z), .non, .int 5, .bl true, .ref T, .str (Txt.mul "q" 13), .str "main", .str "open", .str "two"]) := upd_same
    have d4 := d3.new (o := .lst [.str "", .str (Txt.upper z), .str (z ++ "1"), .str (z ++ " "), .str (z ++ "-" ++ z), .non, .int 5, .bl true, .ref T, .str (Txt.mul "q" 13), .str "main", .str "open", .str "two"]) nL
    have Lb := d3.bag.ne_b nL
    have Tb := d2.bag.ne_b nT
    have lens : z.length ≤ 5 := by omega
    refine ⟨_, rfl, _, rfl, b, l, L, _, rfl, hL, Lb, by show 0 < 13; decide, by show 13 < 1000; decide, d4.bag, fun x H5 xin B5 t5 _ => ?_⟩
    have d5 := d4.trans ⟨B5, t5⟩
    have hT5 := t5 _ _ (s4 _ _ hT) Tb
    have one : ∀ (y : Str), y.length = 1 → AllIn low7 y → (∃ c ∈ y.cps.toList, isLet c = false) → OddV H5 (.str (z ++ y)) (.str (z ++ y)) := fun y hy ly ⟨c, hc, nc⟩ => by
      refine odd_str (by rw [Str.length_append]; omega) (allIn_app zlow ly) (nm_bad (c := c) ?_ nc)
      rw [tl_app]
      exact List.mem_append.mpr (.inr hc)
    simp only [List.mem_cons, List.not_mem_nil, or_false] at xin
    rcases xin with rfl | rfl | rfl | rfl | rfl | rfl | rfl | rfl | rfl | rfl | rfl | rfl | rfl
    · exact k _ _ _ d5 (odd_str (by decide) (by intro c hc; cases hc) (by decide +kernel))
    · refine k _ (.str (Txt.upper z)) _ d5 ?_
      rw [eU]
      obtain ⟨c, hc⟩ := zne
      refine odd_str ?_ ?_ (nm_bad (c := PyProof.Rows.up1 c) ?_ (let_low (za c hc)).2.1)
      · rw [SX.S_len, List.length_map, len_cps]; omega
      · intro c' hc'
        obtain ⟨c0, h0, rfl⟩ := List.mem_map.mp hc'
        exact (let_low (za c0 h0)).2.2
      · exact List.mem_map.mpr ⟨c, hc, rfl⟩
    · exact k _ _ _ d5 (one "1" rfl (low_all (by decide +kernel)) ⟨49, by decide +kernel, by decide +kernel⟩)
    · exact k _ _ _ d5 (one " " rfl (low_all (by decide +kernel)) ⟨32, by decide +kernel, by decide +kernel⟩)
    · refine k _ _ _ d5 (odd_str ?_ (allIn_app (allIn_app zlow (low_all (by decide +kernel))) zlow) (nm_bad (c := 45) ?_ (by decide +kernel)))
      · rw [Str.length_append, Str.length_append]
        show z.length + 1 + z.length ≤ 20
        omega
      · rw [tl_app, tl_app]
        exact List.mem_append.mpr (.inl (List.mem_append.mpr (.inr (by decide +kernel))))
    · exact k _ _ _ d5 ⟨.non, .inl trivial, rfl, fun _ _ => .non⟩
    · exact k _ _ _ d5 ⟨.int 5, .inl ⟨by decide, by decide⟩, rfl, fun _ _ => .int 5⟩
    · exact k _ _ _ d5 ⟨.bl true, .inl trivial, rfl, fun _ _ => .bl true⟩
    · obtain ⟨a1, a2⟩ := odd_sh (z := z) (by omega) zlow
      exact k _ _ _ d5 ⟨.tup hT5 (.cons (.str z a1) .nil), .inr ⟨z, rfl, a2⟩, rfl, fun G hg => .tup (hg _ _ hT5) (.cons (.str z a1) .nil)⟩
    · exact k _ _ _ d5 (odd_str (by decide +kernel) (low_all (by decide +kernel)) (by decide +kernel))
    · exact k _ _ _ d5 (odd_str (by decide +kernel) (low_all (by decide +kernel)) (by decide +kernel))
    · exact k _ _ _ d5 (odd_str (by decide +kernel) (low_all (by decide +kernel)) (by decide +kernel))
    · exact k _ _ _ d5 (odd_str (by decide +kernel) (low_all (by decide +kernel)) (by decide +kernel))
end
end K02

/-! k02, part X: what Stock may be handed, right or spoilt; what is due of it. -/
namespace K02
open PySem L2 PySem.Spec PyProof.Rows
theorem SqD.sq {H H' : Hp} {a : Addr} {xs : List V} (s : SqD H a xs) (e : Sq H H') : SqD H' a xs := s.imp (e.2 _ _) (e.1 _ _)
theorem RowV.sq {H H' : Hp} {v : V} {r : FRow} (x : RowV H v r) (s : Sq H H') : RowV H' v r := by
  obtain ⟨a, t, e, h1, h2⟩ := x
  exact ⟨a, t, e, h1.sq s, h2.sq s⟩
theorem RowsV.sq {H H' : Hp} (s : Sq H H') : ∀ {vs : List V} {rs : List FRow}, RowsV H vs rs → RowsV H' vs rs
  | _, _, .nil => .nil
  | _, _, .cons r rs => .cons (r.sq s) (RowsV.sq s rs)
/-- a right name -/
def NmV (x : V) : Prop := ∃ z, x = .str z ∧ nmS z = true
theorem NmV.flat {x : V} (h : NmV x) : FlatSh x := by
  obtain ⟨z, rfl, e⟩ := h
  exact .inr ⟨z, rfl, nm_sh e, (name_short e).1⟩
def TsOk (n : Nat) (r : FRow) : Prop := (∀ x ∈ r.ts, FlatSh x) ∧ r.ts.length ≤ n
/-- what may be a list of names -/
def NamesX (H : Hp) (v : V) (d : PyData) : Prop := Rp H v d ∧ (listD 1 5 d = true → ∃ a xs ds, v = .ref a ∧ SqD H a xs ∧ Rps H xs ds ∧ (∀ e ∈ ds, shw e) ∧ xs.length ≤ 10)
/-- what may be a list of forms -/
def FormsX (n : Nat) (H : Hp) (v : V) (d : PyData) : Prop := Rp H v d ∧ (listD 1 6 d = true → (itemsD d).all rowD = true → ∃ a xs rs ds, v = .ref a ∧ H a = some (.lst xs) ∧ RowsV H xs rs ∧ Rps H (rs.map FRow.n) ds ∧ (∀ e ∈ ds, shw e) ∧ rs.length ≤ 10 ∧ ∀ r ∈ rs, TsOk n r)
/-- a list of right names -/
def NamesG (H : Hp) (v : V) : Prop := ∃ a xs, v = .ref a ∧ SqD H a xs ∧ 1 ≤ xs.length ∧ xs.length ≤ 5 ∧ ∀ x ∈ xs, NmV x
/-- a list of right forms -/
def FormsG (n : Nat) (H : Hp) (v : V) : Prop := ∃ a xs rs, v = .ref a ∧ H a = some (.lst xs) ∧ RowsV H xs rs ∧ 1 ≤ rs.length ∧ rs.length ≤ 6 ∧ ∀ r ∈ rs, NmV r.n ∧ TsOk n r
theorem NamesX.sq {H H' : Hp} {v : V} {d : PyData} (h : NamesX H v d) (s : Sq H H') : NamesX H' v d := by
  refine ⟨h.1.mono s, fun e => ?_⟩
  obtain ⟨a, xs, ds, e1, e2, e3, e4⟩ := h.2 e
  exact ⟨a, xs, ds, e1, e2.sq s, e3.mono s, e4⟩
theorem FormsX.sq {n : Nat} {H H' : Hp} {v : V} {d : PyData} (h : FormsX n H v d) (s : Sq H H') : FormsX n H' v d := by
  refine ⟨h.1.mono s, fun e e' => ?_⟩
  obtain ⟨a, xs, rs, ds, e1, e2, e3, e4, e5⟩ := h.2 e e'
  exact ⟨a, xs, rs, ds, e1, s.2 _ _ e2, e3.sq s, e4.mono s, e5⟩
theorem NamesG.sq {H H' : Hp} {v : V} (h : NamesG H v) (s : Sq H H') : NamesG H' v := by
  obtain ⟨a, xs, e1, e2, e3⟩ := h
  exact ⟨a, xs, e1, e2.sq s, e3⟩
theorem FormsG.sq {n : Nat} {H H' : Hp} {v : V} (h : FormsG n H v) (s : Sq H H') : FormsG n H' v := by
  obtain ⟨a, xs, rs, e1, e2, e3, e4⟩ := h
  exact ⟨a, xs, rs, e1, s.2 _ _ e2, e3.sq s, e4⟩
/-- what Stock is handed: of lists of names and of forms, as right as it may be -/
structure SpT (n : Nat) (H : Hp) (v1 v2 v3 v4 : V) : Prop where
  n1 : ∃ d, NamesX H v1 d
  n2 : ∃ d, NamesX H v2 d
  n3 : ∃ d, NamesX H v3 d
  f : ∃ d, FormsX n H v4 d
structure GoodT (n : Nat) (H : Hp) (v1 v2 v3 v4 : V) : Prop where
  n1 : NamesG H v1
  n2 : NamesG H v2
  n3 : NamesG H v3
  f : FormsG n H v4
theorem GoodT.sq {n : Nat} {H H' : Hp} {v1 v2 v3 v4 : V} (h : GoodT n H v1 v2 v3 v4) (s : Sq H H') : GoodT n H' v1 v2 v3 v4 := ⟨h.n1.sq s, h.n2.sq s, h.n3.sq s, h.f.sq s⟩
theorem SpT.sq {n : Nat} {H H' : Hp} {v1 v2 v3 v4 : V} (h : SpT n H v1 v2 v3 v4) (s : Sq H H') : SpT n H' v1 v2 v3 v4 :=
  ⟨h.n1.imp fun _ x => x.sq s, h.n2.imp fun _ x => x.sq s, h.n3.imp fun _ x => x.sq s, h.f.imp fun _ x => x.sq s⟩
theorem SqD.rp {H : Hp} {a : Addr} {xs : List V} {ds : List PyData} (h : SqD H a xs) (r : Rps H xs ds) : ∃ d, Rp H (.ref a) d ∧ dL d = true ∧ itemsD d = ds ∧ lenD d = ds.length := by
  rcases h with h | h
  · exact ⟨_, .lst h r, rfl, rfl, rfl⟩
  · exact ⟨_, .tup h r, rfl, rfl, rfl⟩
theorem nm_rps {H : Hp} {xs : List V} (h : ∀ x ∈ xs, NmV x) : Rps H xs (xs.map dV) ∧ ∀ e ∈ xs.map dV, shw e := by
  refine ⟨flat_rps fun x hx => (h x hx).flat, fun e he => ?_⟩
  obtain ⟨x, hx, rfl⟩ := List.mem_map.mp he
  obtain ⟨z, rfl, ez⟩ := h x hx
  exact .inl (name_short ez).1
theorem NamesG.x {H : Hp} {v : V} (h : NamesG H v) : ∃ d, NamesX H v d := by
  obtain ⟨a, xs, rfl, e2, _, e4, e5⟩ := h
  obtain ⟨r, s⟩ := nm_rps (H := H) e5
  obtain ⟨d, rd, _⟩ := e2.rp r
  exact ⟨d, rd, fun _ => ⟨a, xs, _, rfl, e2, r, s, by omega⟩⟩
theorem RowV.rp {H : Hp} {v : V} {r : FRow} {dn : PyData} (h : RowV H v r) (hn : Rp H r.n dn) (ht : ∀ x ∈ r.ts, FlatSh x) : ∃ d, Rp H v d := by
  obtain ⟨a, t, rfl, h1, h2⟩ := h
  obtain ⟨dt, rt, _⟩ := h2.rp (flat_rps ht)
  obtain ⟨d, rd, _⟩ := h1.rp (.cons hn (.cons (.int _) (.cons (.int _) (.cons rt .nil))))
  exact ⟨d, rd⟩
theorem RowsV.rp {H : Hp} : ∀ {vs : List V} {rs : List FRow}, RowsV H vs rs → (∀ r ∈ rs, (∃ dn, Rp H r.n dn) ∧ ∀ x ∈ r.ts, FlatSh x) → ∃ ds, Rps H vs ds
  | _, _, .nil, _ => ⟨_, .nil⟩
  | _, _, .cons r rs, h => by
    obtain ⟨⟨dn, hn⟩, ht⟩ := h _ List.mem_cons_self
    obtain ⟨d, rd⟩ := r.rp hn ht
    obtain ⟨ds, rds⟩ := RowsV.rp rs fun x hx => h x (List.mem_cons_of_mem _ hx)
    exact ⟨_, .cons rd rds⟩
theorem FormsG.x {n : Nat} {H : Hp} {v : V} (h : FormsG n H v) : ∃ d, FormsX n H v d := by
  obtain ⟨a, xs, rs, rfl, e2, e3, e4, e5, e6⟩ := h
  have nm : ∀ x ∈ rs.map FRow.n, NmV x := fun x hx => by
    obtain ⟨r, hr, rfl⟩ := List.mem_map.mp hx
    exact (e6 r hr).1
  obtain ⟨r, s⟩ := nm_rps (H := H) nm
  obtain ⟨ds, rds⟩ := e3.rp fun r hr => ⟨⟨_, (e6 r hr).1.flat.rp⟩, (e6 r hr).2.1⟩
  exact ⟨_, .lst e2 rds, fun _ _ => ⟨a, xs, rs, _, rfl, e2, e3, r, s, by omega, fun r hr => (e6 r hr).2⟩⟩
theorem GoodT.x {n : Nat} {H : Hp} {v1 v2 v3 v4 : V} (h : GoodT n H v1 v2 v3 v4) : SpT n H v1 v2 v3 v4 := ⟨h.n1.x, h.n2.x, h.n3.x, h.f.x⟩
theorem SpT.mono {n m : Nat} {H : Hp} {v1 v2 v3 v4 : V} (h : SpT n H v1 v2 v3 v4) (e : n ≤ m) : SpT m H v1 v2 v3 v4 := by
  refine ⟨h.n1, h.n2, h.n3, ?_⟩
  obtain ⟨d, h1, h2⟩ := h.f
  refine ⟨d, h1, fun a b => ?_⟩
  obtain ⟨a, xs, rs, ds, q1, q2, q3, q4, q5, q6, q7⟩ := h2 a b
  exact ⟨a, xs, rs, ds, q1, q2, q3, q4, q5, q6, fun r hr => ⟨(q7 r hr).1, Nat.le_trans (q7 r hr).2 e⟩⟩
theorem list_45 {d : PyData} (h : listD 1 4 d = true) : listD 1 5 d = true := by
  unfold listD at h ⊢
  simp only [Bool.and_eq_true, decide_eq_true_eq] at h ⊢
  exact ⟨h.1, h.2.1, by omega⟩
theorem Rps.app {H : Hp} : ∀ {vs ws : List V} {ds es : List PyData}, Rps H vs ds → Rps H ws es → Rps H (vs ++ ws) (ds ++ es)
  | _, _, _, _, .nil, r => r
  | _, _, _, _, .cons a b, r => .cons a (Rps.app b r)
/-- the parts are right by their shape -/
structure Shape (d1 d2 d3 d4 : PyData) : Prop where
  l1 : listD 1 5 d1 = true
  l2 : listD 1 4 d2 = true
  l3 : listD 1 4 d3 = true
  l4 : listD 1 6 d4 = true
  rows : (itemsD d4).all rowD = true
theorem shape_of {d1 d2 d3 d4 : PyData} (h : partsErr d1 d2 d3 d4 = none) : Shape d1 d2 d3 d4 := by
  unfold partsErr at h
  cases e1 : listD 1 5 d1 with
  | false => rw [e1, if_pos rfl] at h; cases h
  | true =>
  rw [e1, if_neg (by decide)] at h
  cases e2 : listD 1 4 d2 with
  | false => rw [e2, if_pos rfl] at h; cases h
  | true =>
  rw [e2, if_neg (by decide)] at h
  cases e3 : listD 1 4 d3 with
  | false => rw [e3, if_pos rfl] at h; cases h
  | true =>
  rw [e3, if_neg (by decide)] at h
  cases e4 : listD 1 6 d4 with
  | false => rw [e4, Bool.false_and, if_pos rfl] at h; cases h
  | true =>
  rw [e4, Bool.true_and] at h
  cases e5 : (itemsD d4).all rowD with
  | false => rw [e5, if_pos rfl] at h; cases h
  | true => exact ⟨e1, e2, e3, e4, e5⟩
theorem parts_word {d1 d2 d3 d4 : PyData} {z : Str} (h : partsErr d1 d2 d3 d4 = some z) : Sh z := by
  unfold partsErr at h
  split at h
  · cases h; exact ⟨by decide +kernel, by decide +kernel⟩
  split at h
  · cases h; exact ⟨by decide +kernel, by decide +kernel⟩
  split at h
  · cases h; exact ⟨by decide +kernel, by decide +kernel⟩
  split at h
  · cases h; exact ⟨by decide +kernel, by decide +kernel⟩
  · cases h
theorem told_of {n : Nat} {H : Hp} {v1 v2 v3 v4 : V} {d1 d2 d3 d4 : PyData} (h1 : NamesX H v1 d1) (h2 : NamesX H v2 d2) (h3 : NamesX H v3 d3) (h4 : FormsX n H v4 d4) (hn : n ≤ 100) (s : Shape d1 d2 d3 d4) :
    ∃ xs1 xs2 xs3 xs4 ds rs, Told H v1 v2 v3 v4 xs1 xs2 xs3 xs4 ds rs ∧ rs.length ≤ 10 ∧ ∀ r ∈ rs, TsOk n r := by
  obtain ⟨a1, xs1, ds1, rfl, q1, r1, s1, f1⟩ := h1.2 s.l1
  obtain ⟨a2, xs2, ds2, rfl, q2, r2, s2, f2⟩ := h2.2 (list_45 s.l2)
  obtain ⟨a3, xs3, ds3, rfl, q3, r3, s3, f3⟩ := h3.2 (list_45 s.l3)
  obtain ⟨a4, xs4, rs, ds4, rfl, q4, rows, r4, s4, f4, ts⟩ := h4.2 s.l4 s.rows
  refine ⟨xs1, xs2, xs3, xs4, ds1 ++ (ds2 ++ (ds3 ++ ds4)), rs, ⟨⟨a1, rfl, q1⟩, ⟨a2, rfl, q2⟩, ⟨a3, rfl, q3⟩, ⟨a4, rfl, q4⟩, rows, r1.app (r2.app (r3.app r4)), fun d hd => ?_, fun r hr => ⟨(ts r hr).1, Nat.le_trans (ts r hr).2 hn⟩, ?_⟩, f4, ts⟩
  · rcases List.mem_append.mp hd with h | h
    · exact s1 d h
    rcases List.mem_append.mp h with h | h
    · exact s2 d h
    rcases List.mem_append.mp h with h | h
    · exact s3 d h
    · exact s4 d h
  · have := r1.length; have := r2.length; have := r3.length; have := r4.length
    rw [List.length_map] at this
    rw [List.length_append, List.length_append, List.length_append]
    omega
theorem Rps.getV {H : Hp} {vs : List V} {ds : List PyData} (r : Rps H vs ds) (h : ∀ d ∈ ds, shw d) (i : Nat) : ∃ v d, (∀ v', vs[i]? = some v' → v' = v) ∧ Rp H v d ∧ shw d := by
  cases e : vs[i]? with
  | none => exact ⟨.non, .none, (fun v' h => by cases h), .non, .inl trivial⟩
  | some v =>
    obtain ⟨d, hd, rd⟩ := r.nth e
    exact ⟨v, d, (fun v' h => by cases h; rfl), rd, h d (List.mem_of_getElem? hd)⟩
theorem take_mem {roots ts : List V} {b : Bool} {v : V} : ∀ {l : List V} {i : Nat}, takeErr roots ts i l = some (b, v) → v ∈ l
  | [], _, h => by cases h
  | x :: r, i, h => by
    unfold takeErr at h
    split at h
    · cases h; exact List.mem_cons_self
    split at h
    · cases h; exact List.mem_cons_self
    · exact List.mem_cons_of_mem _ (take_mem h)
theorem takes_mem {roots : List V} {b : Bool} {v : V} : ∀ {rs : List FRow}, takesErr roots rs = some (b, v) → ∃ r ∈ rs, v ∈ r.ts
  | [], h => by cases h
  | r :: rs, h => by
    unfold takesErr at h
    split at h
    · rename_i e he
      cases h
      exact ⟨r, List.mem_cons_self, take_mem he⟩
    · obtain ⟨r', hr, hv⟩ := takes_mem h
      exact ⟨r', List.mem_cons_of_mem _ hr, hv⟩
theorem Rps.nm {H : Hp} : ∀ {vs : List V} {ds : List PyData}, Rps H vs ds → (∀ d ∈ ds, nmD d = true) → ∀ v ∈ vs, NmV v
  | _, _, .nil, _, v, h => by cases h
  | _, _, @Rps.cons _ v0 vs d0 ds r rs, g, v, h => by
    rcases List.mem_cons.mp h with rfl | h
    · have e := g d0 List.mem_cons_self
      cases r with
      | str z hz => exact ⟨z, rfl, e⟩
      | _ => cases e
    · exact Rps.nm rs (fun d hd => g d (List.mem_cons_of_mem _ hd)) v h
theorem Rp.lenL {H : Hp} {a : Addr} {xs : List V} {d : PyData} (r : Rp H (.ref a) d) (h : SqD H a xs) : lenD d = xs.length ∧ ∃ ds, itemsD d = ds ∧ Rps H xs ds := by
  cases r with
  | lst e rr =>
    rcases h with h | h
    · rw [e] at h; cases h; exact ⟨rr.length.symm, _, rfl, rr⟩
    · rw [e] at h; cases h
  | tup e rr =>
    rcases h with h | h
    · rw [e] at h; cases h
    · rw [e] at h; cases h; exact ⟨rr.length.symm, _, rfl, rr⟩
theorem list_len {lo hi : Int} {d : PyData} (h : listD lo hi d = true) : lo ≤ (lenD d : Int) ∧ (lenD d : Int) ≤ hi := by
  unfold listD at h
  simp only [Bool.and_eq_true, decide_eq_true_eq] at h
  exact h.2
theorem shw_depth {H : Hp} {v : V} {d : PyData} (r : Rp H v d) (h : shw d) : d.depth ≤ 1 := by
  rcases h with h | ⟨z, rfl, _⟩
  · cases r with
    | lst => exact h.elim
    | tup => exact h.elim
    | _ => exact Nat.zero_le _
  · exact Nat.le_refl _
theorem flat_depth {H : Hp} {v : V} (h : FlatSh v) : ∃ d, Rp H v d ∧ d.depth ≤ 1 :=
  ⟨_, h.rp, by rcases h with rfl | ⟨z, rfl, _⟩ <;> exact Nat.zero_le _⟩
theorem Rp.shaped {H : Hp} {v : V} {d : PyData} (r : Rp H v d) (h : d.depth ≤ 1) : SeqAt.shaped d = true := by
  unfold SeqAt.shaped
  rw [r.lay, decide_eq_true (show d.depth ≤ 64 by omega)]
  rfl
/-- what is due: its kind, and the thing it names -/
structure DueR (n : Nat) (H : Hp) (v1 v2 v3 v4 : V) (kd : Str) (v : V) : Prop where
  rp : ∃ d, Rp H v d ∧ d.depth ≤ 1
  kinds : kd ∈ (["BadStock", "BadName", "Twice", "Unknown", "none"] : List Str)
  good : kd = "none" → GoodT n H v1 v2 v3 v4
  non : kd = "none" → v = .non
theorem due_run {n : Nat} {H : Hp} {v1 v2 v3 v4 : V} (S : SpT n H v1 v2 v3 v4) (hn : n ≤ 100) : ∃ kd v, DueR n H v1 v2 v3 v4 kd v ∧ ∀ {D : Addr} {G : Hp} {Q : VK} {E : XK}, Sq H G → TD G D v1 v2 v3 v4 →
    (∀ H' p, Same G H' → H' p = some (.tup [.str kd, v]) → Q (.ref p) H') → spDue [.ref D] G Q E := by
  obtain ⟨d1, h1⟩ := S.n1
  obtain ⟨d2, h2⟩ := S.n2
  obtain ⟨d3, h3⟩ := S.n3
  obtain ⟨d4, h4⟩ := S.f
  cases pe : partsErr d1 d2 d3 d4 with
  | some z =>
    refine ⟨"BadStock", .str z, ⟨⟨_, .str z (parts_word pe), Nat.zero_le _⟩, by decide, (fun e => absurd e (by decide)), fun e => absurd e (by decide)⟩, fun {D G Q E} sq td k => ?_⟩
    exact ⟨D, v1, v2, v3, v4, d1, d2, d3, d4, rfl, td, h1.1.mono sq, h2.1.mono sq, h3.1.mono sq, h4.1.mono sq, .inl ⟨z, pe, k⟩⟩
  | none =>
  have sp := shape_of pe
  obtain ⟨xs1, xs2, xs3, xs4, ds, rs, T, few, tsok⟩ := told_of h1 h2 h3 h4 hn sp
  have TG : ∀ {G : Hp}, Sq H G → Told G v1 v2 v3 v4 xs1 xs2 xs3 xs4 ds rs := fun {G} sq => by
    obtain ⟨a1, e1, i1⟩ := T.i1
    obtain ⟨a2, e2, i2⟩ := T.i2
    obtain ⟨a3, e3, i3⟩ := T.i3
    obtain ⟨a4, e4, i4⟩ := T.i4
    exact ⟨⟨a1, e1, i1.sq sq⟩, ⟨a2, e2, i2.sq sq⟩, ⟨a3, e3, i3.sq sq⟩, ⟨a4, e4, sq.2 _ _ i4⟩, T.rows.sq sq, T.rps.mono sq, T.shw, T.ts, T.few⟩
  cases e1 : firstBad ds with
  | some i =>
    obtain ⟨v, d, hv, rv, sv⟩ := T.rps.getV T.shw i
    refine ⟨"BadName", v, ⟨⟨d, rv, shw_depth rv sv⟩, by decide, (fun e => absurd e (by decide)), fun e => absurd e (by decide)⟩, fun {D G Q E} sq td k => ?_⟩
    refine ⟨D, v1, v2, v3, v4, d1, d2, d3, d4, rfl, td, h1.1.mono sq, h2.1.mono sq, h3.1.mono sq, h4.1.mono sq, .inr ⟨pe, xs1, xs2, xs3, xs4, ds, rs, TG sq, ?_⟩⟩
    rw [e1]
    intro v' H' p hv' s hp
    rw [hv v' hv'] at hp
    exact k H' p s hp
  | none =>
  cases e2 : firstTwice (allNames xs1 xs2 xs3 rs) 0 (allNames xs1 xs2 xs3 rs) with
  | some i =>
    obtain ⟨v, d, hv, rv, sv⟩ := T.rps.getV T.shw i
    refine ⟨"Twice", v, ⟨⟨d, rv, shw_depth rv sv⟩, by decide, (fun e => absurd e (by decide)), fun e => absurd e (by decide)⟩, fun {D G Q E} sq td k => ?_⟩
    refine ⟨D, v1, v2, v3, v4, d1, d2, d3, d4, rfl, td, h1.1.mono sq, h2.1.mono sq, h3.1.mono sq, h4.1.mono sq, .inr ⟨pe, xs1, xs2, xs3, xs4, ds, rs, TG sq, ?_⟩⟩
    rw [e1]
    dsimp only
    rw [e2]
    intro v' H' p hv' s hp
    rw [hv v' hv'] at hp
    exact k H' p s hp
  | none =>
  cases e3 : takesErr (rootsOf rs) rs with
  | some bv =>
    obtain ⟨b, v⟩ := bv
    obtain ⟨r, hr, hv⟩ := takes_mem e3
    refine ⟨if b = true then "Unknown" else "Twice", v, ⟨flat_depth ((tsok r hr).1 v hv), by cases b <;> decide, (fun e => absurd e (by cases b <;> decide)), fun e => absurd e (by cases b <;> decide)⟩, fun {D G Q E} sq td k => ?_⟩
    refine ⟨D, v1, v2, v3, v4, d1, d2, d3, d4, rfl, td, h1.1.mono sq, h2.1.mono sq, h3.1.mono sq, h4.1.mono sq, .inr ⟨pe, xs1, xs2, xs3, xs4, ds, rs, TG sq, ?_⟩⟩
    rw [e1]
    dsimp only
    rw [e2]
    dsimp only
    rw [e3]
    exact k
  | none =>
    refine ⟨"none", .non, ⟨flat_depth (.inl rfl), by decide, (fun _ => ?_), fun _ => rfl⟩, fun {D G Q E} sq td k => ?_⟩
    · have nm := T.rps.nm (firstBad_none e1)
      have nms : ∀ {m : Int} {v : V} {d : PyData} {xs : List V}, m ≤ 5 → listD 1 m d = true → Rp H v d → (∃ a, v = .ref a ∧ SqD H a xs) → (∀ x ∈ xs, NmV x) → NamesG H v := fun {m v d xs} hm l r ⟨a, e, q⟩ h => by
        subst e
        have := list_len l
        have := (r.lenL q).1
        exact ⟨a, xs, rfl, q, by omega, by omega, h⟩
      refine ⟨nms (by decide) sp.l1 h1.1 T.i1 fun x hx => nm x (List.mem_append.mpr (.inl hx)), nms (by decide) sp.l2 h2.1 T.i2 fun x hx => nm x (List.mem_append.mpr (.inr (List.mem_append.mpr (.inl hx)))),
        nms (by decide) sp.l3 h3.1 T.i3 fun x hx => nm x (List.mem_append.mpr (.inr (List.mem_append.mpr (.inr (List.mem_append.mpr (.inl hx)))))), ?_⟩
      obtain ⟨a4, rfl, i4⟩ := T.i4
      have := list_len sp.l4
      have l4 := (h4.1.lenL (.inl i4)).1
      have := T.rows.len
      exact ⟨a4, xs4, rs, rfl, i4, T.rows, by omega, by omega, fun r hr => ⟨nm _ (List.mem_append.mpr (.inr (List.mem_append.mpr (.inr (List.mem_append.mpr (.inr (List.mem_map.mpr ⟨r, hr, rfl⟩))))))), tsok r hr⟩⟩
    · refine ⟨D, v1, v2, v3, v4, d1, d2, d3, d4, rfl, td, h1.1.mono sq, h2.1.mono sq, h3.1.mono sq, h4.1.mono sq, .inr ⟨pe, xs1, xs2, xs3, xs4, ds, rs, TG sq, ?_⟩⟩
      rw [e1]
      dsimp only
      rw [e2]
      dsimp only
      rw [e3]
      exact k
end K02

/-! k02, part Y: what a spoilt row comes to. -/
namespace K02
open PySem L2 PySem.Spec PyProof.Rows
abbrev tk (v1 v2 v3 v4 : V) : List (Key × V) := [(Sum.inr "stuffs", v1), (Sum.inr "states", v2), (Sum.inr "lands", v3), (Sum.inr "forms", v4)]
theorem Kp.sq {b l D : Addr} {G G' : Hp} {kvs : List (Key × V)} (B : BagL G b l) (hD : G D = some (.dK kvs)) (k : Kp b D G G') : Sq G G' := by
  obtain ⟨ns, a, r, m, c, hb, _⟩ := B
  exact ⟨fun p xs e => k p _ e (ne_of e hb (by intro z; cases z)) (ne_of e hD (by intro z; cases z)), fun p xs e => k p _ e (ne_of e hb (by intro z; cases z)) (ne_of e hD (by intro z; cases z))⟩
theorem BagL.put {H : Hp} {b l D : Addr} {o : HO} (B : BagL H b l) (h1 : D ≠ b) (h2 : D ≠ l) : BagL (upd H D o) b l := by
  obtain ⟨ns, a, r, m, c, hb, hl, hn⟩ := B
  exact ⟨ns, a, r, m, c, by rw [upd_ne (Ne.symm h1)]; exact hb, by rw [upd_ne (Ne.symm h2)]; exact hl, hn⟩
theorem Dr.sq {b l : Addr} {H H' : Hp} (B : BagL H b l) (d : Dr b l H H') : Sq H H' := Sq.but B d.but
theorem ifI {i k : Int} {A B : Prop} (h1 : i = k → A) (h2 : i ≠ k → B) : if decide (V.int i = V.int k) = true then A else B := by
  by_cases h : i = k
  · rw [if_pos (decide_eq_true (by rw [h]))]; exact h1 h
  · rw [if_neg (by rw [decide_eq_false (fun e => h (by injection e))]; exact Bool.false_ne_true)]; exact h2 h
theorem ifS {i k : Str} {A B : Prop} (h1 : i = k → A) (h2 : i ≠ k → B) : if decide (V.str i = V.str k) = true then A else B := by
  by_cases h : i = k
  · rw [if_pos (decide_eq_true (by rw [h]))]; exact h1 h
  · rw [if_neg (by rw [decide_eq_false (fun e => h (by injection e))]; exact Bool.false_ne_true)]; exact h2 h
theorem Rps.set {H : Hp} {v : V} {d : PyData} (r : Rp H v d) : ∀ {vs : List V} {ds : List PyData} (j : Nat), Rps H vs ds → Rps H (vs.set j v) (ds.set j d)
  | _, _, _, .nil => .nil
  | _, _, 0, .cons _ rs => .cons r rs
  | _, _, j + 1, .cons a rs => .cons a (Rps.set r j rs)
theorem RowsV.set {H : Hp} {v : V} {q : FRow} (r : RowV H v q) : ∀ {vs : List V} {rs : List FRow} (j : Nat), RowsV H vs rs → RowsV H (vs.set j v) (rs.set j q)
  | _, _, _, .nil => .nil
  | _, _, 0, .cons _ rs => .cons r rs
  | _, _, j + 1, .cons a rs => .cons a (RowsV.set r j rs)
theorem RowsV.snoc {H : Hp} {v : V} {q : FRow} (r : RowV H v q) : ∀ {vs : List V} {rs : List FRow}, RowsV H vs rs → RowsV H (vs ++ [v]) (rs ++ [q])
  | _, _, .nil => .cons r .nil
  | _, _, .cons a rs => .cons a (RowsV.snoc r rs)
theorem mem_set {α : Type} {x y : α} : ∀ {xs : List α} {j : Nat}, x ∈ xs.set j y → x ∈ xs ∨ x = y
  | [], _, h => .inl h
  | a :: r, 0, h => by
    rcases List.mem_cons.mp h with rfl | h
    · exact .inr rfl
    · exact .inl (List.mem_cons_of_mem _ h)
  | a :: r, j + 1, h => by
    rcases List.mem_cons.mp h with rfl | h
    · exact .inl List.mem_cons_self
    · rcases mem_set h with h | h
      · exact .inl (List.mem_cons_of_mem _ h)
      · exact .inr h
/-- what a row is made of, right or spoilt -/
inductive LineX (n : Nat) (H : Hp) : List V → Prop
  | four {v0 v1 v2 v3 : V} {d0 d1 d2 d3 : PyData} : Rp H v0 d0 → shw d0 → Rp H v1 d1 → Rp H v2 d2 → Rp H v3 d3 → (dL d3 = true → ∃ t ts, v3 = .ref t ∧ SqD H t ts ∧ (∀ x ∈ ts, FlatSh x) ∧ ts.length ≤ n) → LineX n H [v0, v1, v2, v3]
  | three {v0 v1 v2 : V} {d0 d1 d2 : PyData} : Rp H v0 d0 → Rp H v1 d1 → Rp H v2 d2 → LineX n H [v0, v1, v2]
theorem LineX.sq {n : Nat} {H H' : Hp} {ys : List V} (h : LineX n H ys) (s : Sq H H') : LineX n H' ys := by
  cases h with
  | four a b c d e f =>
    refine .four (a.mono s) b (c.mono s) (d.mono s) (e.mono s) fun q => ?_
    obtain ⟨t, ts, e1, e2, e3⟩ := f q
    exact ⟨t, ts, e1, e2.sq s, e3⟩
  | three a b c => exact .three (a.mono s) (b.mono s) (c.mono s)
theorem LineX.row {n : Nat} {H : Hp} {ys : List V} {a : Addr} (h : LineX n H ys) (q : SqD H a ys) : ∃ d, Rp H (.ref a) d ∧ (rowD d = true → ∃ r, RowV H (.ref a) r ∧ (∃ dn, Rp H r.n dn ∧ shw dn) ∧ TsOk n r) := by
  cases h with
  | @four v0 v1 v2 v3 d0 d1 d2 d3 r0 s0 r1 r2 r3 f =>
    obtain ⟨d, rd, _, id, _⟩ := q.rp (.cons r0 (.cons r1 (.cons r2 (.cons r3 .nil))))
    refine ⟨d, rd, fun e => ?_⟩
    have at1 : atD d 1 = d1 ∧ atD d 2 = d2 ∧ atD d 3 = d3 := by
      cases d with
      | list ds => have : ds = [d0, d1, d2, d3] := id; subst this; exact ⟨rfl, rfl, rfl⟩
      | tuple ds => have : ds = [d0, d1, d2, d3] := id; subst this; exact ⟨rfl, rfl, rfl⟩
      | _ => cases id
    unfold rowD at e
    rw [at1.1, at1.2.1, at1.2.2] at e
    simp only [Bool.and_eq_true] at e
    obtain ⟨_, e1, e2, _, _, _, e3, _⟩ := e
    have q1 := r1.num e1
    have q2 := r2.num e2
    subst q1 q2
    obtain ⟨t, ts, rfl, st, fl, ln⟩ := f e3
    exact ⟨⟨v0, _, _, ts⟩, ⟨a, t, rfl, q, st⟩, ⟨d0, r0, s0⟩, fl, ln⟩
  | @three v0 v1 v2 d0 d1 d2 r0 r1 r2 =>
    obtain ⟨d, rd, _, _, ld⟩ := q.rp (.cons r0 (.cons r1 (.cons r2 .nil)))
    refine ⟨d, rd, fun e => ?_⟩
    unfold rowD at e
    simp only [Bool.and_eq_true] at e
    have := (list_len e.1).1
    rw [ld] at this
    have h4 : (4 : Int) ≤ ((3 : Nat) : Int) := this
    omega
/-- a list of rows with one of them another -/
theorem forms_set {n : Nat} {H : Hp} {R j : Addr} {xs : List V} {rs : List FRow} {ds : List PyData} {x : V} {d : PyData} (hR : H R = some (.lst (xs.set j x))) (rows : RowsV H xs rs) (rp : Rps H xs ds) (nm : ∀ r ∈ rs, (∃ dn, Rp H r.n dn ∧ shw dn) ∧ TsOk n r) (few : rs.length ≤ 10) (hj : j < xs.length)
    (rx : Rp H x d) (hx : rowD d = true → ∃ r, RowV H x r ∧ (∃ dn, Rp H r.n dn ∧ shw dn) ∧ TsOk n r) : FormsX n H (.ref R) (.list (ds.set j d)) := by
  refine ⟨.lst hR (rp.set rx j), fun _ al => ?_⟩
  have al : (ds.set j d).all rowD = true := al
  have hd : rowD d = true := List.all_eq_true.mp al d (by
    have : j < ds.length := by rw [← rp.length]; exact hj
    exact List.mem_iff_getElem?.mpr ⟨j, by rw [List.getElem?_set_self this]⟩)
  obtain ⟨r, rv, rn, rt⟩ := hx hd
  have all : ∀ q ∈ rs.set j r, (∃ dn, Rp H q.n dn ∧ shw dn) ∧ TsOk n q := fun q hq => by
    rcases mem_set hq with h | rfl
    · exact nm q h
    · exact ⟨rn, rt⟩
  have names : ∀ {l : List FRow}, (∀ q ∈ l, ∃ dn, Rp H q.n dn ∧ shw dn) → ∃ es, Rps H (l.map FRow.n) es ∧ ∀ e ∈ es, shw e := fun {l} h => by
    induction l with
    | nil => exact ⟨[], .nil, fun e he => by cases he⟩
    | cons q l ih =>
      obtain ⟨dn, h1, h2⟩ := h q List.mem_cons_self
      obtain ⟨es, h3, h4⟩ := ih fun x hx => h x (List.mem_cons_of_mem _ hx)
      refine ⟨dn :: es, .cons h1 h3, fun e he => ?_⟩
      rcases List.mem_cons.mp he with rfl | he
      · exact h2
      · exact h4 e he
  obtain ⟨es, h1, h2⟩ := names fun q hq => (all q hq).1
  exact ⟨R, _, rs.set j r, es, rfl, hR, rows.set rv j, h1, h2, by rw [List.length_set]; exact few, fun q hq => (all q hq).2⟩
/-- a list of names with one thing in the place of one -/
theorem names_set {H : Hp} {R j : Addr} {xs : List V} {x : V} {d : PyData} (hR : H R = some (.lst (xs.set j x))) (nm : ∀ y ∈ xs, NmV y) (few : xs.length ≤ 10) (rx : Rp H x d) (sx : shw d) : NamesX H (.ref R) (.list ((xs.map dV).set j d)) := by
  obtain ⟨rp, sh⟩ := nm_rps (H := H) nm
  refine ⟨.lst hR (rp.set rx j), fun _ => ⟨R, _, _, rfl, .inl hR, rp.set rx j, fun e he => ?_, by rw [List.length_set]; exact few⟩⟩
  rcases mem_set he with h | rfl
  · exact sh e h
  · exact sx
theorem no_list {H : Hp} {v : V} {d : PyData} (r : Rp H v d) (h : ∀ m : Int, m ≤ 6 → listD 1 m d = false) (n : Nat) : NamesX H v d ∧ FormsX n H v d :=
  ⟨⟨r, fun e => by rw [h 5 (by decide)] at e; cases e⟩, ⟨r, fun e => by rw [h 6 (by decide)] at e; cases e⟩⟩
end K02

/-! k02, part Z: _law_spoil. -/
namespace K02
open PySem L2 PySem.Spec PyProof.Rows
abbrev sSpoil : Stmt := top 44
abbrev slN : List Str := ["_law_bag_here", "_law_told", "_law_name", "_law_row", "_law_way", "_law_at", "_law_line", "_law_letter"]
/-- the heap without these two -/
def wo (R L : Addr) (G : Hp) : Hp := fun a => if a = R ∨ a = L then none else G a
theorem wo_get {R L a : Addr} {G : Hp} {u : HO} (e : G a = some u) (h1 : a ≠ R) (h2 : a ≠ L) : wo R L G a = some u := by
  unfold wo
  rw [if_neg (fun h => h.elim h1 h2)]
  exact e
theorem wo_some {R L a : Addr} {G : Hp} {u : HO} (e : wo R L G a = some u) : a ≠ R ∧ a ≠ L ∧ G a = some u := by
  unfold wo at e
  by_cases h : a = R ∨ a = L
  · rw [if_pos h] at e; cases e
  · rw [if_neg h] at e
    exact ⟨fun z => h (.inl z), fun z => h (.inr z), e⟩
theorem wo_to {R L L' : Addr} {G G' : Hp} (k : ∀ a u, a ≠ R → a ≠ L → G a = some u → (∀ kvs, u ≠ .dK kvs) → a ≠ L' ∧ G' a = some u) : Sq (wo R L G) (wo R L' G') := by
  refine ⟨fun a xs e => ?_, fun a xs e => ?_⟩
  · obtain ⟨h1, h2, e⟩ := wo_some e
    obtain ⟨h3, e'⟩ := k a _ h1 h2 e (by intro kvs h; cases h)
    exact wo_get e' h1 h3
  · obtain ⟨h1, h2, e⟩ := wo_some e
    obtain ⟨h3, e'⟩ := k a _ h1 h2 e (by intro kvs h; cases h)
    exact wo_get e' h1 h3
theorem wo_out {R L : Addr} {G G' : Hp} (k : ∀ a u, a ≠ R → a ≠ L → G a = some u → (∀ kvs, u ≠ .dK kvs) → G' a = some u) : Sq (wo R L G) G' := by
  refine ⟨fun a xs e => ?_, fun a xs e => ?_⟩
  · obtain ⟨h1, h2, e⟩ := wo_some e
    exact k a _ h1 h2 e (by intro kvs h; cases h)
  · obtain ⟨h1, h2, e⟩ := wo_some e
    exact k a _ h1 h2 e (by intro kvs h; cases h)
/-- what stands, but dicts, stands -/
def Kd (G G' : Hp) : Prop := ∀ a u, G a = some u → (∀ kvs, u ≠ .dK kvs) → G' a = some u
theorem Kd.of {G G' : Hp} (s : Same G G') : Kd G G' := fun a u e _ => s a u e
theorem Kd.but {b l : Addr} {G G' : Hp} (B : BagL G b l) (s : But b G G') : Kd G G' := fun a u e n => s a u e fun z => by
  obtain ⟨ns, x, r, m, c, hb, _⟩ := B
  rw [z, hb] at e
  cases e
  exact n _ rfl
theorem Kd.trans {G G1 G2 : Hp} (x : Kd G G1) (y : Kd G1 G2) : Kd G G2 := fun a u e n => y a u (x a u e n) n
theorem Kd.wo {R L : Addr} {G G' : Hp} (k : Kd G G') : Sq (wo R L G) (wo R L G') := wo_to fun a u _ h2 e n => ⟨h2, k a u e n⟩
theorem Kd.sq {G G' : Hp} (k : Kd G G') : Sq G G' := ⟨fun a xs e => k a _ e (by intro kvs h; cases h), fun a xs e => k a _ e (by intro kvs h; cases h)⟩
theorem at0 {y : V} {r : List V} : atI (y :: r) 0 = some y := atI_nat (j := 0) rfl
theorem NamesG.first {H : Hp} {v : V} (h : NamesG H v) : ∃ a y r, v = .ref a ∧ SqD H a (y :: r) ∧ NmV y := by
  obtain ⟨a, xs, e, q, l1, _, m⟩ := h
  cases xs with
  | nil => exact absurd l1 (by decide)
  | cons y r => exact ⟨a, y, r, e, q, m y List.mem_cons_self⟩
theorem FormsG.first {n : Nat} {H : Hp} {v : V} (h : FormsG n H v) : ∃ a q t r, ∃ row : FRow, v = .ref a ∧ H a = some (.lst (.ref q :: r)) ∧ SqD H q [row.n, .int row.lo, .int row.hi, .ref t] ∧ NmV row.n := by
  obtain ⟨a, xs, rs, e, q, rows, l1, _, m⟩ := h
  cases rows with
  | nil => exact absurd l1 (by decide)
  | cons rv rows =>
    obtain ⟨a', t, rfl, h1, _⟩ := rv
    exact ⟨a, a', t, _, _, e, q, h1, (m _ List.mem_cons_self).1⟩
def spSpoil (n : Nat) : Sp := fun vs H Q _ => ∃ b l D v1 v2 v3 v4, vs = [.ref b, .ref D] ∧ BagL H b l ∧ D ≠ b ∧ D ≠ l ∧ H D = some (.dK (tk v1 v2 v3 v4)) ∧ GoodT n H v1 v2 v3 v4 ∧
  ∀ H' w1 w2 w3 w4, BagL H' b l → H' D = some (.dK (tk w1 w2 w3 w4)) → SpT (n + 1) H' w1 w2 w3 w4 → Kp b D H H' → Q .non H'
/-- told[name] holds d -/
def KX (n : Nat) (b l D : Addr) (v1 v2 v3 v4 : V) (H : Hp) (Q : VK) (z : Str) : Prop := ∀ w d G, BagL G b l → G D = some (.dK (putK (tk v1 v2 v3 v4) (Sum.inr z) w)) → ((z ≠ "forms" ∧ NamesX G w d) ∨ (z = "forms" ∧ FormsX (n + 1) G w d)) → Kp b D H G → Q .non G
/-- the row that is being spoilt, behind the k-th way -/
structure PM (b l D R : Addr) (H : Hp) (xs : List V) (way : Int) (j : Nat) (org : List V) (n : Nat) (k : Int) (σ : L2.St) (G : Hp) (Ln : Addr) (ys : List V) (o7 : Option V) : Prop where
  st : σ = [some (.ref b), some (.ref D), some (.str "forms"), some (.ref R), some (.int way), some (.int (j : Nat)), some (.ref Ln), o7]
  dr : Dr b l H G
  hR : G R = some (.lst xs)
  hL : G Ln = some (.lst ys)
  LR : Ln ≠ R
  Lb : Ln ≠ b
  Ll : Ln ≠ l
  L0 : H Ln = none
  x : LineX (n + 1) (wo R Ln G) ys
  o : k < way → ys = org
def PMx (b l D R : Addr) (H : Hp) (xs : List V) (way : Int) (j : Nat) (org : List V) (n : Nat) (k : Int) : L2.St → Hp → Prop := fun σ G => ∃ Ln ys o7, PM b l D R H xs way j org n k σ G Ln ys o7
section
variable {b l D R : Addr} {H : Hp} {xs : List V} {way : Int} {j : Nat} {org : List V} {n : Nat} {k k' : Int} {σ : L2.St} {G G' : Hp} {Ln : Addr} {ys : List V} {o7 : Option V}
theorem PM.next (p : PM b l D R H xs way j org n k σ G Ln ys o7) (e : k < k') : PMx b l D R H xs way j org n k' σ G := ⟨Ln, ys, o7, p.st, p.dr, p.hR, p.hL, p.LR, p.Lb, p.Ll, p.L0, p.x, fun h => p.o (by omega)⟩
theorem wo_upd {R L : Addr} {G : Hp} {o : HO} : wo R L (upd G L o) = wo R L G := by
  funext a
  unfold wo
  by_cases h : a = R ∨ a = L
  · rw [if_pos h, if_pos h]
  · rw [if_neg h, if_neg h, upd_ne fun z => h (.inr z)]
/-- an entry of the row is written -/
theorem PM.put (p : PM b l D R H xs way j org n k σ G Ln ys o7) (d : Dr b l H G') (hR : G' R = some (.lst xs)) {zs : List V} (x : LineX (n + 1) (wo R Ln G') zs) (e : ¬ k' < way) : PMx b l D R H xs way j org n k' σ (upd G' Ln (.lst zs)) :=
  ⟨Ln, zs, o7, p.st, d.put p.L0 p.Lb p.Ll, by rw [upd_ne (Ne.symm p.LR)]; exact hR, upd_same, p.LR, p.Lb, p.Ll, p.L0, by rw [wo_upd]; exact x, fun h => absurd h e⟩
theorem wo_H (d : Dr b l H G) (B : BagL H b l) (hR : H R = none) (hL : H Ln = none) : Sq H (wo R Ln G) := by
  have sq := d.sq B
  refine ⟨fun a xs e => wo_get (sq.1 a xs e) (fun z => ?_) (fun z => ?_), fun a xs e => wo_get (sq.2 a xs e) (fun z => ?_) (fun z => ?_)⟩
  · rw [z, hR] at e; cases e
  · rw [z, hL] at e; cases e
  · rw [z, hR] at e; cases e
  · rw [z, hL] at e; cases e
end
section
variable {P : Program} {w : World} {K : PySem.W.Frag} {mg : Str → Option Value} {base : Heap}
theorem scSpoil : FnScope slN ["_law_bag_here", "_law_told"] (defScope sSpoil) := ⟨rfl, rfl, rfl, by decide +kernel, rfl, by decide +kernel, by decide +kernel⟩
theorem ok_spoil {n : Nat} (hn : n ≤ 50) {f fp fc fo : Addr} {fd fdp fdc fdo : FuncData} (F : Fun K "_law_spoil" "_law_spoil" sSpoil f fd) (N : Nms mg) (DP : Df K mg "_law_pick" sPick ["_law_bag_here", "_law_many"] fp fdp) (GP : FnOk P w K mg base CX0 1 fp fdp ["_law_bag_here", "_law_many"] spPick)
    (DC : Df K mg "_law_choice" sChoice ["_law_bag_here", "_law_things"] fc fdc) (GC : FnOk P w K mg base CX0 2 fc fdc ["_law_bag_here", "_law_things"] (spChoice K)) (DO : Df K mg "_law_odd_name" sOdd ["_law_bag_here"] fo fdo) (GO : FnOk P w K mg base CX0 3 fo fdo ["_law_bag_here"] spOdd) :
    FnOk P w K mg base CX0 4 f fd ["_law_bag_here", "_law_told"] (spSpoil n) := by
  refine F.ok scSpoil (fun vs H Q E h => ?_) (fun cdv A0 outer s0 H vs Q E hr h => ?_)
  · obtain ⟨b, l, D, v1, v2, v3, v4, rfl, _⟩ := h
    rfl
  · obtain ⟨b, l, D, v1, v2, v3, v4, rfl, B, Db, Dl, hD, gd, k⟩ := h
    have nd := scSpoil.nd
    have hu := hu_of hr
    have r1 := hr.mono (show 1 ≤ 3 by decide)
    have r2 := hr.mono (show 2 ≤ 3 by decide)
    refine ⟨_, pss_cons (ps_set (i := 2) nd rfl (Or.inl rfl) (pe_call GC r2 rfl DC.g DC.F.kp DC.b .nil pass0 (pa_cons (pv 0) (pa_cons (pe_lst (pa_cons pe_str (pa_cons pe_str (pa_cons pe_str (pa_cons pe_str pa_nil))))) pa_nil))))
      (C8.pss_cut (ps_set (i := 3) nd rfl (Or.inl rfl) (pe_callTy call_list_of (by rfl) N.list (by decide +kernel) (pa_cons (pe_dget hu (pv 1) (pv 2) (fun _ _ => rfl)) pa_nil)))
      (pss_cons (ps_set (i := 4) nd rfl (Or.inl rfl) (pe_call GP r1 rfl DP.g DP.F.kp DP.b .nil pass0 (pa_cons (pv 0) (pa_cons pe_int pa_nil))))
      (pss_cons (ps_if (pt_cmpR op_eq (pv 4) pe_int (nomark _)) (pss_cons (ps_dput hu (pv 1) (pv 2) (pe_call GC r2 rfl DC.g DC.F.kp DC.b .nil pass0 (pa_cons (pv 0) (pa_cons (pe_lst (pa_cons (pe_lst pa_nil) (pa_cons (pe_op op_cat (pv 3)
            (pe_lc (own := [("_law_letter", 7)]) (g := gName 7) (tt := tYes) rfl nd (pi_str pe_str) (blkOk_by (N := slN) (sc := defScope sSpoil) (by decide +kernel)) (fun _ _ _ _ _ => pg_name (i := 7) nd rfl (Or.inl rfl)) (fun _ _ _ _ _ => pts_nil) (fun _ _ _ _ _ => pe_op op_add_str pe_str (pv 7))))
            (pa_cons pe_non (pa_cons pe_str pa_nil))))) pa_nil))) rfl) (pss_one ps_retN)) pss_nil)
      (pss_cons (ps_set (i := 5) nd rfl (Or.inl rfl) (pe_call GP r1 rfl DP.g DP.F.kp DP.b .nil pass0 (pa_cons (pv 0) (pa_cons (pe_callB call_len (by rfl) N.len PySem.boot_len (pa_cons (pv 3) pa_nil)) pa_nil))))
      (C8.pss_cut (ps_if (pt_cmpR op_eq (pv 2) pe_str (nomark _))
        (pss_cons (ps_set (i := 6) nd rfl (Or.inl rfl) (pe_callTy call_list_of (by rfl) N.list (by decide +kernel) (pa_cons (pe_ix ix_list (pv 3) (pv 5) (fun _ _ => rfl)) pa_nil)))
        (C8.pss_cut (ps_if (pt_cmpR op_eq (pv 4) pe_int (nomark _)) (pss_one (ps_asg (pe_call GC r2 rfl DC.g DC.F.kp DC.b .nil pass0 (pa_cons (pv 0) (pa_cons (pe_lst (pa_cons pe_int (pa_cons pe_int (pa_cons pe_bl (pa_cons pe_non (pa_cons (pe_op op_add (pe_ix ix_list (pv 6) pe_int (fun _ _ => rfl)) pe_int)
            (pa_cons (pe_ix ix_list (pv 6) pe_int (fun _ _ => rfl)) (pa_cons pe_str pa_nil)))))))) pa_nil))) (pg_sub (pv 6) pe_int set_list))) pss_nil)
        (C8.pss_cut (ps_if (pt_cmpR op_eq (pv 4) pe_int (nomark _)) (pss_one (ps_asg (pe_call GC r2 rfl DC.g DC.F.kp DC.b .nil pass0 (pa_cons (pv 0) (pa_cons (pe_lst (pa_cons pe_int (pa_cons pe_int (pa_cons pe_bl (pa_cons (pe_op op_sub (pe_ix ix_list (pv 6) pe_int (fun _ _ => rfl)) pe_int)
            (pa_cons (pe_ix ix_list (pv 6) pe_int (fun _ _ => rfl)) (pa_cons pe_int pa_nil))))))) pa_nil))) (pg_sub (pv 6) pe_int set_list))) pss_nil)
        (C8.pss_cut (ps_if (pt_cmpR op_eq (pv 4) pe_int (nomark _)) (pss_one (ps_asg (pe_call GC r2 rfl DC.g DC.F.kp DC.b .nil pass0 (pa_cons (pv 0) (pa_cons (pe_lst (pa_cons (pe_lst pa_nil) (pa_cons pe_str (pa_cons pe_non (pa_cons (pe_tup pa_nil) (pa_cons (pe_lst (pa_cons pe_str pa_nil)) pa_nil)))))) pa_nil))) (pg_sub (pv 6) pe_int set_list))) pss_nil)
        (C8.pss_cut (ps_if (pt_cmpR op_eq (pv 4) pe_int (nomark _)) (pss_one (ps_asg (pe_op op_cat (pe_callTy call_list_of (by rfl) N.list (by decide +kernel) (pa_cons (pe_ix ix_list (pv 6) pe_int (fun _ _ => rfl)) pa_nil)) (pe_lst (pa_cons (pe_call GC r2 rfl DC.g DC.F.kp DC.b .nil pass0 (pa_cons (pv 0) (pa_cons (pe_lst
            (pa_cons (pe_ix ix_seq (pe_ix ix_list (pe_dget hu (pv 1) pe_str (fun _ _ => rfl)) pe_int (fun _ _ => rfl)) pe_int (fun _ _ => rfl)) (pa_cons pe_str (pa_cons (pe_ix ix_seq (pe_dget hu (pv 1) pe_str (fun _ _ => rfl)) pe_int (fun _ _ => rfl)) (pa_cons pe_str (pa_cons pe_non pa_nil)))))) pa_nil))) pa_nil))) (pg_sub (pv 6) pe_int set_list))) pss_nil)
        (C8.pss_cut (ps_if (pt_cmpR op_eq (pv 4) pe_int (nomark _)) (pss_one (ps_set (i := 6) nd rfl (Or.inl rfl) (pe_slice sl_list (pv 6) po_none (po_some pe_int)))) pss_nil)
        (C8.pss_cut (ps_if (pt_cmpR op_eq (pv 4) pe_int (nomark _)) (pss_one (ps_asg (pe_call GC r2 rfl DC.g DC.F.kp DC.b .nil pass0 (pa_cons (pv 0) (pa_cons (pe_lst (pa_cons (pe_call GO hr rfl DO.g DO.F.kp DO.b .nil pass0 (pa_cons (pv 0) pa_nil))
            (pa_cons (pe_ix ix_seq (pe_dget hu (pv 1) pe_str (fun _ _ => rfl)) pe_int (fun _ _ => rfl)) (pa_cons (pe_ix ix_list (pv 6) pe_int (fun _ _ => rfl)) pa_nil)))) pa_nil))) (pg_sub (pv 6) pe_int set_list))) pss_nil)
        (pss_one (ps_asg (pe_call GC r2 rfl DC.g DC.F.kp DC.b .nil pass0 (pa_cons (pv 0) (pa_cons (pe_lst (pa_cons (pv 6) (pa_cons (pe_callTy call_tupOf (by rfl) N.tuple (by decide +kernel) (pa_cons (pv 6) pa_nil)) pa_nil))) pa_nil))) (pg_sub (pv 3) (pv 5) set_list))))))))))
        (pss_one (ps_if (pt_cmpR op_lt (pv 4) pe_int (nomark _)) (pss_one (ps_asg (pe_call GO hr rfl DO.g DO.F.kp DO.b .nil pass0 (pa_cons (pv 0) pa_nil)) (pg_sub (pv 3) (pv 5) set_list)))
          (pss_one (ps_asg (pe_call GC r2 rfl DC.g DC.F.kp DC.b .nil pass0 (pa_cons (pv 0) (pa_cons (pe_lst (pa_cons (pe_ix ix_seq (pe_dget hu (pv 1) pe_str (fun _ _ => rfl)) pe_int (fun _ _ => rfl)) (pa_cons (pe_ix ix_seq (pe_dget hu (pv 1) pe_str (fun _ _ => rfl)) pe_int (fun _ _ => rfl))
            (pa_cons (pe_ix ix_seq (pe_ix ix_list (pe_dget hu (pv 1) pe_str (fun _ _ => rfl)) pe_int (fun _ _ => rfl)) pe_int (fun _ _ => rfl)) (pa_cons (pe_ix ix_list (pv 3) (pv 5) (fun _ _ => rfl)) pa_nil))))) pa_nil))) (pg_sub (pv 3) (pv 5) set_list))))))
      (pss_one (ps_dput hu (pv 1) (pv 2) (pv 3) rfl))))))), ?_⟩
    have new : ∀ {G : Hp} {p : Addr}, Dr b l H G → G p = none → H p = none ∧ p ≠ b ∧ p ≠ l := fun {G p} d e => by
      have nb := d.bag.ne_b e
      refine ⟨?_, nb, d.bag.ne_l e⟩
      cases q : H p with
      | none => rfl
      | some o => rw [d.but _ _ q nb] at e; cases e
    have atD' : ∀ {G : Hp}, Dr b l H G → G D = some (.dK (tk v1 v2 v3 v4)) := fun {G} d => d.but _ _ hD Db
    have fin : ∀ {z : Str} {w : V} {d : PyData} {G : Hp}, KX n b l D v1 v2 v3 v4 H Q z → Dr b l H G → ((z ≠ "forms" ∧ NamesX G w d) ∨ (z = "forms" ∧ FormsX (n + 1) G w d)) → Q .non (upd G D (.dK (putK (tk v1 v2 v3 v4) (Sum.inr z) w))) := fun {z w d G} kx g c => by
      have hDG := atD' g
      have sq : Sq G (upd G D (.dK (putK (tk v1 v2 v3 v4) (Sum.inr z) w))) := ⟨fun a xs e => by rw [upd_ne (ne_of e hDG (by intro z; cases z))]; exact e, fun a xs e => by rw [upd_ne (ne_of e hDG (by intro z; cases z))]; exact e⟩
      exact kx w d _ (g.bag.put Db Dl) upd_same (c.imp (fun h => ⟨h.1, h.2.sq sq⟩) fun h => ⟨h.1, h.2.sq sq⟩) fun c u e nb nD => by rw [upd_ne nD]; exact g.but c u e nb
    have part : ∀ x ∈ [V.str "stuffs", .str "states", .str "lands", .str "forms"], ∃ z v, x = .str z ∧ valV (tk v1 v2 v3 v4) (Sum.inr z) = some v ∧ KX n b l D v1 v2 v3 v4 H Q z ∧ ((z ≠ "forms" ∧ NamesG H v) ∨ (z = "forms" ∧ FormsG n H v)) := by
      intro x hx
      have up : ∀ {G : Hp}, Kp b D H G → SpT (n + 1) G v1 v2 v3 v4 := fun {G} kp => (gd.sq (Kp.sq B hD kp)).x.mono (Nat.le_succ n)
      simp only [List.mem_cons, List.not_mem_nil, or_false] at hx
      rcases hx with rfl | rfl | rfl | rfl
      · refine ⟨_, v1, rfl, rfl, fun w d G BG hG c kp => ?_, .inl ⟨by decide, gd.n1⟩⟩
        rcases c with ⟨_, c⟩ | ⟨e, _⟩
        · have u := up kp
          exact k G w v2 v3 v4 BG hG ⟨⟨d, c⟩, u.n2, u.n3, u.f⟩ kp
        · exact absurd e (by decide)
      · refine ⟨_, v2, rfl, rfl, fun w d G BG hG c kp => ?_, .inl ⟨by decide, gd.n2⟩⟩
        rcases c with ⟨_, c⟩ | ⟨e, _⟩
        · have u := up kp
          exact k G v1 w v3 v4 BG hG ⟨u.n1, ⟨d, c⟩, u.n3, u.f⟩ kp
        · exact absurd e (by decide)
      · refine ⟨_, v3, rfl, rfl, fun w d G BG hG c kp => ?_, .inl ⟨by decide, gd.n3⟩⟩
        rcases c with ⟨_, c⟩ | ⟨e, _⟩
        · have u := up kp
          exact k G v1 v2 w v4 BG hG ⟨u.n1, u.n2, ⟨d, c⟩, u.f⟩ kp
        · exact absurd e (by decide)
      · refine ⟨_, v4, rfl, rfl, fun w d G BG hG c kp => ?_, .inr ⟨rfl, gd.f⟩⟩
        rcases c with ⟨e, _⟩ | ⟨_, c⟩
        · exact absurd rfl e
        · have u := up kp
          exact k G v1 v2 v3 w BG hG ⟨u.n1, u.n2, u.n3, ⟨d, c⟩⟩ kp
    refine ⟨_, rfl, by decide, fun L nL => ?_⟩
    obtain ⟨L0, Lb, Ll⟩ := new (Dr.refl B) nL
    have d1 := (Dr.refl B).put (o := .lst [.str "stuffs", .str "states", .str "lands", .str "forms"]) L0 Lb Ll
    refine ⟨b, l, L, _, rfl, upd_same, Lb, by decide, by decide, d1.bag, fun x H2 xin B2 t2 _ => ?_⟩
    obtain ⟨z, v, rfl, hv, kx, cs⟩ := part x xin
    have d2 := d1.trans ⟨B2, t2⟩
    refine ⟨fun σ G => ∃ R xs ds, σ = [some (.ref b), some (.ref D), some (.str z), some (.ref R), none, none, none, none] ∧ Dr b l H G ∧ G R = some (.lst xs) ∧ H R = none ∧ R ≠ b ∧ R ≠ l ∧ R ≠ D ∧ 1 ≤ xs.length ∧ xs.length ≤ 6 ∧ Rps H xs ds ∧
      ((z ≠ "forms" ∧ ∀ x ∈ xs, NmV x) ∨ (z = "forms" ∧ ∃ rs, RowsV H xs rs ∧ ∀ r ∈ rs, NmV r.n ∧ TsOk n r)), ?_, ?_⟩
    · have gD := DGet.k (k := Sum.inr z) (atD' d2)
      rw [hv] at gD
      obtain ⟨a, xs, ds, rfl, sq, l1, l6, rp, cc⟩ : ∃ a xs ds, v = .ref a ∧ SqD H a xs ∧ 1 ≤ xs.length ∧ xs.length ≤ 6 ∧ Rps H xs ds ∧ ((z ≠ "forms" ∧ ∀ x ∈ xs, NmV x) ∨ (z = "forms" ∧ ∃ rs, RowsV H xs rs ∧ ∀ r ∈ rs, NmV r.n ∧ TsOk n r)) := by
        rcases cs with ⟨zn, a, xs, rfl, q1, q2, q3, q4⟩ | ⟨ze, a, xs, rs, rfl, q1, q2, q3, q4, q5⟩
        · exact ⟨a, xs, _, rfl, q1, q2, by omega, (nm_rps (H := H) q4).1, .inl ⟨zn, q4⟩⟩
        · obtain ⟨ds, rds⟩ := q2.rp fun r hr => ⟨⟨_, (q5 r hr).1.flat.rp⟩, (q5 r hr).2.1⟩
          have := q2.len
          exact ⟨a, xs, ds, rfl, .inl q1, by omega, by omega, rds, .inr ⟨ze, rs, q2, q5⟩⟩
      refine ⟨_, rfl, _, rfl, D, _, rfl, gD, a, xs, rfl, (sq.sq (d2.sq B)).imp (fun e => SqL.of e) (fun e => SqT.of e), fun R nR => ?_⟩
      obtain ⟨R0, Rb, Rl⟩ := new d2 nR
      exact ⟨R, xs, ds, rfl, d2.put R0 Rb Rl, upd_same, R0, Rb, Rl, Ne.symm (ne_of_none (atD' d2) nR), l1, l6, rp, cc⟩
    rintro σ1 G1 ⟨R, xs, ds, rfl, g1, hR, R0, Rb, Rl, RD, l1, l6, rp, cc⟩
    refine ⟨_, rfl, b, l, 7, rfl, by decide, by decide, g1.bag, fun way G2 w0 w7 B2 t2 _ => ?_⟩
    have g2 := g1.trans ⟨B2, t2⟩
    have hR2 := t2 _ _ hR Rb
    clear g1 hR t2 B2
    refine ⟨_, rfl, rfl, _, rfl, ifI (fun e => ?_) (fun ne => ?_)⟩
    · subst e
      refine ⟨_, rfl, by decide, fun E1 nE => ?_⟩
      obtain ⟨E0, Eb, El⟩ := new g2 nE
      have g3 := g2.put (o := .lst []) E0 Eb El
      have hE : upd G2 E1 (.lst []) E1 = some (.lst []) := upd_same
      have hR3 : upd G2 E1 (.lst []) R = some (.lst xs) := by rw [upd_ne (ne_of_none hR2 nE)]; exact hR2
      generalize upd G2 E1 (.lst []) = G3 at g3 hE hR3 ⊢
      refine ⟨_, rfl, _, rfl, fun C nC => ?_⟩
      obtain ⟨C0, Cb, Cl⟩ := new g3 nC
      have s4 := same_new (o := .lst []) (Same.rfl' (H := G3)) nC
      refine lc_it walk_str (fun i G => Same G3 G ∧ ∃ ys : List Str, G C = some (.lst (ys.map V.str)) ∧ ys.length = i ∧ ∀ y ∈ ys, Sh y) ⟨s4, [], upd_same, rfl, fun y hy => by cases hy⟩ (fun _ _ _ _ => True.intro) ?_ ?_
      · rintro i x G4 G5 hi ⟨s5, ys, hC, ly, sh⟩ ⟨rfl, c, hc, rfl⟩
        have hi' : i < 6 := hi
        have csh : Sh ("zzzzzzzzzz" ++ (⟨#[c]⟩ : Str)) := by
          have hm : c ∈ ("abcdef" : Str).cps.toList := by
            rw [← Array.getElem?_toList] at hc
            exact List.mem_of_getElem? hc
          have : ∀ c ∈ ("abcdef" : Str).cps.toList, low7 c = true := by decide +kernel
          refine (odd_sh (z := "zzzzzzzzzz" ++ (⟨#[c]⟩ : Str)) (by rw [Str.length_append]; show 10 + 1 ≤ 20; decide) (allIn_app (low_all (by decide +kernel)) fun c' hc' => ?_)).1
          have e : c' = c := by simpa using hc'
          rw [e]
          exact this c hm
        refine ⟨rfl, yesT ⟨_, rfl, _, _, rfl, rfl, by show 10 + 1 ≤ sizeLine; decide, _, hC, ?_, same_put s5 nC, ys ++ ["zzzzzzzzzz" ++ (⟨#[c]⟩ : Str)], ?_, ?_, ?_⟩⟩
        · rw [List.length_map, ly]; exact small1000 (by omega)
        · rw [upd_same, List.map_append]; rfl
        · rw [List.length_append, ly]; rfl
        · intro y hy
          rcases List.mem_append.mp hy with h | h
          · exact sh y h
          · rw [List.mem_singleton.mp h]; exact csh
      · rintro G5 ⟨s5, ys, hC, ly, sh⟩
        have ly6 : ys.length = 6 := ly
        refine ⟨R, C, xs, ys.map V.str, rfl, rfl, s5 _ _ hR3, hC, Nat.le_of_lt (small1000 (by rw [List.length_map]; omega)), fun W nW => ?_⟩
        have g5 : Dr b l H G5 := ⟨g3.bag.same s5, g3.but.trans (But.of s5)⟩
        obtain ⟨W0, Wb, Wl⟩ := new g5 nW
        have g6 := g5.put (o := .lst (xs ++ ys.map V.str)) W0 Wb Wl
        have hE6 : upd G5 W (.lst (xs ++ ys.map V.str)) E1 = some (.lst []) := by rw [upd_ne (ne_of_none (s5 _ _ hE) nW)]; exact s5 _ _ hE
        have hW6 : upd G5 W (.lst (xs ++ ys.map V.str)) W = some (.lst (xs ++ ys.map V.str)) := upd_same
        generalize upd G5 W (.lst (xs ++ ys.map V.str)) = G6 at g6 hE6 hW6 ⊢
        refine ⟨by show 4 ≤ sizeLine; decide, fun L nL => ?_⟩
        obtain ⟨L0, Lb, Ll⟩ := new g6 nL
        have s7 := same_new (o := .lst [.ref E1, .ref W, .non, .str "ab"]) (Same.rfl' (H := G6)) nL
        have g7 := g6.put (o := .lst [.ref E1, .ref W, .non, .str "ab"]) L0 Lb Ll
        refine ⟨b, l, L, _, rfl, upd_same, Lb, by show 0 < 4; decide, by show 4 < 1000; decide, g7.bag, fun x G8 xin B8 t8 _ => ?_⟩
        have g8 := g7.trans ⟨B8, t8⟩
        have hE8 := t8 _ _ (s7 _ _ hE6) Eb
        have hW8 := t8 _ _ (s7 _ _ hW6) Wb
        refine ⟨_, rfl, _, rfl, D, _, rfl, DPut.k (k := Sum.inr z) (atD' g8) (by show 4 < sizeLine; decide), ?_⟩
        have nl : ∃ d, NamesX G8 x d ∧ FormsX (n + 1) G8 x d := by
          simp only [List.mem_cons, List.not_mem_nil, or_false] at xin
          rcases xin with rfl | rfl | rfl | rfl
          · exact ⟨_, no_list (.lst hE8 .nil) (fun m _ => rfl) _⟩
          · have rpx := (rp.mono (g8.sq B)).app (strs_rps (H := G8) sh)
            refine ⟨_, no_list (.lst hW8 rpx) (fun m hm => ?_) _⟩
            have hl := rpx.length
            rw [List.length_append, List.length_map] at hl
            unfold listD
            have : lenD (.list (ds ++ ys.map PyData.str)) = xs.length + ys.length := hl.symm
            rw [this, decide_eq_false (show ¬ ((xs.length + ys.length : Nat) : Int) ≤ m by omega), Bool.and_false, Bool.and_false]
          · exact ⟨_, no_list .non (fun m _ => rfl) _⟩
          · exact ⟨_, no_list (.str "ab" ⟨by decide, by decide +kernel⟩) (fun m _ => rfl) _⟩
        obtain ⟨d, n1, n2⟩ := nl
        refine fin kx g8 ?_ (d := d)
        by_cases e : z = "forms"
        · exact .inr ⟨e, n2⟩
        · exact .inl ⟨e, n1⟩
    · refine ⟨_, rfl, _, rfl, .ref R, xs.length, rfl, .inl ⟨xs, SqL.of hR2, rfl⟩, b, l, _, rfl, by omega, by omega, g2.bag, fun at' G3 a0 a1 B3 t3 _ => ?_⟩
      obtain ⟨j, rfl⟩ := Int.eq_ofNat_of_zero_le a0
      have hj : j < xs.length := by omega
      have g3 := g2.trans ⟨B3, t3⟩
      have hR3 := t3 _ _ hR2 Rb
      clear g2 hR2 t3 B3
      have hx := List.getElem?_eq_getElem hj
      obtain ⟨a1, y1, r1', e1, q1, m1⟩ := gd.n1.first
      obtain ⟨a3, y3, r3', e3, q3, m3⟩ := gd.n3.first
      obtain ⟨a4, aq, t4, r4, row4, e4, q4, qq4, m4⟩ := gd.f.first
      have dg1 : ∀ {G : Hp}, Dr b l H G → DGet G D (.str "stuffs") (some (.ref a1)) := fun {G} g => by
        have q := DGet.k (k := Sum.inr "stuffs") (atD' g)
        rw [← e1]
        exact q
      have dg3 : ∀ {G : Hp}, Dr b l H G → DGet G D (.str "lands") (some (.ref a3)) := fun {G} g => by
        have q := DGet.k (k := Sum.inr "lands") (atD' g)
        rw [← e3]
        exact q
      have dg4 : ∀ {G : Hp}, Dr b l H G → DGet G D (.str "forms") (some (.ref a4)) := fun {G} g => by
        have q := DGet.k (k := Sum.inr "forms") (atD' g)
        rw [← e4]
        exact q
      refine ⟨fun σ G => ∃ d o4 o5 o6 o7, σ = [some (.ref b), some (.ref D), some (.str z), some (.ref R), o4, o5, o6, o7] ∧ Dr b l H G ∧ ((z ≠ "forms" ∧ NamesX G (.ref R) d) ∨ (z = "forms" ∧ FormsX (n + 1) G (.ref R) d)), ?_, ?_⟩
      · refine ⟨_, rfl, rfl, _, rfl, ifS (fun ez => ?_) (fun nz => ?_)⟩
        · subst ez
          obtain ⟨rs, rows, rsn⟩ : ∃ rs, RowsV H xs rs ∧ ∀ r ∈ rs, NmV r.n ∧ TsOk n r := cc.elim (fun h => absurd rfl h.1) fun h => h.2
          obtain ⟨r, hr', ar, t, ea, sqa, sqt⟩ := RowsV.nth rows hx
          have rok := rsn r (List.mem_of_getElem? hr')
          have hx2 : xs[j]? = some (.ref ar) := by rw [hx, ea]
          have org3 : ∀ {S : Hp}, Sq H S → ∃ d3, Rp S (.ref t) d3 ∧ (dL d3 = true → ∃ t' ts, V.ref t = .ref t' ∧ SqD S t' ts ∧ (∀ x ∈ ts, FlatSh x) ∧ ts.length ≤ n + 1) := fun {S} sq => by
            obtain ⟨d3, rd, _⟩ := (sqt.sq sq).rp (flat_rps rok.2.1)
            exact ⟨d3, rd, fun _ => ⟨t, r.ts, rfl, sqt.sq sq, rok.2.1, Nat.le_succ_of_le rok.2.2⟩⟩
          have org0 : ∃ z0, r.n = .str z0 ∧ Sh z0 ∧ shw (.str z0) := by
            obtain ⟨z0, e0, ez0⟩ := rok.1
            exact ⟨z0, e0, nm_sh ez0, .inl (name_short ez0).1⟩
          obtain ⟨z0, e0, sh0, sw0⟩ := org0
          refine ⟨_, rfl, _, rfl, R, xs, _, _, rfl, rfl, SqL.of hR3, atI_nat hx2, ar, _, rfl, (sqa.sq (g3.sq B)).imp (fun e => SqL.of e) (fun e => SqT.of e), fun Ln0 nLn => ?_⟩
          obtain ⟨Ln00, Lnb, Lnl⟩ := new g3 nLn
          have lines : ∀ {G : Hp} {Ln : Addr} {x : V} {d : PyData}, Dr b l H G → H Ln = none → (Rp (wo R Ln G) x d → LineX (n + 1) (wo R Ln G) [r.n, x, .int r.hi, .ref t]) ∧ (Rp (wo R Ln G) x d → LineX (n + 1) (wo R Ln G) [r.n, .int r.lo, x, .ref t]) ∧
              (Rp (wo R Ln G) x d → shw d → LineX (n + 1) (wo R Ln G) [x, .int r.lo, .int r.hi, .ref t]) ∧ (Rp (wo R Ln G) x d → (dL d = true → ∃ t' ts, x = .ref t' ∧ SqD (wo R Ln G) t' ts ∧ (∀ y ∈ ts, FlatSh y) ∧ ts.length ≤ n + 1) → LineX (n + 1) (wo R Ln G) [r.n, .int r.lo, .int r.hi, x]) := fun {G Ln x d} g l0 => by
            obtain ⟨d3, rd, f3⟩ := org3 (wo_H g B R0 l0)
            have rn : Rp (wo R Ln G) r.n (.str z0) := by rw [e0]; exact .str z0 sh0
            exact ⟨fun q => .four rn sw0 q (.int _) rd f3, fun q => .four rn sw0 (.int _) q rd f3, fun q s => .four q s (.int _) (.int _) rd f3, fun q h => .four rn sw0 (.int _) (.int _) q h⟩
          have g4 := g3.put (o := .lst [r.n, .int r.lo, .int r.hi, .ref t]) Ln00 Lnb Lnl
          have pm0 : PMx b l D R H xs way j [r.n, .int r.lo, .int r.hi, .ref t] n 0 [some (.ref b), some (.ref D), some (.str "forms"), some (.ref R), some (.int way), some (.int (j : Nat)), some (.ref Ln0), none] (upd G3 Ln0 (.lst [r.n, .int r.lo, .int r.hi, .ref t])) := by
            refine ⟨Ln0, _, none, rfl, g4, by rw [upd_ne (ne_of_none hR3 nLn)]; exact hR3, upd_same, Ne.symm (ne_of_none hR3 nLn), Lnb, Lnl, Ln00, ?_, fun _ => rfl⟩
            exact (lines g4 Ln00).1 (.int r.lo)
          generalize ho : ([r.n, .int r.lo, .int r.hi, .ref t] : List V) = org at pm0
          clear g4
          refine ⟨PMx b l D R H xs way j org n 1, ?_, ?_⟩
          · obtain ⟨Ln, ys, o7, p⟩ := pm0
            obtain ⟨⟩ := p.st
            refine ⟨_, rfl, rfl, _, rfl, ifI (fun e => ?_) (fun _ => p.next (by decide))⟩
            have hL : upd G3 Ln0 (.lst org) Ln0 = some (.lst [r.n, .int r.lo, .int r.hi, .ref t]) := by
              have q := p.hL
              rw [p.o (by omega)] at q
              rw [ho]
              exact q
            refine ⟨_, rfl, _, rfl, Ln0, _, 2, _, rfl, rfl, SqL.of hL, rfl, _, _, rfl, rfl, _, rfl, Ln0, _, 2, _, rfl, rfl, SqL.of hL, rfl, by show 7 ≤ sizeLine; decide, fun L nL => ?_⟩
            obtain ⟨L0, Lb, Ll⟩ := new p.dr nL
            have s5 := same_new (o := .lst [.int 0, .int 5, .bl true, .non, .int (r.hi + 1), .int r.hi, .str "1"]) (Same.rfl' (H := upd G3 Ln0 (.lst org))) nL
            have g5 := p.dr.put (o := .lst [.int 0, .int 5, .bl true, .non, .int (r.hi + 1), .int r.hi, .str "1"]) L0 Lb Ll
            refine ⟨b, l, L, _, rfl, upd_same, Lb, by show 0 < 7; decide, by show 7 < 1000; decide, g5.bag, fun x G6 xin B6 t6 _ => ?_⟩
            have g6 := g5.trans ⟨B6, t6⟩
            have hL6 := t6 _ _ (s5 _ _ hL) p.Lb
            have hR6 := t6 _ _ (s5 _ _ p.hR) Rb
            refine ⟨_, rfl, Ln0, _, 1, 1, rfl, rfl, hL6, rfl, p.put g6 hR6 (zs := [r.n, x, .int r.hi, .ref t]) ?_ (by omega)⟩
            have ls := fun {d} => (lines (d := d) (x := x) g6 p.L0).1
            simp only [List.mem_cons, List.not_mem_nil, or_false] at xin
            rcases xin with rfl | rfl | rfl | rfl | rfl | rfl | rfl
            · exact ls (.int _)
            · exact ls (.int _)
            · exact ls (.bl _)
            · exact ls .non
            · exact ls (.int _)
            · exact ls (.int _)
            · exact ls (.str "1" ⟨by decide, by decide +kernel⟩)
          rintro σ1 G4 ⟨Ln, ys, o7, p⟩
          refine ⟨PMx b l D R H xs way j org n 2, ?_, ?_⟩
          · have st := p.st
            subst st
            refine ⟨_, rfl, rfl, _, rfl, ifI (fun e => ?_) (fun _ => p.next (by decide))⟩
            have hL := p.hL
            rw [p.o (by omega), ← ho] at hL
            refine ⟨_, rfl, _, rfl, Ln, _, 1, _, rfl, rfl, SqL.of hL, rfl, _, _, rfl, rfl, _, rfl, Ln, _, 1, _, rfl, rfl, SqL.of hL, rfl, by show 6 ≤ sizeLine; decide, fun L nL => ?_⟩
            obtain ⟨L0, Lb, Ll⟩ := new p.dr nL
            have s5 := same_new (o := .lst [.int 0, .int 5, .bl false, .int (r.lo - 1), .int r.lo, .int 4]) (Same.rfl' (H := G4)) nL
            have g5 := p.dr.put (o := .lst [.int 0, .int 5, .bl false, .int (r.lo - 1), .int r.lo, .int 4]) L0 Lb Ll
            refine ⟨b, l, L, _, rfl, upd_same, Lb, by show 0 < 6; decide, by show 6 < 1000; decide, g5.bag, fun x G6 xin B6 t6 _ => ?_⟩
            have g6 := g5.trans ⟨B6, t6⟩
            have hL6 := t6 _ _ (s5 _ _ hL) p.Lb
            have hR6 := t6 _ _ (s5 _ _ p.hR) Rb
            refine ⟨_, rfl, Ln, _, 2, 2, rfl, rfl, hL6, rfl, p.put g6 hR6 (zs := [r.n, .int r.lo, x, .ref t]) ?_ (by omega)⟩
            have ls := fun {d} => (lines (d := d) (x := x) g6 p.L0).2.1
            simp only [List.mem_cons, List.not_mem_nil, or_false] at xin
            rcases xin with rfl | rfl | rfl | rfl | rfl | rfl
            · exact ls (.int _)
            · exact ls (.int _)
            · exact ls (.bl _)
            · exact ls (.int _)
            · exact ls (.int _)
            · exact ls (.int _)
          clear p ys o7 Ln G4 σ1
          rintro σ1 G4 ⟨Ln, ys, o7, p⟩
          refine ⟨PMx b l D R H xs way j org n 3, ?_, ?_⟩
          · have st := p.st
            subst st
            refine ⟨_, rfl, rfl, _, rfl, ifI (fun e => ?_) (fun _ => p.next (by decide))⟩
            have hL := p.hL
            have hR4 := p.hR
            rw [p.o (by omega), ← ho] at hL
            refine ⟨_, rfl, by decide, fun E1 nE => ?_⟩
            obtain ⟨E0, Eb, El⟩ := new p.dr nE
            have g5 := p.dr.put (o := .lst []) E0 Eb El
            have s5 := same_new (o := .lst []) (Same.rfl' (H := G4)) nE
            have hE : upd G4 E1 (.lst []) E1 = some (.lst []) := upd_same
            generalize upd G4 E1 (.lst []) = G5 at g5 s5 hE ⊢
            refine ⟨by decide, fun T nT => ?_⟩
            obtain ⟨T0, Tb, Tl⟩ := new g5 nT
            have g6 := g5.put (o := .tup []) T0 Tb Tl
            have s6' := same_new (o := .tup []) (Same.rfl' (H := G5)) nT
            have s6 := s5.trans s6'
            have hT : upd G5 T (.tup []) T = some (.tup []) := upd_same
            generalize upd G5 T (.tup []) = G6 at g6 s6' s6 hT ⊢
            refine ⟨by decide, fun M nM => ?_⟩
            obtain ⟨M0, Mb, Ml⟩ := new g6 nM
            have g7 := g6.put (o := .lst [.str "mix"]) M0 Mb Ml
            have s7' := same_new (o := .lst [.str "mix"]) (Same.rfl' (H := G6)) nM
            have s7 := s6.trans s7'
            have hM : upd G6 M (.lst [.str "mix"]) M = some (.lst [.str "mix"]) := upd_same
            generalize upd G6 M (.lst [.str "mix"]) = G7 at g7 s7' s7 hM ⊢
            refine ⟨by show 5 ≤ sizeLine; decide, fun L nL => ?_⟩
            obtain ⟨L0, Lb, Ll⟩ := new g7 nL
            have s8 := same_new (o := .lst [.ref E1, .str "mix", .non, .ref T, .ref M]) (Same.rfl' (H := G7)) nL
            have g8 := g7.put (o := .lst [.ref E1, .str "mix", .non, .ref T, .ref M]) L0 Lb Ll
            refine ⟨b, l, L, _, rfl, upd_same, Lb, by show 0 < 5; decide, by show 5 < 1000; decide, g8.bag, fun x G9 xin B9 t9 _ => ?_⟩
            have g9 := g8.trans ⟨B9, t9⟩
            have hL9 := t9 _ _ (s8 _ _ (s7 _ _ hL)) p.Lb
            have hR9 := t9 _ _ (s8 _ _ (s7 _ _ hR4)) Rb
            have old : ∀ {a : Addr}, G4 a = none → a ≠ R ∧ a ≠ Ln := fun {a} e => ⟨Ne.symm (ne_of_none hR4 e), Ne.symm (ne_of_none hL e)⟩
            have back5 : ∀ {a : Addr}, G5 a = none → G4 a = none := fun {a} e => none_of s5 e
            have back6 : ∀ {a : Addr}, G6 a = none → G4 a = none := fun {a} e => none_of s6 e
            have hE9 : wo R Ln G9 E1 = some (.lst []) := wo_get (t9 _ _ (s8 _ _ (s7' _ _ (s6' _ _ hE))) Eb) (old nE).1 (old nE).2
            have hT9 : wo R Ln G9 T = some (.tup []) := wo_get (t9 _ _ (s8 _ _ (s7' _ _ hT)) Tb) (old (back5 nT)).1 (old (back5 nT)).2
            have hM9 : wo R Ln G9 M = some (.lst [.str "mix"]) := wo_get (t9 _ _ (s8 _ _ hM) Mb) (old (back6 nM)).1 (old (back6 nM)).2
            have mixS : Sh "mix" := ⟨by decide, by decide +kernel⟩
            refine ⟨_, rfl, Ln, _, 3, 3, rfl, rfl, hL9, rfl, p.put g9 hR9 (zs := [r.n, .int r.lo, .int r.hi, x]) ?_ (by omega)⟩
            have ls := fun {d} => (lines (d := d) (x := x) g9 p.L0).2.2.2
            simp only [List.mem_cons, List.not_mem_nil, or_false] at xin
            rcases xin with rfl | rfl | rfl | rfl | rfl
            · exact ls (.lst hE9 .nil) fun _ => ⟨E1, [], rfl, .inl hE9, (fun y hy => by cases hy), Nat.zero_le _⟩
            · exact ls (.str "mix" mixS) fun e => by cases e
            · exact ls .non fun e => by cases e
            · exact ls (.tup hT9 .nil) fun _ => ⟨T, [], rfl, .inr hT9, (fun y hy => by cases hy), Nat.zero_le _⟩
            · refine ls (.lst hM9 (.cons (.str "mix" mixS) .nil)) fun _ => ⟨M, _, rfl, .inl hM9, (fun y hy => ?_), Nat.le_add_left _ _⟩
              rw [List.mem_singleton.mp hy]
              exact .inr ⟨_, rfl, mixS, by decide +kernel⟩
          clear p ys o7 Ln G4 σ1
          rintro σ1 G4 ⟨Ln, ys, o7, p⟩
          refine ⟨PMx b l D R H xs way j org n 4, ?_, ?_⟩
          · have st := p.st
            subst st
            refine ⟨_, rfl, rfl, _, rfl, ifI (fun e => ?_) (fun _ => p.next (by decide))⟩
            have hL := p.hL
            have hR4 := p.hR
            have g4 := p.dr
            rw [p.o (by omega), ← ho] at hL
            refine ⟨_, rfl, Ln, _, 3, _, rfl, rfl, SqL.of hL, rfl, t, r.ts, rfl, (sqt.sq (g4.sq B)).imp (fun e => SqL.of e) (fun e => SqT.of e), fun Z nZ => ?_⟩
            obtain ⟨Z0, Zb, Zl⟩ := new g4 nZ
            have g5 := g4.put (o := .lst r.ts) Z0 Zb Zl
            have s5 := same_new (o := .lst r.ts) (Same.rfl' (H := G4)) nZ
            have hZ : upd G4 Z (.lst r.ts) Z = some (.lst r.ts) := upd_same
            generalize upd G4 Z (.lst r.ts) = G5 at g5 s5 hZ ⊢
            refine ⟨_, rfl, _, rfl, D, _, rfl, dg4 g5, a4, _, 0, _, rfl, rfl, SqL.of ((g5.sq B).2 _ _ q4), at0, (qq4.sq (g5.sq B)).ix rfl ?_⟩
            refine ⟨_, rfl, D, _, rfl, dg3 g5, (q3.sq (g5.sq B)).ix at0 ?_⟩
            refine ⟨by show 5 ≤ sizeLine; decide, fun L nL => ?_⟩
            obtain ⟨L0, Lb, Ll⟩ := new g5 nL
            have s6 := same_new (o := .lst [row4.n, .str "mix", y3, .str "nosuch", .non]) (Same.rfl' (H := G5)) nL
            have g6 := g5.put (o := .lst [row4.n, .str "mix", y3, .str "nosuch", .non]) L0 Lb Ll
            refine ⟨b, l, L, _, rfl, upd_same, Lb, by show 0 < 5; decide, by show 5 < 1000; decide, g6.bag, fun x G7 xin B7 t7 _ => ?_⟩
            have g7 := g6.trans ⟨B7, t7⟩
            have fx : FlatSh x := by
              simp only [List.mem_cons, List.not_mem_nil, or_false] at xin
              rcases xin with rfl | rfl | rfl | rfl | rfl
              · exact m4.flat
              · exact .inr ⟨_, rfl, ⟨by decide, by decide +kernel⟩, by decide +kernel⟩
              · exact m3.flat
              · exact .inr ⟨_, rfl, ⟨by decide, by decide +kernel⟩, by decide +kernel⟩
              · exact .inl rfl
            have hL7 := t7 _ _ (s6 _ _ (s5 _ _ hL)) p.Lb
            have hR7 := t7 _ _ (s6 _ _ (s5 _ _ hR4)) Rb
            have hZ7 := t7 _ _ (s6 _ _ hZ) Zb
            refine ⟨by show 1 ≤ sizeLine; decide, fun M nM => ?_⟩
            obtain ⟨M0, Mb, Ml⟩ := new g7 nM
            have g8 := g7.put (o := .lst [x]) M0 Mb Ml
            have s8 := same_new (o := .lst [x]) (Same.rfl' (H := G7)) nM
            have hM : upd G7 M (.lst [x]) M = some (.lst [x]) := upd_same
            generalize upd G7 M (.lst [x]) = G8 at g8 s8 hM ⊢
            have lts : r.ts.length ≤ n := rok.2.2
            refine ⟨Z, M, _, _, rfl, rfl, s8 _ _ hZ7, hM, Nat.le_of_lt (small1000 (by show r.ts.length + 1 ≤ 1000; omega)), fun W nW => ?_⟩
            obtain ⟨W0, Wb, Wl⟩ := new g8 nW
            have g9 := g8.put (o := .lst (r.ts ++ [x])) W0 Wb Wl
            have s9 := same_new (o := .lst (r.ts ++ [x])) (Same.rfl' (H := G8)) nW
            have hW : upd G8 W (.lst (r.ts ++ [x])) W = some (.lst (r.ts ++ [x])) := upd_same
            have hL9 := s9 _ _ (s8 _ _ hL7)
            have hR9 := s9 _ _ (s8 _ _ hR7)
            have WR : W ≠ R := Ne.symm (ne_of_none (s8 _ _ hR7) nW)
            have WL : W ≠ Ln := Ne.symm (ne_of_none (s8 _ _ hL7) nW)
            generalize upd G8 W (.lst (r.ts ++ [x])) = G9 at g9 s9 hW hL9 hR9 ⊢
            refine ⟨_, rfl, Ln, _, 3, 3, rfl, rfl, hL9, rfl, p.put g9 hR9 (zs := [r.n, .int r.lo, .int r.hi, .ref W]) ?_ (by omega)⟩
            have hW9 := wo_get hW WR WL
            have flats : ∀ y ∈ r.ts ++ [x], FlatSh y := fun y hy => by
              rcases List.mem_append.mp hy with h | h
              · exact rok.2.1 y h
              · rw [List.mem_singleton.mp h]; exact fx
            exact (lines g9 p.L0).2.2.2 (.lst hW9 (flat_rps flats)) fun _ => ⟨W, _, rfl, .inl hW9, flats, by rw [List.length_append]; show r.ts.length + 1 ≤ n + 1; omega⟩
          clear p ys o7 Ln G4 σ1
          rintro σ1 G4 ⟨Ln, ys, o7, p⟩
          refine ⟨PMx b l D R H xs way j org n 5, ?_, ?_⟩
          · have st := p.st
            subst st
            refine ⟨_, rfl, rfl, _, rfl, ifI (fun e => ?_) (fun _ => p.next (by decide))⟩
            have hL := p.hL
            have hR4 := p.hR
            have g4 := p.dr
            rw [p.o (by omega), ← ho] at hL
            refine ⟨_, rfl, _, rfl, Ln, _, rfl, SqL.of hL, fun W nW => ?_⟩
            have cr : cutV [r.n, .int r.lo, .int r.hi, .ref t] none (some 3) = [r.n, .int r.lo, .int r.hi] := cutV_lo (n := 3) (by show 3 ≤ 4; decide)
            rw [cr]
            obtain ⟨W0, Wb, Wl⟩ := new g4 nW
            have g5 := g4.put (o := .lst [r.n, .int r.lo, .int r.hi]) W0 Wb Wl
            refine ⟨W, [r.n, .int r.lo, .int r.hi], o7, rfl, g5, by rw [upd_ne (ne_of_none hR4 nW)]; exact hR4, upd_same, Ne.symm (ne_of_none hR4 nW), Wb, Wl, W0, ?_, fun h => by omega⟩
            exact .three (d0 := .str z0) (by rw [e0]; exact .str z0 sh0) (.int _) (.int _)
          clear p ys o7 Ln G4 σ1
          rintro σ1 G4 ⟨Ln, ys, o7, p⟩
          refine ⟨PMx b l D R H xs way j org n 6, ?_, ?_⟩
          · have st := p.st
            subst st
            refine ⟨_, rfl, rfl, _, rfl, ifI (fun e => ?_) (fun _ => p.next (by decide))⟩
            have hL := p.hL
            have hR4 := p.hR
            have g4 := p.dr
            rw [p.o (by omega), ← ho] at hL
            refine ⟨_, rfl, _, rfl, b, l, rfl, g4.bag, fun v d G5 d5 ov => ?_⟩
            have g5 := g4.trans d5
            have hL5 := d5.but _ _ hL p.Lb
            have hR5 := d5.but _ _ hR4 Rb
            refine ⟨_, rfl, D, _, rfl, dg1 g5, (q1.sq (g5.sq B)).ix at0 ?_⟩
            refine ⟨_, rfl, Ln, _, 0, _, rfl, rfl, SqL.of hL5, rfl, by show 3 ≤ sizeLine; decide, fun L nL => ?_⟩
            obtain ⟨L0, Lb, Ll⟩ := new g5 nL
            have s6 := same_new (o := .lst [v, y1, r.n]) (Same.rfl' (H := G5)) nL
            have g6 := g5.put (o := .lst [v, y1, r.n]) L0 Lb Ll
            refine ⟨b, l, L, _, rfl, upd_same, Lb, by show 0 < 3; decide, by show 3 < 1000; decide, g6.bag, fun x G7 xin B7 t7 _ => ?_⟩
            have g7 := g6.trans ⟨B7, t7⟩
            have hL7 := t7 _ _ (s6 _ _ hL5) p.Lb
            have hR7 := t7 _ _ (s6 _ _ hR5) Rb
            have rv7 : Rp (wo R Ln G7) v d := by
              refine (ov.up (wo R Ln G5) fun a us e => wo_get e (ne_of e hR5 (by intro z; cases z)) (ne_of e hL5 (by intro z; cases z))).mono (Kd.wo ((Kd.of s6).trans (Kd.but g6.bag t7)))
            refine ⟨_, rfl, Ln, _, 0, 0, rfl, rfl, hL7, rfl, p.put g7 hR7 (zs := [x, .int r.lo, .int r.hi, .ref t]) ?_ (by omega)⟩
            have ls := fun {d} => (lines (d := d) (x := x) g7 p.L0).2.2.1
            simp only [List.mem_cons, List.not_mem_nil, or_false] at xin
            rcases xin with rfl | rfl | rfl
            · exact ls rv7 ov.sh
            · obtain ⟨zx, rfl, ex⟩ := m1
              exact ls (.str zx (nm_sh ex)) (.inl (name_short ex).1)
            · rw [e0] at ls ⊢
              exact ls (.str z0 sh0) sw0
          clear p ys o7 Ln G4 σ1
          rintro σ1 G4 ⟨Ln, ys, o7, p⟩
          have st := p.st
          subst st
          have hL := p.hL
          have hR4 := p.hR
          have g4 := p.dr
          refine ⟨_, rfl, _, rfl, _, rfl, Ln, _, rfl, .inl ⟨SqL.of hL, fun T nT => ?_⟩⟩
          obtain ⟨T0, Tb, Tl⟩ := new g4 nT
          have g5 := g4.put (o := .tup ys) T0 Tb Tl
          have s5 := same_new (o := .tup ys) (Same.rfl' (H := G4)) nT
          have hT : upd G4 T (.tup ys) T = some (.tup ys) := upd_same
          have TR : T ≠ R := Ne.symm (ne_of_none hR4 nT)
          generalize upd G4 T (.tup ys) = G5 at g5 s5 hT ⊢
          refine ⟨by show 2 ≤ sizeLine; decide, fun L nL => ?_⟩
          obtain ⟨L0, Lb, Ll⟩ := new g5 nL
          have s6 := same_new (o := .lst [.ref Ln, .ref T]) (Same.rfl' (H := G5)) nL
          have g6 := g5.put (o := .lst [.ref Ln, .ref T]) L0 Lb Ll
          refine ⟨b, l, L, _, rfl, upd_same, Lb, by show 0 < 2; decide, by show 2 < 1000; decide, g6.bag, fun x G7 xin B7 t7 _ => ?_⟩
          have g7 := g6.trans ⟨B7, t7⟩
          have kd : Kd G4 G7 := ((Kd.of s5).trans (Kd.of s6)).trans (Kd.but g6.bag t7)
          have hR7 := t7 _ _ (s6 _ _ (s5 _ _ hR4)) Rb
          have hL7 := t7 _ _ (s6 _ _ (s5 _ _ hL)) p.Lb
          have hT7 := t7 _ _ (s6 _ _ hT) Tb
          refine ⟨_, rfl, _, rfl, R, xs, _, j, rfl, rfl, hR7, (by unfold ixN; rw [if_pos (by omega), if_pos (by omega)]; rfl), ?_⟩
          have g8 := g7.put (o := .lst (xs.set j x)) R0 Rb Rl
          have hR8 : upd G7 R (.lst (xs.set j x)) R = some (.lst (xs.set j x)) := upd_same
          have lx : LineX (n + 1) (upd G7 R (.lst (xs.set j x))) ys := p.x.sq (wo_out fun a u h1 _ e nk => by rw [upd_ne h1]; exact kd a u e nk)
          have hL8 : upd G7 R (.lst (xs.set j x)) Ln = some (.lst ys) := by rw [upd_ne p.LR]; exact hL7
          have hT8 : upd G7 R (.lst (xs.set j x)) T = some (.tup ys) := by rw [upd_ne TR]; exact hT7
          generalize upd G7 R (.lst (xs.set j x)) = G8 at g8 hR8 lx hL8 hT8 ⊢
          have row : ∃ d, Rp G8 x d ∧ (rowD d = true → ∃ r, RowV G8 x r ∧ (∃ dn, Rp G8 r.n dn ∧ shw dn) ∧ TsOk (n + 1) r) := by
            simp only [List.mem_cons, List.not_mem_nil, or_false] at xin
            rcases xin with rfl | rfl
            · exact lx.row (.inl hL8)
            · exact lx.row (.inr hT8)
          obtain ⟨d, rx, hx8⟩ := row
          have sq8 := g8.sq B
          have := rows.len
          refine ⟨_, _, _, _, _, rfl, g8, .inr ⟨rfl, forms_set hR8 (rows.sq sq8) (rp.mono sq8) (fun q hq => ⟨?_, (rsn q hq).2.1, Nat.le_succ_of_le (rsn q hq).2.2⟩) (by omega) hj rx hx8⟩⟩
          obtain ⟨zq, eq, ezq⟩ := (rsn q hq).1
          exact ⟨.str zq, by rw [eq]; exact .str zq (nm_sh ezq), .inl (name_short ezq).1⟩
        · have nm : ∀ x ∈ xs, NmV x := cc.elim (fun h => h.2) fun h => absurd h.1 nz
          have put : ∀ {G : Hp} {x : V} {d : PyData}, Dr b l H G → G R = some (.lst xs) → Rp (upd G R (.lst (xs.set j x))) x d → shw d → NamesX (upd G R (.lst (xs.set j x))) (.ref R) (.list ((xs.map dV).set j d)) := fun {G x d} g hRG r s => names_set upd_same nm (by omega) r s
          refine ⟨_, rfl, _, _, rfl, rfl, _, rfl, ite2 (fun hc => ?_) (fun hc => ?_)⟩
          · refine ⟨_, rfl, b, l, rfl, g3.bag, fun x d G4 d4 ov => ?_⟩
            have g4 := g3.trans d4
            have hR4 := d4.but _ _ hR3 Rb
            refine ⟨_, rfl, _, rfl, R, xs, _, j, rfl, rfl, hR4, (by unfold ixN; rw [if_pos (by omega), if_pos (by omega)]; rfl), ?_⟩
            refine ⟨_, _, _, _, _, rfl, g4.put R0 Rb Rl, .inl ⟨nz, put g4 hR4 (ov.up _ fun a ys e => ?_) ov.sh⟩⟩
            rw [upd_ne (ne_of e hR4 (by intro z; cases z))]
            exact e
          · refine ⟨_, rfl, _, rfl, D, _, rfl, dg1 g3, (q1.sq (g3.sq B)).ix at0 ?_⟩
            refine ⟨_, rfl, D, _, rfl, dg3 g3, (q3.sq (g3.sq B)).ix at0 ?_⟩
            refine ⟨_, rfl, D, _, rfl, dg4 g3, a4, _, 0, _, rfl, rfl, SqL.of ((g3.sq B).2 _ _ q4), at0, (qq4.sq (g3.sq B)).ix rfl ?_⟩
            refine ⟨_, rfl, _, rfl, R, xs, _, _, rfl, rfl, SqL.of hR3, atI_nat hx, by show 4 ≤ sizeLine; decide, fun L nL => ?_⟩
            obtain ⟨L0, Lb, Ll⟩ := new g3 nL
            have s4 := same_new (o := .lst [y1, y3, row4.n, xs[j]]) (Same.rfl' (H := G3)) nL
            have g4 := g3.put (o := .lst [y1, y3, row4.n, xs[j]]) L0 Lb Ll
            refine ⟨b, l, L, _, rfl, upd_same, Lb, by show 0 < 4; decide, by show 4 < 1000; decide, g4.bag, fun x G5 xin B5 t5 _ => ?_⟩
            have g5 := g4.trans ⟨B5, t5⟩
            have hR5 := t5 _ _ (s4 _ _ hR3) Rb
            refine ⟨_, rfl, _, rfl, R, xs, _, j, rfl, rfl, hR5, (by unfold ixN; rw [if_pos (by omega), if_pos (by omega)]; rfl), ?_⟩
            have nx : NmV x := by
              simp only [List.mem_cons, List.not_mem_nil, or_false] at xin
              rcases xin with rfl | rfl | rfl | rfl
              · exact m1
              · exact m3
              · exact m4
              · exact nm _ (List.getElem_mem hj)
            obtain ⟨zx, rfl, ex⟩ := nx
            exact ⟨_, _, _, _, _, rfl, g5.put R0 Rb Rl, .inl ⟨nz, put g5 hR5 (.str zx (nm_sh ex)) (.inl (name_short ex).1)⟩⟩
      · rintro σ2 G4 ⟨d, o4, o5, o6, o7, rfl, g4, c⟩
        exact ⟨_, rfl, _, rfl, _, rfl, D, _, rfl, DPut.k (k := Sum.inr z) (atD' g4) (by show 4 < sizeLine; decide), fin kx g4 c⟩
end
end K02

/-! k02, the law, part a: _law_spoilt. -/
namespace K02
open PySem L2 PySem.Spec PyProof.Rows
abbrev sSpoilt : Stmt := top 45
abbrev suN : List Str := ["_law_bag_here", "_law_stock_here", "_law_many", "_law_told", "_law_due_here", "_law_met_here"]
theorem Drawn.good {H : Hp} {A : Addr} {s t l zs : List Str} {rs : List FRow} (d : Drawn H A s t l zs rs) : ∃ S1 S2 S3 F S4 xs shs shd, H A = some (.dK [(Sum.inr "stuffs", .ref S1), (Sum.inr "states", .ref S2), (Sum.inr "forms", .ref F), (Sum.inr "lands", .ref S3), (Sum.inr "shares", .ref S4)]) ∧
    H S1 = some (.lst (s.map V.str)) ∧ H S2 = some (.lst (t.map V.str)) ∧ H S3 = some (.lst (l.map V.str)) ∧ H F = some (.lst xs) ∧ RowsL H xs rs ∧ H S4 = some (.lst shs) ∧ Rps H shs shd ∧ GoodT 20 H (.ref S1) (.ref S2) (.ref S3) (.ref F) := by
  obtain ⟨S1, S2, S3, F, S4, xs, shs, shd, hA, h1, h2, h3, hF, rows, h4, r4, sd4⟩ := d.ex
  have D := d.ok
  have nm : ∀ {ys : List Str}, (∀ z ∈ ys, z ∈ s ++ (t ++ (l ++ zs))) → ∀ x ∈ ys.map V.str, NmV x := fun {ys} h x hx => by
    obtain ⟨z, hz, rfl⟩ := List.mem_map.mp hx
    exact ⟨z, rfl, D.nm z (h z hz)⟩
  refine ⟨S1, S2, S3, F, S4, xs, shs, shd, hA, h1, h2, h3, hF, rows, h4, r4, ⟨S1, _, rfl, .inl h1, ?_, ?_, nm fun z hz => List.mem_append.mpr (.inl hz)⟩, ⟨S2, _, rfl, .inl h2, ?_, ?_, nm fun z hz => List.mem_append.mpr (.inr (List.mem_append.mpr (.inl hz)))⟩,
    ⟨S3, _, rfl, .inl h3, ?_, ?_, nm fun z hz => List.mem_append.mpr (.inr (List.mem_append.mpr (.inr (List.mem_append.mpr (.inl hz)))))⟩, ⟨F, xs, rs, rfl, hF, rows.toV, D.lr.1, D.lr.2, fun r hr => ⟨?_, fun x hx => D.flat x ((D.row r hr).2.2.2.2.2.1 x hx), d.tsl r hr⟩⟩⟩
  · rw [List.length_map]; exact D.ls.1
  · rw [List.length_map]; exact D.ls.2
  · rw [List.length_map]; exact D.lt.1
  · rw [List.length_map]; exact Nat.le_succ_of_le D.lt.2
  · rw [List.length_map]; exact D.ll.1
  · rw [List.length_map]; exact Nat.le_succ_of_le D.ll.2
  · have : r.n ∈ rs.map FRow.n := List.mem_map.mpr ⟨r, hr, rfl⟩
    rw [D.nr] at this
    obtain ⟨z, hz, e⟩ := List.mem_map.mp this
    exact ⟨z, e.symm, D.nm z (List.mem_append.mpr (.inr (List.mem_append.mpr (.inr (List.mem_append.mpr (.inr hz))))))⟩
theorem Drawn.full {H : Hp} {A : Addr} {s t l zs : List Str} {rs : List FRow} (d : Drawn H A s t l zs rs) : ∃ S1 S2 S3 F S4 xs shs shd, H A = some (.dK [(Sum.inr "stuffs", .ref S1), (Sum.inr "states", .ref S2), (Sum.inr "forms", .ref F), (Sum.inr "lands", .ref S3), (Sum.inr "shares", .ref S4)]) ∧
    H S1 = some (.lst (s.map V.str)) ∧ H S2 = some (.lst (t.map V.str)) ∧ H S3 = some (.lst (l.map V.str)) ∧ H F = some (.lst xs) ∧ RowsL H xs rs ∧ H S4 = some (.lst shs) ∧ Rps H shs shd ∧ (∀ d ∈ shd, ShD d) ∧ shd.length ≤ 3 := d.ex
theorem Drawn.sq {H H' : Hp} {A : Addr} {s t l zs : List Str} {rs : List FRow} (d : Drawn H A s t l zs rs) (k : Same H H') : Drawn H' A s t l zs rs := by
  obtain ⟨S1, S2, S3, F, S4, xs, shs, shd, hA, h1, h2, h3, hF, rows, h4, r4, sd4⟩ := d.ex
  exact ⟨⟨S1, S2, S3, F, S4, xs, shs, shd, k _ _ hA, k _ _ h1, k _ _ h2, k _ _ h3, k _ _ hF, rows.same k, k _ _ h4, r4.mono (Sq.of k), sd4⟩, d.ok, d.sh, d.few, d.tsl⟩
theorem RowsL.sq {H H' : Hp} (s : Sq H H') : ∀ {vs : List V} {rs : List FRow}, RowsL H vs rs → RowsL H' vs rs
  | _, _, .nil => .nil
  | _, _, .cons a b c => .cons (s.1 _ _ a) (s.2 _ _ b) (RowsL.sq s c)
theorem Drawn.dr {H H' : Hp} {A b lb : Addr} {s t l zs : List Str} {rs : List FRow} (d : Drawn H A s t l zs rs) (B : BagL H b lb) (g : Dr b lb H H') (n : A ≠ b) : Drawn H' A s t l zs rs := by
  obtain ⟨S1, S2, S3, F, S4, xs, shs, shd, hA, h1, h2, h3, hF, rows, h4, r4, sd4⟩ := d.ex
  have sq := g.sq B
  exact ⟨⟨S1, S2, S3, F, S4, xs, shs, shd, g.but _ _ hA n, sq.2 _ _ h1, sq.2 _ _ h2, sq.2 _ _ h3, sq.2 _ _ hF, rows.sq sq, sq.2 _ _ h4, r4.mono sq, sd4⟩, d.ok, d.sh, d.few, d.tsl⟩
/-- the dict told anew of a spoilt stock, behind a call that may change it -/
theorem dr_kp {b l D : Addr} {H G G' : Hp} (g : Dr b l H G) (D0 : H D = none) (B : BagL G' b l) (k : Kp b D G G') : Dr b l H G' := ⟨B, fun c u e n => k c u (g.but c u e n) n (ne_of_none e D0)⟩
/-- kinds of what is due, and none -/
theorem due_eqv {kd : Str} {d : PyData} (h : kd ∈ (["BadStock", "BadName", "Twice", "Unknown", "none"] : List Str)) : PyData.eqv (.tuple [.str kd, d]) (.tuple [.str "none", .none]) = true → kd = "none" := by
  simp only [List.mem_cons, List.not_mem_nil, or_false] at h
  rcases h with rfl | rfl | rfl | rfl | rfl
  · intro e; cases (show false = true from e)
  · intro e; cases (show false = true from e)
  · intro e; cases (show false = true from e)
  · intro e; cases (show false = true from e)
  · intro _; rfl
theorem pair_shaped {H : Hp} {p : Addr} {kd : Str} {v : V} {d : PyData} (h : Sh kd) (r : Rp H v d) (hd : d.depth ≤ 1) (e : H p = some (.tup [.str kd, v])) : Rp H (.ref p) (.tuple [.str kd, d]) ∧ SeqAt.shaped (.tuple [.str kd, d]) = true := by
  have q : Rp H (.ref p) (.tuple [.str kd, d]) := .tup e (.cons (.str kd h) (.cons r .nil))
  refine ⟨q, ?_⟩
  have e2 : (PyData.tuple [.str kd, d]).depth = Nat.max 0 (Nat.max d.depth 0) + 1 := rfl
  unfold SeqAt.shaped
  rw [q.lay, e2, decide_eq_true]
  · rfl
  · have : Nat.max 0 (Nat.max d.depth 0) ≤ 1 := Nat.max_le.mpr ⟨Nat.zero_le _, Nat.max_le.mpr ⟨hd, Nat.zero_le _⟩⟩
    omega
def spSpoilt : Sp := fun vs H Q _ => ∃ b l A s t la zs rs, vs = [.ref b, .ref A] ∧ BagL H b l ∧ A ≠ b ∧ Drawn H A s t la zs rs ∧ ∀ H', Dr b l H H' → Q (.bl true) H'
theorem td_tk {H : Hp} {D : Addr} {v1 v2 v3 v4 : V} (h : H D = some (.dK (tk v1 v2 v3 v4))) : TD H D v1 v2 v3 v4 := ⟨_, h, rfl, rfl, rfl, rfl⟩
section
variable {P : Program} {w : World} {K : PySem.W.Frag} {mg : Str → Option Value} {base : Heap}
abbrev tBool (K : PySem.W.Frag) := K
theorem scSpoilt : FnScope suN ["_law_bag_here", "_law_stock_here"] (defScope sSpoilt) := ⟨rfl, rfl, rfl, by decide +kernel, rfl, by decide +kernel, by decide +kernel⟩
theorem ok_spoilt {f fs fu fm : Addr} {fd fds fdu fdm : FuncData} (F : Fun K "_law_spoilt" "_law_spoilt" sSpoilt f fd) (N : Nms mg) (DS : Df K mg "_law_spoil" sSpoil ["_law_bag_here", "_law_told"] fs fds) (GS : ∀ n, n ≤ 50 → FnOk P w K mg base CX0 4 fs fds ["_law_bag_here", "_law_told"] (spSpoil n))
    (DU : Df K mg "_law_due" sDue ["_law_told"] fu fdu) (GU : FnOk P w K mg base CX0 3 fu fdu ["_law_told"] spDue) (DM : Df K mg "_law_met" sMet ["_law_told"] fm fdm) (GM : FnOk P w K mg base CX0 8 fm fdm ["_law_told"] spDue) :
    FnOk P w K mg base CX0 9 f fd ["_law_bag_here", "_law_stock_here"] spSpoilt := by
  refine F.ok scSpoilt (fun vs H Q E h => ?_) (fun cdv A0 outer s0 H vs Q E hr h => ?_)
  · obtain ⟨b, l, A, s, t, la, zs, rs, rfl, _⟩ := h
    rfl
  · obtain ⟨b, l, A, s, t, la, zs, rs, rfl, B, Ab, dw, k⟩ := h
    have nd := scSpoilt.nd
    have hu := hu_of hr
    have r3 := hr.mono (show 3 ≤ 8 by decide)
    have r4 := hr.mono (show 4 ≤ 8 by decide)
    refine ⟨_, pss_cons (ps_for PassesOwn.never rfl (pi_range1 rfl N.range (pa_cons pe_int pa_nil)) (pg_name (i := 2) nd rfl (Or.inl rfl))
        (pss_cons (ps_set (i := 3) nd rfl (Or.inl rfl) (pe_disp (pps_cons pe_str (pe_dget hu (pv 1) pe_str (fun _ _ => rfl)) (pps_cons pe_str (pe_dget hu (pv 1) pe_str (fun _ _ => rfl)) (pps_cons pe_str (pe_dget hu (pv 1) pe_str (fun _ _ => rfl)) (pps_cons pe_str (pe_dget hu (pv 1) pe_str (fun _ _ => rfl)) pps_nil)))) rfl rfl (by simp) (by decide)))
        (C8.pss_cut (ps_if (pt_cmpR op_gt (pv 2) pe_int (nomark _)) (pss_one (ps_expr (pe_call (GS 20 (by decide)) r4 rfl DS.g DS.F.kp DS.b .nil pass0 (pa_cons (pv 0) (pa_cons (pv 3) pa_nil))))) pss_nil)
        (C8.pss_cut (ps_if (PW.pt (pw_and (pt_cmpR op_gt (pv 2) pe_int (nomark _)) (pw_and1 (pt_cmpR (op_eqD hr.units) (pe_call GU r3 rfl DU.g DU.F.kp DU.b .nil pass0 (pa_cons (pv 3) pa_nil)) (pe_tup (pa_cons pe_str (pa_cons pe_non pa_nil))) (nomark _)))))
            (pss_one (ps_expr (pe_call (GS 21 (by decide)) r4 rfl DS.g DS.F.kp DS.b .nil pass0 (pa_cons (pv 0) (pa_cons (pv 3) pa_nil))))) pss_nil)
        (pss_cons (ps_set (i := 4) nd rfl (Or.inl rfl) (pe_call GU r3 rfl DU.g DU.F.kp DU.b .nil pass0 (pa_cons (pv 3) pa_nil)))
        (pss_cons (ps_set (i := 5) nd rfl (Or.inl rfl) (pe_call GM hr rfl DM.g DM.F.kp DM.b .nil pass0 (pa_cons (pv 3) pa_nil)))
        (pss_one (ps_if (PW.pt (pw_or (pt_cmpR op_ne (pe_ix ix_seq (pv 5) pe_int (fun _ _ => rfl)) (pe_ix ix_seq (pv 4) pe_int (fun _ _ => rfl)) (nomark _))
            (pw_or (pt_cmpR op_ne (pe_callB call_isi (by rfl) N.isi (by decide +kernel) (pa_cons (pe_ix ix_seq (pv 5) pe_int (fun _ _ => rfl)) (pa_cons (pe_bltn (v := .ty "bool") (by rfl) N.bool (by decide +kernel) rfl) pa_nil)))
              (pe_callB call_isi (by rfl) N.isi (by decide +kernel) (pa_cons (pe_ix ix_seq (pv 4) pe_int (fun _ _ => rfl)) (pa_cons (pe_bltn (v := .ty "bool") (by rfl) N.bool (by decide +kernel) rfl) pa_nil))) (nomark _))
            (pw_or1 (pt_cmpR (op_neD hr.units) (pe_ix ix_seq (pv 5) pe_int (fun _ _ => rfl)) (pe_ix ix_seq (pv 4) pe_int (fun _ _ => rfl)) (nomark _)))))) (pss_one (ps_ret pe_bl)) pss_nil))))))))
      (pss_one (ps_ret pe_bl)), ?_⟩
    obtain ⟨S1, S2, S3, Fa, S4, xs, shs, shd, hA, h1, h2, h3, hF, rows, h4, r4', good⟩ := dw.good
    refine ⟨3, rfl, by decide, by decide, for_range (lo := 0) (n := 3) (fun i σ G => Dr b l H G ∧ ∃ o2 o3 o4 o5, σ = [some (.ref b), some (.ref A), o2, o3, o4, o5]) ⟨Dr.refl B, _, _, _, _, rfl⟩ ?_ ?_⟩
    · rintro i σ1 G1 hi ⟨g1, o2, o3, o4, o5, rfl⟩
      have hA1 := g1.but _ _ hA Ab
      refine fun D nD => ?_
      have new : H D = none ∧ D ≠ b ∧ D ≠ l := by
        have nb := g1.bag.ne_b nD
        refine ⟨?_, nb, g1.bag.ne_l nD⟩
        cases q : H D with
        | none => rfl
        | some o => rw [g1.but _ _ q nb] at nD; cases nD
      obtain ⟨D0, Db, Dl⟩ := new
      have sw : ∀ {o : HO}, Same G1 (upd G1 D o) := fun {o} => same_new Same.rfl' nD
      have hA2 : upd G1 D (.dK []) A = _ := sw _ _ hA1
      refine ⟨_, rfl, A, _, rfl, DGet.k (k := Sum.inr "stuffs") hA2, _, rfl, A, _, rfl, DGet.k (k := Sum.inr "states") hA2, _, rfl, A, _, rfl, DGet.k (k := Sum.inr "lands") hA2, _, rfl, A, _, rfl, DGet.k (k := Sum.inr "forms") hA2, upd_same, tk (.ref S1) (.ref S2) (.ref S3) (.ref Fa), rfl, by show 4 ≤ 15; decide, ?_⟩
      rw [upd_upd]
      have mk : mergeK [] (tk (.ref S1) (.ref S2) (.ref S3) (.ref Fa)) = tk (.ref S1) (.ref S2) (.ref S3) (.ref Fa) := rfl
      rw [mk]
      have g2 := g1.put (o := .dK (tk (.ref S1) (.ref S2) (.ref S3) (.ref Fa))) D0 Db Dl
      have hD2 : upd G1 D (.dK (tk (.ref S1) (.ref S2) (.ref S3) (.ref Fa))) D = some (.dK (tk (.ref S1) (.ref S2) (.ref S3) (.ref Fa))) := upd_same
      generalize upd G1 D (.dK (tk (.ref S1) (.ref S2) (.ref S3) (.ref Fa))) = G2 at g2 hD2 ⊢
      have gd2 : GoodT 20 G2 (.ref S1) (.ref S2) (.ref S3) (.ref Fa) := good.sq (g2.sq B)
      refine ⟨fun σ G => ∃ w1 w2 w3 w4, σ = [some (.ref b), some (.ref A), some (.int (0 + i)), some (.ref D), o4, o5] ∧ Dr b l H G ∧ G D = some (.dK (tk w1 w2 w3 w4)) ∧ SpT 21 G w1 w2 w3 w4, ?_, ?_⟩
      · refine ⟨_, rfl, _, _, rfl, rfl, _, rfl, ite2 (fun _ => ?_) (fun _ => ?_)⟩
        · exact ⟨_, rfl, _, rfl, b, l, D, _, _, _, _, rfl, g2.bag, Db, Dl, hD2, gd2, fun G3 w1 w2 w3 w4 B3 hD3 sp kp => ⟨w1, w2, w3, w4, rfl, dr_kp g2 D0 B3 kp, hD3, sp⟩⟩
        · exact ⟨_, _, _, _, rfl, g2, hD2, gd2.x.mono (by decide)⟩
      clear gd2 hD2 g2 G2 hA2
      rintro σ2 G2 ⟨w1, w2, w3, w4, rfl, g2, hD2, sp2⟩
      refine ⟨fun σ G => ∃ w1 w2 w3 w4, σ = [some (.ref b), some (.ref A), some (.int (0 + i)), some (.ref D), o4, o5] ∧ Dr b l H G ∧ G D = some (.dK (tk w1 w2 w3 w4)) ∧ SpT 22 G w1 w2 w3 w4, ?_, ?_⟩
      · refine ⟨_, rfl, _, _, rfl, rfl, _, rfl, ite2 (fun _ => ?_) (fun _ => ?_)⟩
        · obtain ⟨kd, v, R, run⟩ := due_run sp2 (by decide)
          obtain ⟨d, rd, dd⟩ := R.rp
          have ksh : Sh kd := by
            have := R.kinds
            simp only [List.mem_cons, List.not_mem_nil, or_false] at this
            rcases this with rfl | rfl | rfl | rfl | rfl <;> exact ⟨by decide, by decide +kernel⟩
          refine ⟨_, rfl, ?_⟩
          unfold tNil
          dsimp only
          refine run (Sq.refl _) (td_tk hD2) fun G3 p s3 hp => ?_
          refine ⟨by decide, fun q nq => ?_⟩
          have s4' := same_new (o := .tup [.str "none", .non]) (Same.rfl' (H := G3)) nq
          have hq : upd G3 q (.tup [.str "none", .non]) q = some (.tup [.str "none", .non]) := upd_same
          have s4 := s3.trans s4'
          have hp4 := s4' _ _ hp
          have rd4 := rd.mono (Sq.of s4)
          have g4 : Dr b l H (upd G3 q (.tup [.str "none", .non])) := ⟨g2.bag.same s4, g2.but.trans (But.of s4)⟩
          have hD4 := s4 _ _ hD2
          have sp4 := sp2.sq (Sq.of s4)
          have good4 : kd = "none" → GoodT 21 (upd G3 q (.tup [.str "none", .non])) w1 w2 w3 w4 := fun e => (R.good e).sq (Sq.of s4)
          generalize upd G3 q (.tup [.str "none", .non]) = G4 at hq s4 hp4 rd4 g4 hD4 sp4 good4 ⊢
          obtain ⟨rp, shp⟩ := pair_shaped ksh rd4 dd hp4
          have shn : Sh "none" := ⟨by decide, by decide +kernel⟩
          obtain ⟨rq, shq⟩ := pair_shaped (d := .none) shn Rp.non (Nat.zero_le _) hq
          refine ⟨_, _, rp.dp, rq.dp, shp, shq, _, rfl, ?_⟩
          generalize hc : PyData.eqv (.tuple [.str kd, d]) (.tuple [.str "none", .none]) = c
          cases c with
          | false => exact iteF ⟨w1, w2, w3, w4, rfl, g4, hD4, sp4.mono (by decide)⟩
          | true =>
            have gd4 := good4 (due_eqv R.kinds hc)
            exact iteT ⟨_, rfl, _, rfl, b, l, D, _, _, _, _, rfl, g4.bag, Db, Dl, hD4, gd4, fun G5 u1 u2 u3 u4 B5 hD5 sp kp => ⟨u1, u2, u3, u4, rfl, dr_kp g4 D0 B5 kp, hD5, sp⟩⟩
        · exact ⟨w1, w2, w3, w4, rfl, g2, hD2, sp2.mono (by decide)⟩
      clear sp2 hD2 g2 w1 w2 w3 w4 G2
      rintro σ2 G2 ⟨w1, w2, w3, w4, rfl, g2, hD2, sp2⟩
      obtain ⟨kd, v, R, run⟩ := due_run sp2 (by decide)
      obtain ⟨d, rd, dd⟩ := R.rp
      refine ⟨_, rfl, ?_⟩
      unfold tNil
      dsimp only
      refine run (Sq.refl _) (td_tk hD2) fun G3 p s3 hp => ?_
      refine ⟨_, rfl, ?_⟩
      dsimp only
      refine run (Sq.of s3) (td_tk (s3 _ _ hD2)) fun G4 q s4 hq => ?_
      have hp4 := s4 _ _ hp
      have s24 := s3.trans s4
      have rd4 := rd.mono (Sq.of s24)
      have g4 : Dr b l H G4 := ⟨g2.bag.same s24, g2.but.trans (But.of s24)⟩
      have x0 : ∀ {p : Addr} {Q : VK}, G4 p = some (.tup [.str kd, v]) → Q (.str kd) G4 → rIx K (.ref p) (.int 0) G4 Q := fun {p Q} e x => SqD.ix (.inr e) rfl x
      have x1 : ∀ {p : Addr} {Q : VK}, G4 p = some (.tup [.str kd, v]) → Q v G4 → rIx K (.ref p) (.int 1) G4 Q := fun {p Q} e x => SqD.ix (.inr e) rfl x
      obtain ⟨bv, tb, kb⟩ := rd4.kBool (K := K)
      have hs : decide (V.str kd = V.str kd) = true := decide_eq_true rfl
      refine ⟨_, rfl, x0 hq ⟨_, rfl, x0 hp4 ⟨rfl, _, rfl, ?_⟩⟩⟩
      rw [hs]
      refine iteF ⟨_, rfl, x1 hq ⟨_, _, bv, _, _, rfl, .ty _, tb, kb, _, rfl, x1 hp4 ⟨_, _, bv, _, _, rfl, .ty _, tb, kb, rfl, _, rfl, ?_⟩⟩⟩
      have hb : decide (V.bl (dB d) = V.bl (dB d)) = true := decide_eq_true rfl
      rw [hb]
      refine iteF ⟨_, rfl, x1 hq ⟨_, rfl, x1 hp4 ⟨d, d, rd4.dp, rd4.dp, rd4.shaped dd, rd4.shaped dd, _, rfl, ?_⟩⟩⟩
      rw [SeqAt.eqv_refl d rd4.lay]
      exact iteF ⟨g4, _, _, _, _, rfl⟩
    · rintro σ1 G1 ⟨g1, o2, o3, o4, o5, rfl⟩
      exact k G1 g1
end
end K02

/-! k02, the law, part b: _law_two_faults. -/
namespace K02
open PySem L2 PySem.Spec PyProof.Rows
abbrev sTwo : Stmt := top 46
abbrev twN : List Str := ["_law_bag_here", "_law_stock_here", "_law_told", "_law_name", "_law_due_here", "_law_met_here"]
section
variable {P : Program} {w : World} {K : PySem.W.Frag} {mg : Str → Option Value} {base : Heap}
theorem scTwo : FnScope twN ["_law_bag_here", "_law_stock_here"] (defScope sTwo) := ⟨rfl, rfl, rfl, by decide +kernel, rfl, by decide +kernel, by decide +kernel⟩
theorem ok_two {f fp fc fo fu fm : Addr} {fd fdp fdc fdo fdu fdm : FuncData} (F : Fun K "_law_two_faults" "_law_two_faults" sTwo f fd) (N : Nms mg) (DP : Df K mg "_law_pick" sPick ["_law_bag_here", "_law_many"] fp fdp) (GP : FnOk P w K mg base CX0 1 fp fdp ["_law_bag_here", "_law_many"] spPick)
    (DC : Df K mg "_law_choice" sChoice ["_law_bag_here", "_law_things"] fc fdc) (GC : FnOk P w K mg base CX0 2 fc fdc ["_law_bag_here", "_law_things"] (spChoice K)) (DO : Df K mg "_law_odd_name" sOdd ["_law_bag_here"] fo fdo) (GO : FnOk P w K mg base CX0 3 fo fdo ["_law_bag_here"] spOdd)
    (DU : Df K mg "_law_due" sDue ["_law_told"] fu fdu) (GU : FnOk P w K mg base CX0 3 fu fdu ["_law_told"] spDue) (DM : Df K mg "_law_met" sMet ["_law_told"] fm fdm) (GM : FnOk P w K mg base CX0 8 fm fdm ["_law_told"] spDue) :
    FnOk P w K mg base CX0 9 f fd ["_law_bag_here", "_law_stock_here"] spSpoilt := by
  refine F.ok scTwo (fun vs H Q E h => ?_) (fun cdv A0 outer s0 H vs Q E hr h => ?_)
  · obtain ⟨b, l, A, s, t, la, zs, rs, rfl, _⟩ := h
    rfl
  · obtain ⟨b, l, A, s, t, la, zs, rs, rfl, B, Ab, dw, k⟩ := h
    have nd := scTwo.nd
    have hu := hu_of hr
    have r1 := hr.mono (show 1 ≤ 8 by decide)
    have r2 := hr.mono (show 2 ≤ 8 by decide)
    have r3 := hr.mono (show 3 ≤ 8 by decide)
    refine ⟨_, pss_cons (ps_set (i := 2) nd rfl (Or.inl rfl) (pe_disp (pps_cons pe_str (pe_callTy call_list_of (by rfl) N.list (by decide +kernel) (pa_cons (pe_dget hu (pv 1) pe_str (fun _ _ => rfl)) pa_nil)) (pps_cons pe_str (pe_dget hu (pv 1) pe_str (fun _ _ => rfl)) (pps_cons pe_str (pe_dget hu (pv 1) pe_str (fun _ _ => rfl))
          (pps_cons pe_str (pe_dget hu (pv 1) pe_str (fun _ _ => rfl)) pps_nil)))) rfl rfl (by simp) (by decide)))
      (pss_cons (ps_asg (pe_call GO r3 rfl DO.g DO.F.kp DO.b .nil pass0 (pa_cons (pv 0) pa_nil)) (pg_sub (pe_dget hu (pv 2) pe_str (fun _ _ => rfl)) (pe_call GP r1 rfl DP.g DP.F.kp DP.b .nil pass0 (pa_cons (pv 0) (pa_cons (pe_callB call_len (by rfl) N.len PySem.boot_len (pa_cons (pe_dget hu (pv 2) pe_str (fun _ _ => rfl)) pa_nil)) pa_nil))) set_list))
      (pss_cons (ps_set (i := 3) nd rfl (Or.inl rfl) (pe_call GC r2 rfl DC.g DC.F.kp DC.b .nil pass0 (pa_cons (pv 0) (pa_cons (pe_lst (pa_cons pe_str (pa_cons pe_str pa_nil))) pa_nil))))
      (pss_cons (ps_dput hu (pv 2) (pv 3) (pe_call GC r2 rfl DC.g DC.F.kp DC.b .nil pass0 (pa_cons (pv 0) (pa_cons (pe_lst (pa_cons (pe_lst pa_nil) (pa_cons (pe_lst (pa_cons (pe_ix ix_seq (pe_ix ix_list (pe_dget hu (pv 2) pe_str (fun _ _ => rfl)) pe_int (fun _ _ => rfl)) pe_int (fun _ _ => rfl)) pa_nil))
            (pa_cons (pe_op op_cat (pe_callTy call_list_of (by rfl) N.list (by decide +kernel) (pa_cons (pe_dget hu (pv 2) (pv 3) (fun _ _ => rfl)) pa_nil)) (pe_lst (pa_cons (pe_ix ix_seq (pe_dget hu (pv 2) (pv 3) (fun _ _ => rfl)) pe_int (fun _ _ => rfl)) pa_nil)))
            (pa_cons (pe_lst (pa_cons (pe_call GO r3 rfl DO.g DO.F.kp DO.b .nil pass0 (pa_cons (pv 0) pa_nil)) pa_nil)) pa_nil))))) pa_nil))) rfl)
      (pss_cons (ps_set (i := 4) nd rfl (Or.inl rfl) (pe_call GU r3 rfl DU.g DU.F.kp DU.b .nil pass0 (pa_cons (pv 2) pa_nil)))
      (pss_cons (ps_set (i := 5) nd rfl (Or.inl rfl) (pe_call GM hr rfl DM.g DM.F.kp DM.b .nil pass0 (pa_cons (pv 2) pa_nil)))
      (pss_one (ps_ret (pe_and (pe_cmpR op_eq (pe_ix ix_seq (pv 5) pe_int (fun _ _ => rfl)) (pe_ix ix_seq (pv 4) pe_int (fun _ _ => rfl)) (nomark _))
        (pe_and (pe_cmpR op_eq (pe_callB call_isi (by rfl) N.isi (by decide +kernel) (pa_cons (pe_ix ix_seq (pv 5) pe_int (fun _ _ => rfl)) (pa_cons (pe_bltn (v := .ty "bool") (by rfl) N.bool (by decide +kernel) rfl) pa_nil)))
              (pe_callB call_isi (by rfl) N.isi (by decide +kernel) (pa_cons (pe_ix ix_seq (pv 4) pe_int (fun _ _ => rfl)) (pa_cons (pe_bltn (v := .ty "bool") (by rfl) N.bool (by decide +kernel) rfl) pa_nil))) (nomark _))
        (pe_one (pe_cmpR (op_eqD hr.units) (pe_ix ix_seq (pv 5) pe_int (fun _ _ => rfl)) (pe_ix ix_seq (pv 4) pe_int (fun _ _ => rfl)) (nomark _)))))))))))), ?_⟩
    obtain ⟨S1, S2, S3, Fa, S4, xs, shs, shd, hA, h1, h2, h3, hF, rows, h4, r4', good⟩ := dw.good
    have new : ∀ {G : Hp} {p : Addr}, Dr b l H G → G p = none → H p = none ∧ p ≠ b ∧ p ≠ l := fun {G p} d e => by
      have nb := d.bag.ne_b e
      refine ⟨?_, nb, d.bag.ne_l e⟩
      cases q : H p with
      | none => rfl
      | some o => rw [d.but _ _ q nb] at e; cases e
    have nm1 : ∀ x ∈ s.map V.str, NmV x := fun x hx => by
      obtain ⟨z, hz, rfl⟩ := List.mem_map.mp hx
      exact ⟨z, rfl, dw.ok.nm z (List.mem_append.mpr (.inl hz))⟩
    have l1 : 1 ≤ (s.map V.str).length ∧ (s.map V.str).length ≤ 5 := by rw [List.length_map]; exact dw.ok.ls
    generalize s.map V.str = ss at nm1 l1 h1
    refine fun D nD => ?_
    obtain ⟨D0, Db, Dl⟩ := new (Dr.refl B) nD
    have sw : ∀ {o : HO}, Same H (upd H D o) := fun {o} => same_new Same.rfl' nD
    have hA1 : upd H D (.dK []) A = _ := sw _ _ hA
    refine ⟨_, rfl, A, _, rfl, DGet.k (k := Sum.inr "stuffs") hA1, S1, _, rfl, .inl (SqL.of (sw _ _ h1)), fun C nC => ?_⟩
    have hA2 : upd (upd H D (.dK [])) C (.lst ss) A = _ := same_new (Same.rfl' (H := upd H D (.dK []))) nC _ _ hA1
    have C0 : H C = none := none_of sw nC
    have CD : C ≠ D := fun e => by rw [e, upd_same] at nC; cases nC
    obtain ⟨_, Cb, Cl⟩ := new (Dr.refl B) C0
    refine ⟨_, rfl, A, _, rfl, DGet.k (k := Sum.inr "states") hA2, _, rfl, A, _, rfl, DGet.k (k := Sum.inr "lands") hA2, _, rfl, A, _, rfl, DGet.k (k := Sum.inr "forms") hA2, by rw [upd_ne (Ne.symm CD)]; exact upd_same, tk (.ref C) (.ref S2) (.ref S3) (.ref Fa), rfl, by show 4 ≤ 15; decide, ?_⟩
    have mk : mergeK [] (tk (.ref C) (.ref S2) (.ref S3) (.ref Fa)) = tk (.ref C) (.ref S2) (.ref S3) (.ref Fa) := rfl
    rw [mk]
    have g1 : Dr b l H (upd (upd (upd H D (.dK [])) C (.lst ss)) D (.dK (tk (.ref C) (.ref S2) (.ref S3) (.ref Fa)))) := (((Dr.refl B).put D0 Db Dl).put C0 Cb Cl).put D0 Db Dl
    have hD1 : upd (upd (upd H D (.dK [])) C (.lst ss)) D (.dK (tk (.ref C) (.ref S2) (.ref S3) (.ref Fa))) D = some (.dK (tk (.ref C) (.ref S2) (.ref S3) (.ref Fa))) := upd_same
    have hC1 : upd (upd (upd H D (.dK [])) C (.lst ss)) D (.dK (tk (.ref C) (.ref S2) (.ref S3) (.ref Fa))) C = some (.lst ss) := by rw [upd_ne CD]; exact upd_same
    generalize upd (upd (upd H D (.dK [])) C (.lst ss)) D (.dK (tk (.ref C) (.ref S2) (.ref S3) (.ref Fa))) = G1 at g1 hD1 hC1 ⊢
    clear hA1 hA2 nC
    refine ⟨_, rfl, b, l, rfl, g1.bag, fun v d G2 g2' ov => ?_⟩
    have g2 := g1.trans g2'
    have hD2 := g2'.but _ _ hD1 Db
    have hC2 := g2'.but _ _ hC1 Cb
    refine ⟨_, rfl, D, _, rfl, DGet.k (k := Sum.inr "stuffs") hD2, _, rfl, _, rfl, D, _, rfl, DGet.k (k := Sum.inr "stuffs") hD2, .ref C, ss.length, rfl, .inl ⟨ss, SqL.of hC2, rfl⟩, b, l, _, rfl, by omega, by omega, g2.bag, fun at' G3 a0 a1 B3 t3 _ => ?_⟩
    obtain ⟨j, rfl⟩ := Int.eq_ofNat_of_zero_le a0
    have hj : j < ss.length := by omega
    have g3 := g2.trans ⟨B3, t3⟩
    have hD3 := t3 _ _ hD2 Db
    have hC3 := t3 _ _ hC2 Cb
    have ov3 : ∀ G : Hp, (∀ a us, G3 a = some (.tup us) → G a = some (.tup us)) → Rp G v d := fun G hG => ov.up G fun a us e => hG a us (t3 _ _ e fun z => by
      obtain ⟨ns, x, r, m, c, hb, _⟩ := g2.bag
      rw [z, hb] at e; cases e)
    refine ⟨C, ss, _, j, rfl, rfl, hC3, (by unfold ixN; rw [if_pos (by omega), if_pos (by omega)]; rfl), ?_⟩
    have g4 := g3.put (o := .lst (ss.set j v)) C0 Cb Cl
    have n4 : NamesX (upd G3 C (.lst (ss.set j v))) (.ref C) (.list ((ss.map dV).set j d)) := names_set upd_same nm1 (by omega) (ov3 _ fun a us e => by rw [upd_ne (ne_of e hC3 (by intro z; cases z))]; exact e) ov.sh
    have hD4 : upd G3 C (.lst (ss.set j v)) D = _ := (upd_ne (Ne.symm CD)).trans hD3
    generalize upd G3 C (.lst (ss.set j v)) = G4 at g4 n4 hD4 ⊢
    clear hD3 hC3 g3 t3 B3 hC2 hD2 g2 g2' hC1 hD1 g1 ov3 ov
    refine ⟨_, rfl, by decide, fun L nL => ?_⟩
    obtain ⟨L0, Lb, Ll⟩ := new g4 nL
    have s5 := same_new (o := .lst [.str "states", .str "lands"]) (Same.rfl' (H := G4)) nL
    have g5 := g4.put (o := .lst [.str "states", .str "lands"]) L0 Lb Ll
    refine ⟨b, l, L, _, rfl, upd_same, Lb, by decide, by decide, g5.bag, fun x G6 xin B6 t6 _ => ?_⟩
    have g6 := g5.trans ⟨B6, t6⟩
    have kd46 : Kd G4 G6 := (Kd.of s5).trans (Kd.but g5.bag t6)
    have n6 := n4.sq kd46.sq
    have hD6 := t6 _ _ (s5 _ _ hD4) Db
    -- the chosen part
    have part : ∃ z v, x = .str z ∧ valV (tk (.ref C) (.ref S2) (.ref S3) (.ref Fa)) (Sum.inr z) = some v ∧ NamesG H v ∧ ∀ u G, Sq H G → NamesX G (.ref C) (.list ((ss.map dV).set j d)) → (∃ d, NamesX G u d) → G D = some (.dK (putK (tk (.ref C) (.ref S2) (.ref S3) (.ref Fa)) (Sum.inr z) u)) →
        ∃ w1 w2 w3 w4, G D = some (.dK (tk w1 w2 w3 w4)) ∧ SpT 20 G w1 w2 w3 w4 := by
      simp only [List.mem_cons, List.not_mem_nil, or_false] at xin
      rcases xin with rfl | rfl
      · refine ⟨_, _, rfl, rfl, good.n2, fun u G sq n1 nu hG => ⟨.ref C, u, .ref S3, .ref Fa, hG, ⟨_, n1⟩, nu, (good.sq sq).n3.x, (good.sq sq).f.x⟩⟩
      · refine ⟨_, _, rfl, rfl, good.n3, fun u G sq n1 nu hG => ⟨.ref C, .ref S2, u, .ref Fa, hG, ⟨_, n1⟩, (good.sq sq).n2.x, nu, (good.sq sq).f.x⟩⟩
    obtain ⟨z, pv', rfl, hpv, pg, fin⟩ := part
    obtain ⟨ap, px, epv, qp, lp1, lp5, mp⟩ := pg
    subst epv
    have gD6 : ∀ {G : Hp}, G D = some (.dK (tk (.ref C) (.ref S2) (.ref S3) (.ref Fa))) → DGet G D (.str z) (some (.ref ap)) := fun {G} e => by
      have q := DGet.k (k := Sum.inr z) e
      rw [hpv] at q
      exact q
    obtain ⟨a4, aq, t4, r4, row4, e4, q4, qq4, m4⟩ := good.f.first
    cases e4
    refine ⟨_, rfl, by decide, fun E1 nE => ?_⟩
    obtain ⟨E0, Eb, El⟩ := new g6 nE
    have g7 := g6.put (o := .lst []) E0 Eb El
    have s7 := same_new (o := .lst []) (Same.rfl' (H := G6)) nE
    have hE : upd G6 E1 (.lst []) E1 = some (.lst []) := upd_same
    generalize upd G6 E1 (.lst []) = G7 at g7 s7 hE ⊢
    have hD7 := s7 _ _ hD6
    refine ⟨_, rfl, D, _, rfl, DGet.k (k := Sum.inr "forms") hD7, Fa, _, 0, _, rfl, rfl, SqL.of ((g7.sq B).2 _ _ q4), at0, (qq4.sq (g7.sq B)).ix rfl ⟨by show 1 ≤ sizeLine; decide, fun M nM => ?_⟩⟩
    obtain ⟨M0, Mb, Ml⟩ := new g7 nM
    have g8 := g7.put (o := .lst [row4.n]) M0 Mb Ml
    have s8' := same_new (o := .lst [row4.n]) (Same.rfl' (H := G7)) nM
    have s8 := s7.trans s8'
    have hM : upd G7 M (.lst [row4.n]) M = some (.lst [row4.n]) := upd_same
    have hE8 := s8' _ _ hE
    generalize upd G7 M (.lst [row4.n]) = G8 at g8 s8' s8 hM hE8 ⊢
    have hD8 := s8 _ _ hD6
    refine ⟨_, rfl, _, rfl, D, _, rfl, gD6 hD8, ap, px, rfl, (qp.sq (g8.sq B)).imp (fun e => SqL.of e) (fun e => SqT.of e), fun Z nZ => ?_⟩
    obtain ⟨Z0, Zb, Zl⟩ := new g8 nZ
    have g9 := g8.put (o := .lst px) Z0 Zb Zl
    have s9' := same_new (o := .lst px) (Same.rfl' (H := G8)) nZ
    have s9 := s8.trans s9'
    have hZ : upd G8 Z (.lst px) Z = some (.lst px) := upd_same
    have hE9 := s9' _ _ hE8
    have hM9 := s9' _ _ hM
    generalize upd G8 Z (.lst px) = G9 at g9 s9' s9 hZ hE9 hM9 ⊢
    have hD9 := s9 _ _ hD6
    have hp0 : px[0]? = some px[0] := List.getElem?_eq_getElem lp1
    have at0' : atI px 0 = some px[0] := atI_nat (j := 0) hp0
    refine ⟨_, rfl, _, rfl, D, _, rfl, gD6 hD9, (qp.sq (g9.sq B)).ix at0' ⟨by show 1 ≤ sizeLine; decide, fun Y nY => ?_⟩⟩
    obtain ⟨Y0, Yb, Yl⟩ := new g9 nY
    have ga := g9.put (o := .lst [px[0]]) Y0 Yb Yl
    have sa' := same_new (o := .lst [px[0]]) (Same.rfl' (H := G9)) nY
    have sa := s9.trans sa'
    have hY : upd G9 Y (.lst [px[0]]) Y = some (.lst [px[0]]) := upd_same
    have hZa := sa' _ _ hZ
    have hEa := sa' _ _ hE9
    have hMa := sa' _ _ hM9
    generalize upd G9 Y (.lst [px[0]]) = Ga at ga sa' sa hY hZa hEa hMa ⊢
    refine ⟨Z, Y, _, _, rfl, rfl, hZa, hY, Nat.le_of_lt (small1000 (by show px.length + 1 ≤ 1000; omega)), fun W nW => ?_⟩
    obtain ⟨W0, Wb, Wl⟩ := new ga nW
    have gb := ga.put (o := .lst (px ++ [px[0]])) W0 Wb Wl
    have sb' := same_new (o := .lst (px ++ [px[0]])) (Same.rfl' (H := Ga)) nW
    have sb := sa.trans sb'
    have hW : upd Ga W (.lst (px ++ [px[0]])) W = some (.lst (px ++ [px[0]])) := upd_same
    have hEb := sb' _ _ hEa
    have hMb := sb' _ _ hMa
    generalize upd Ga W (.lst (px ++ [px[0]])) = Gb at gb sb' sb hW hEb hMb ⊢
    refine ⟨_, rfl, b, l, rfl, gb.bag, fun v2 d2 Gc gc' ov2 => ?_⟩
    have gc := gb.trans gc'
    have kdc : Kd Gb Gc := Kd.but gb.bag gc'.but
    have hWc := gc'.but _ _ hW Wb
    have hEc := gc'.but _ _ hEb Eb
    have hMc := gc'.but _ _ hMb Mb
    refine ⟨by show 1 ≤ sizeLine; decide, fun U nU => ?_⟩
    obtain ⟨U0, Ub, Ul⟩ := new gc nU
    have gd := gc.put (o := .lst [v2]) U0 Ub Ul
    have sd := same_new (o := .lst [v2]) (Same.rfl' (H := Gc)) nU
    have hU : upd Gc U (.lst [v2]) U = some (.lst [v2]) := upd_same
    generalize upd Gc U (.lst [v2]) = Gd at gd sd hU ⊢
    refine ⟨by show 4 ≤ sizeLine; decide, fun L2 nL2 => ?_⟩
    obtain ⟨L20, L2b, L2l⟩ := new gd nL2
    have se := same_new (o := .lst [.ref E1, .ref M, .ref W, .ref U]) (Same.rfl' (H := Gd)) nL2
    have ge := gd.put (o := .lst [.ref E1, .ref M, .ref W, .ref U]) L20 L2b L2l
    refine ⟨b, l, L2, _, rfl, upd_same, L2b, by show 0 < 4; decide, by show 4 < 1000; decide, ge.bag, fun x Gf xin2 Bf tf _ => ?_⟩
    have gf := ge.trans ⟨Bf, tf⟩
    have kdf : Kd Gc Gf := ((Kd.of sd).trans (Kd.of se)).trans (Kd.but ge.bag tf)
    have hDf := tf _ _ (se _ _ (sd _ _ (gc'.but _ _ (sb _ _ hD6) Db))) Db
    have kd6f : Kd G6 Gf := ((Kd.of sb).trans kdc).trans kdf
    have nf := n6.sq kd6f.sq
    have noK : ∀ {xs : List V} (kvs : List (Key × V)), HO.lst xs ≠ .dK kvs := fun kvs h => by cases h
    have nx : ∃ d, NamesX Gf x d := by
      simp only [List.mem_cons, List.not_mem_nil, or_false] at xin2
      rcases xin2 with rfl | rfl | rfl | rfl
      · exact ⟨_, (no_list (.lst (kdf _ _ hEc noK) .nil) (fun m _ => rfl) 0).1⟩
      · have hm := kdf _ _ hMc noK
        obtain ⟨rp, sh⟩ := nm_rps (H := Gf) (xs := [row4.n]) fun y hy => by rw [List.mem_singleton.mp hy]; exact m4
        exact ⟨_, .lst hm rp, fun _ => ⟨M, _, _, rfl, .inl hm, rp, sh, by show 1 ≤ 10; decide⟩⟩
      · have hm := kdf _ _ hWc noK
        obtain ⟨rp, sh⟩ := nm_rps (H := Gf) (xs := px ++ [px[0]]) fun y hy => by
          rcases List.mem_append.mp hy with h | h
          · exact mp y h
          · rw [List.mem_singleton.mp h]; exact mp _ (List.getElem_mem lp1)
        exact ⟨_, .lst hm rp, fun _ => ⟨W, _, _, rfl, .inl hm, rp, sh, by rw [List.length_append]; show px.length + 1 ≤ 10; omega⟩⟩
      · have hm : Gf U = some (.lst [v2]) := Kd.but ge.bag tf _ _ (se _ _ hU) noK
        have rp : Rps Gf [v2] [d2] := .cons (ov2.up Gf fun a us e => kdf _ _ e (fun kvs h => by cases h)) .nil
        exact ⟨_, .lst hm rp, fun _ => ⟨U, _, _, rfl, .inl hm, rp, (fun e he => by rw [List.mem_singleton.mp he]; exact ov2.sh), by show 1 ≤ 10; decide⟩⟩
    refine ⟨_, rfl, _, rfl, D, _, rfl, DPut.k (k := Sum.inr z) hDf (by show 4 < sizeLine; decide), ?_⟩
    have gg := gf.put (o := .dK (putK (tk (.ref C) (.ref S2) (.ref S3) (.ref Fa)) (Sum.inr z) x)) D0 Db Dl
    have sq : Sq Gf (upd Gf D (.dK (putK (tk (.ref C) (.ref S2) (.ref S3) (.ref Fa)) (Sum.inr z) x))) := ⟨fun a xs e => by rw [upd_ne (ne_of e hDf (by intro z; cases z))]; exact e, fun a xs e => by rw [upd_ne (ne_of e hDf (by intro z; cases z))]; exact e⟩
    obtain ⟨w1, w2, w3, w4, hDg, sp⟩ := fin x _ (gg.sq B) (nf.sq sq) (nx.imp fun _ h => h.sq sq) upd_same
    generalize upd Gf D (.dK (putK (tk (.ref C) (.ref S2) (.ref S3) (.ref Fa)) (Sum.inr z) x)) = G2 at gg hDg sp ⊢
    obtain ⟨kd, v, R, run⟩ := due_run sp (by decide)
    obtain ⟨d, rd, dd⟩ := R.rp
    refine ⟨_, rfl, ?_⟩
    unfold tNil
    dsimp only
    refine run (Sq.refl _) (td_tk hDg) fun G3 p s3 hp => ?_
    refine ⟨_, rfl, ?_⟩
    dsimp only
    refine run (Sq.of s3) (td_tk (s3 _ _ hDg)) fun G4 q s4 hq => ?_
    have hp4 := s4 _ _ hp
    have s24 := s3.trans s4
    have rd4 := rd.mono (Sq.of s24)
    have g4 : Dr b l H G4 := ⟨gg.bag.same s24, gg.but.trans (But.of s24)⟩
    have x0 : ∀ {p : Addr} {Q : VK}, G4 p = some (.tup [.str kd, v]) → Q (.str kd) G4 → rIx K (.ref p) (.int 0) G4 Q := fun {p Q} e x => SqD.ix (.inr e) rfl x
    have x1 : ∀ {p : Addr} {Q : VK}, G4 p = some (.tup [.str kd, v]) → Q v G4 → rIx K (.ref p) (.int 1) G4 Q := fun {p Q} e x => SqD.ix (.inr e) rfl x
    obtain ⟨bv, tb, kb⟩ := rd4.kBool (K := K)
    have hs : decide (V.str kd = V.str kd) = true := decide_eq_true rfl
    have hb : decide (V.bl (dB d) = V.bl (dB d)) = true := decide_eq_true rfl
    refine ⟨_, rfl, x0 hq ⟨_, rfl, x0 hp4 ⟨rfl, _, rfl, ?_⟩⟩⟩
    rw [hs]
    refine iteT ⟨_, rfl, x1 hq ⟨_, _, bv, _, _, rfl, .ty _, tb, kb, _, rfl, x1 hp4 ⟨_, _, bv, _, _, rfl, .ty _, tb, kb, rfl, _, rfl, ?_⟩⟩⟩
    rw [hb]
    refine iteT ⟨_, rfl, x1 hq ⟨_, rfl, x1 hp4 ⟨d, d, rd4.dp, rd4.dp, rd4.shaped dd, rd4.shaped dd, ?_⟩⟩⟩
    rw [SeqAt.eqv_refl d rd4.lay]
    exact k _ g4
end
end K02

/-! k02, the law: what the other stock is. -/
namespace K02
open PySem L2 PySem.Spec PyProof.Rows
abbrev z12 : Str := "zzzzzzzzzzzz"
def compR (rs : List FRow) (ts : List V) : List V := (rootsOf rs).filter fun x => !inV x ts
abbrev zRow : FRow := ⟨.str z12, 1, 1, [.str "mix"]⟩
/-- which lists of names it has -/
def C1 (s t l : List Str) (way : Int) (s' t' l' : List Str) : Prop := (way = 0 ∧ s' = s ++ [z12] ∧ t' = t ∧ l' = l) ∨ (way = 1 ∧ s' = s ∧ t' = t ++ [z12] ∧ l' = l) ∨ (way = 2 ∧ s' = s ∧ t' = t ∧ l' = l ++ [z12]) ∨ (3 ≤ way ∧ s' = s ∧ t' = t ∧ l' = l)
def C3 (rs1 : List FRow) (way : Int) (rs' : List FRow) : Prop := (way = 4 ∧ rs' = rs1 ++ [zRow]) ∨ (way ≠ 4 ∧ rs' = rs1)
def C2 (r0 : FRow) (rs1 : List FRow) (way : Int) (ts : List V) : Prop := (way = 3 ∧ ts = compR (r0 :: rs1) r0.ts) ∨ (way ≠ 3 ∧ ts = r0.ts)
def C4 (r0 : FRow) (rs1 : List FRow) (way lo hi : Int) (ts : List V) : Prop := (way = 3 ∧ ts = r0.ts ∧ lo = 4 ∧ hi = 4) ∨ (lo = r0.lo ∧ hi = r0.hi ∧ ts ≠ [] ∧ C2 r0 rs1 way ts)
def C5 (r0 : FRow) (rs1 : List FRow) (way lo hi : Int) (ts : List V) : Prop := (C4 r0 rs1 way lo hi ts ∧ ¬ (lo = 4 ∧ hi = 4 ∧ r0.lo = 4 ∧ r0.hi = 4)) ∨ (lo = 3 ∧ hi = 4 ∧ r0.lo = 4 ∧ r0.hi = 4 ∧ C4 r0 rs1 way 4 4 ts)
theorem nodup_ins {α : Type} {a b : List α} {x : α} (h : (a ++ b).Nodup) (n : x ∉ a ++ b) : (a ++ x :: b).Nodup := (List.perm_middle.nodup_iff).mpr (List.nodup_cons.mpr ⟨n, h⟩)
theorem eqv_rows {r r' : FRow} {rs rs' : List FRow} (h : PyData.eqv (rowDt r) (rowDt r') = false) : PyData.eqv (rowsD (r :: rs)) (rowsD (r' :: rs')) = false := by
  show PyData.eqvAll (rowDt r :: rs.map rowDt) (rowDt r' :: rs'.map rowDt) = false
  rw [PyData.eqvAll, h, Bool.false_and]
theorem eqv_row {r r' : FRow} (h : r.lo ≠ r'.lo ∨ r.hi ≠ r'.hi ∨ PyData.eqvAll (r.ts.map dV) (r'.ts.map dV) = false) : PyData.eqv (rowDt r) (rowDt r') = false := by
  have e : PyData.eqv (rowDt r) (rowDt r') = (PyData.eqv (dV r.n) (dV r'.n) && ((r.lo == r'.lo) && ((r.hi == r'.hi) && (PyData.eqvAll (r.ts.map dV) (r'.ts.map dV) && true)))) := by
    show PyData.eqvAll [dV r.n, .int r.lo, .int r.hi, .tuple (r.ts.map dV)] [dV r'.n, .int r'.lo, .int r'.hi, .tuple (r'.ts.map dV)] = _
    simp only [PyData.eqvAll, PyData.eqv]
  rw [e]
  rcases h with h | h | h
  · rw [show (r.lo == r'.lo) = false from beq_eq_false_iff_ne.mpr h, Bool.false_and, Bool.and_false]
  · rw [show (r.hi == r'.hi) = false from beq_eq_false_iff_ne.mpr h, Bool.false_and, Bool.and_false, Bool.and_false]
  · rw [h, Bool.false_and, Bool.and_false, Bool.and_false, Bool.and_false]
theorem eqSt_names {s t l s' t' l' : List V} {rs rs' : List FRow} (h : s.length ≠ s'.length ∨ t.length ≠ t'.length ∨ l.length ≠ l'.length ∨ PyData.eqv (rowsD rs) (rowsD rs') = false) : eqSt s t l rs s' t' l' rs' = false := by
  have len : ∀ {a b : List V}, a.length ≠ b.length → PyData.eqv (txtD a) (txtD b) = false := fun {a b} h => by
    show PyData.eqvAll (a.map dV) (b.map dV) = false
    exact SeqAt.eqvAll_other_length (by rw [List.length_map, List.length_map]; exact h)
  unfold eqSt
  rcases h with h | h | h | h
  · rw [len h, Bool.false_and]
  · rw [len h, Bool.false_and, Bool.and_false]
  · rw [len h, Bool.false_and, Bool.and_false, Bool.and_false]
  · rw [h, Bool.and_false, Bool.and_false, Bool.and_false]
theorem rows_len {rs rs' : List FRow} (h : rs.length ≠ rs'.length) : PyData.eqv (rowsD rs) (rowsD rs') = false := by
  show PyData.eqvAll (rs.map rowDt) (rs'.map rowDt) = false
  exact SeqAt.eqvAll_other_length (by rw [List.length_map, List.length_map]; exact h)
/-- what the law's other stock is made of: right, and another one -/
theorem vary {s t l zs : List Str} {r0 : FRow} {rs1 : List FRow} {way lo hi : Int} {s' t' l' : List Str} {ts : List V} {rs' : List FRow} (D : DrawnOk s t l zs (r0 :: rs1)) (sh : ∀ z ∈ s ++ (t ++ (l ++ zs)), z.length ≤ 11) (few : s.length ≤ 3 ∧ t.length ≤ 3 ∧ l.length ≤ 3 ∧ (r0 :: rs1).length ≤ 5)
    (w0 : 0 ≤ way) (w5 : way < 5) (c1 : C1 s t l way s' t' l') (c3 : C3 rs1 way rs') (c5 : C5 r0 rs1 way lo hi ts) :
    (∃ zs', DrawnOk s' t' l' zs' (⟨r0.n, lo, hi, ts⟩ :: rs')) ∧ eqSt (s.map V.str) (t.map V.str) (l.map V.str) (r0 :: rs1) (s'.map V.str) (t'.map V.str) (l'.map V.str) (⟨r0.n, lo, hi, ts⟩ :: rs') = false := by
  obtain ⟨q1, q2, q3, q4, q5, q6, q7⟩ := D.row r0 List.mem_cons_self
  have zok : nmS z12 = true := by decide +kernel
  have znot : z12 ∉ s ++ (t ++ (l ++ zs)) := fun h => by
    have := sh _ h
    have e : z12.length = 12 := by decide
    omega
  obtain ⟨f1, f2, f3, f4⟩ := few
  have roots : (rootsOf (r0 :: rs1)).Nodup := by
    refine List.nodup_cons.mpr ⟨fun hm => ?_, ?_⟩
    · rw [D.nr] at hm
      obtain ⟨z, hz, e⟩ := List.mem_map.mp hm
      injection e with e
      have := D.nm z (List.mem_append.mpr (.inr (List.mem_append.mpr (.inr (List.mem_append.mpr (.inr hz))))))
      rw [e] at this
      exact absurd this (by decide +kernel)
    · rw [D.nr]
      exact nd_str (D.nd.sublist ((List.sublist_append_right _ _).trans ((List.sublist_append_right _ _).trans (List.sublist_append_right _ _))))
  have cr : ∀ x ∈ compR (r0 :: rs1) r0.ts, x ∈ rootsOf (r0 :: rs1) ∧ inV x r0.ts = false := fun x hx => by
    obtain ⟨h1, h2⟩ := List.mem_filter.mp hx
    exact ⟨h1, by simpa using h2⟩
  -- the first row is right
  have c4 : ∃ lo4 hi4, C4 r0 rs1 way lo4 hi4 ts ∧ 1 ≤ lo ∧ lo ≤ hi ∧ hi ≤ 4 := by
    rcases c5 with ⟨c, _⟩ | ⟨rfl, rfl, _, _, c⟩
    · refine ⟨lo, hi, c, ?_⟩
      rcases c with ⟨_, _, rfl, rfl⟩ | ⟨rfl, rfl, _⟩ <;> omega
    · exact ⟨4, 4, c, by decide, by decide, by decide⟩
  obtain ⟨lo4, hi4, c4, b1, b2, b3⟩ := c4
  have tsok : ts ≠ [] ∧ ts.length ≤ 100 ∧ (∀ x ∈ ts, x ∈ rootsOf (r0 :: rs1)) ∧ ts.Nodup := by
    have cc : (way = 3 ∧ ts = compR (r0 :: rs1) r0.ts) → ts ≠ [] → ts ≠ [] ∧ ts.length ≤ 100 ∧ (∀ x ∈ ts, x ∈ rootsOf (r0 :: rs1)) ∧ ts.Nodup := fun ⟨_, e⟩ ne => by
      refine ⟨ne, ?_, fun x hx => (cr x (by rw [← e]; exact hx)).1, ?_⟩
      · rw [e]
        have h1 := List.length_filter_le (fun x => !inV x r0.ts) (rootsOf (r0 :: rs1))
        have h2 : (rootsOf (r0 :: rs1)).length = (r0 :: rs1).length + 1 := by show (List.map FRow.n (r0 :: rs1)).length + 1 = _; rw [List.length_map]
        have h3 : (compR (r0 :: rs1) r0.ts).length ≤ (rootsOf (r0 :: rs1)).length := h1
        omega
      · rw [e]; exact roots.sublist List.filter_sublist
    rcases c4 with ⟨_, rfl, _⟩ | ⟨_, _, ne, c | ⟨_, rfl⟩⟩
    · exact ⟨q4, q5, q6, q7⟩
    · exact cc c ne
    · exact ⟨q4, q5, q6, q7⟩
  obtain ⟨t1, t2, t3, t4⟩ := tsok
  have rl : (r0 :: rs1).length = rs1.length + 1 := rfl
  -- rows right over more roots
  have same_rows : ∀ {zs' : List Str} {rs'' : List FRow}, (∀ x ∈ rootsOf (r0 :: rs1), x ∈ rootsOf (⟨r0.n, lo, hi, ts⟩ :: rs'')) → (∀ r ∈ rs'', r ∈ rs1 ∨ r = zRow) → ∀ r ∈ (⟨r0.n, lo, hi, ts⟩ :: rs'' : List FRow), 1 ≤ r.lo ∧ r.lo ≤ r.hi ∧ r.hi ≤ 4 ∧ r.ts ≠ [] ∧ r.ts.length ≤ 100 ∧ (∀ x ∈ r.ts, x ∈ rootsOf (⟨r0.n, lo, hi, ts⟩ :: rs'')) ∧ r.ts.Nodup := fun {zs' rs''} hr hs r h => by
    rcases List.mem_cons.mp h with rfl | h
    · exact ⟨b1, b2, b3, t1, t2, fun x hx => hr x (t3 x hx), t4⟩
    · rcases hs r h with h | rfl
      · obtain ⟨p1, p2, p3, p4, p5, p6, p7⟩ := D.row r (List.mem_cons_of_mem _ h)
        exact ⟨p1, p2, p3, p4, p5, fun x hx => hr x (p6 x hx), p7⟩
      · exact ⟨by decide, by decide, by decide, by simp, by decide, fun x hx => by rw [List.mem_singleton.mp hx]; exact List.mem_cons_self, by simp⟩
  have plain : C3 rs1 way rs' → way ≠ 4 → rs' = rs1 := fun h n => h.elim (fun e => absurd e.1 n) fun e => e.2
  have nr' : ∀ {rs'' : List FRow}, rs'' = rs1 → (⟨r0.n, lo, hi, ts⟩ :: rs'' : List FRow).map FRow.n = zs.map V.str := fun e => by subst e; exact D.nr
  have allz : ∀ {w : List Str}, (∀ z ∈ w, z ∈ s ++ (t ++ (l ++ zs)) ∨ z = z12) → ∀ z ∈ w, nmS z = true := fun h z hz => (h z hz).elim (D.nm z) fun e => by rw [e]; exact zok
  rcases c1 with ⟨rfl, rfl, rfl, rfl⟩ | ⟨rfl, rfl, rfl, rfl⟩ | ⟨rfl, rfl, rfl, rfl⟩ | ⟨w3, rfl, rfl, rfl⟩
  · obtain rfl := plain c3 (by decide)
    refine ⟨⟨zs, ⟨by rw [List.length_append]; show 1 ≤ s.length + 1 ∧ s.length + 1 ≤ 5; omega, D.lt, D.ll, D.lr, nr' rfl, allz fun z hz => ?_, ?_, same_rows (zs' := zs) (fun x hx => hx) fun r h => .inl h⟩⟩, eqSt_names (.inl ?_)⟩
    · rcases List.mem_append.mp hz with h | h
      · rcases List.mem_append.mp h with h | h
        · exact .inl (List.mem_append.mpr (.inl h))
        · exact .inr (List.mem_singleton.mp h)
      · exact .inl (List.mem_append.mpr (.inr h))
    · have := nodup_ins D.nd znot
      rw [List.append_assoc]
      exact this
    · rw [List.length_map, List.length_map, List.length_append]; show s.length ≠ s.length + 1; omega
  · obtain rfl := plain c3 (by decide)
    refine ⟨⟨zs, ⟨D.ls, by rw [List.length_append]; show 1 ≤ t.length + 1 ∧ t.length + 1 ≤ 4; omega, D.ll, D.lr, nr' rfl, allz fun z hz => ?_, ?_, same_rows (zs' := zs) (fun x hx => hx) fun r h => .inl h⟩⟩, eqSt_names (.inr (.inl ?_))⟩
    · rcases List.mem_append.mp hz with h | h
      · exact .inl (List.mem_append.mpr (.inl h))
      · rcases List.mem_append.mp h with h | h
        · rcases List.mem_append.mp h with h | h
          · exact .inl (List.mem_append.mpr (.inr (List.mem_append.mpr (.inl h))))
          · exact .inr (List.mem_singleton.mp h)
        · exact .inl (List.mem_append.mpr (.inr (List.mem_append.mpr (.inr h))))
    · have h1 : ((s' ++ t) ++ (l' ++ zs)).Nodup := by rw [List.append_assoc]; exact D.nd
      have h2 : z12 ∉ (s' ++ t) ++ (l' ++ zs) := by rw [List.append_assoc]; exact znot
      have := nodup_ins h1 h2
      rw [List.append_assoc] at this
      rw [List.append_assoc]
      exact this
    · rw [List.length_map, List.length_map, List.length_append]; show t.length ≠ t.length + 1; omega
  · obtain rfl := plain c3 (by decide)
    refine ⟨⟨zs, ⟨D.ls, D.lt, by rw [List.length_append]; show 1 ≤ l.length + 1 ∧ l.length + 1 ≤ 4; omega, D.lr, nr' rfl, allz fun z hz => ?_, ?_, same_rows (zs' := zs) (fun x hx => hx) fun r h => .inl h⟩⟩, eqSt_names (.inr (.inr (.inl ?_)))⟩
    · rcases List.mem_append.mp hz with h | h
      · exact .inl (List.mem_append.mpr (.inl h))
      · rcases List.mem_append.mp h with h | h
        · exact .inl (List.mem_append.mpr (.inr (List.mem_append.mpr (.inl h))))
        · rcases List.mem_append.mp h with h | h
          · rcases List.mem_append.mp h with h | h
            · exact .inl (List.mem_append.mpr (.inr (List.mem_append.mpr (.inr (List.mem_append.mpr (.inl h))))))
            · exact .inr (List.mem_singleton.mp h)
          · exact .inl (List.mem_append.mpr (.inr (List.mem_append.mpr (.inr (List.mem_append.mpr (.inr h))))))
    · have e : ∀ w : List Str, s' ++ (t' ++ (l ++ w)) = (s' ++ (t' ++ l)) ++ w := fun w => by rw [List.append_assoc, List.append_assoc]
      have h1 : ((s' ++ (t' ++ l)) ++ zs).Nodup := by rw [← e]; exact D.nd
      have h2 : z12 ∉ (s' ++ (t' ++ l)) ++ zs := by rw [← e]; exact znot
      have := nodup_ins h1 h2
      rw [← e] at this
      rw [List.append_assoc]
      exact this
    · rw [List.length_map, List.length_map, List.length_append]; show l.length ≠ l.length + 1; omega
  · rcases c3 with ⟨rfl, rfl⟩ | ⟨n4, rfl⟩
    · refine ⟨⟨zs ++ [z12], ⟨D.ls, D.lt, D.ll, ?_, ?_, allz fun z hz => ?_, ?_, same_rows (zs' := zs) (fun x hx => ?_) fun r h => ?_⟩⟩, eqSt_names (.inr (.inr (.inr (rows_len ?_))))⟩
      · show 1 ≤ (rs1 ++ [zRow]).length + 1 ∧ (rs1 ++ [zRow]).length + 1 ≤ 6
        rw [List.length_append]
        show 1 ≤ rs1.length + 1 + 1 ∧ rs1.length + 1 + 1 ≤ 6
        omega
      · have := D.nr
        rw [List.map_append, ← this]
        show r0.n :: (rs1 ++ [zRow]).map FRow.n = (r0.n :: rs1.map FRow.n) ++ [.str z12]
        rw [List.map_append]
        rfl
      · rcases List.mem_append.mp hz with h | h
        · exact .inl (List.mem_append.mpr (.inl h))
        · rcases List.mem_append.mp h with h | h
          · exact .inl (List.mem_append.mpr (.inr (List.mem_append.mpr (.inl h))))
          · rcases List.mem_append.mp h with h | h
            · exact .inl (List.mem_append.mpr (.inr (List.mem_append.mpr (.inr (List.mem_append.mpr (.inl h))))))
            · rcases List.mem_append.mp h with h | h
              · exact .inl (List.mem_append.mpr (.inr (List.mem_append.mpr (.inr (List.mem_append.mpr (.inr h))))))
              · exact .inr (List.mem_singleton.mp h)
      · have e : ∀ w : List Str, s' ++ (t' ++ (l' ++ (zs ++ w))) = (s' ++ (t' ++ (l' ++ zs))) ++ w := fun w => by rw [List.append_assoc, List.append_assoc, List.append_assoc]
        rw [e]
        have := nodup_ins (b := []) (by rw [List.append_nil]; exact D.nd) (by rw [List.append_nil]; exact znot)
        exact this
      · rcases List.mem_cons.mp hx with h | h
        · rw [h]; exact List.mem_cons_self
        · refine List.mem_cons_of_mem _ ?_
          rcases List.mem_cons.mp h with h | h
          · rw [h]; exact List.mem_cons_self
          · refine List.mem_cons_of_mem _ ?_
            rw [List.map_append]
            exact List.mem_append.mpr (.inl h)
      · rcases List.mem_append.mp h with h | h
        · exact .inl h
        · exact .inr (List.mem_singleton.mp h)
      · show rs1.length + 1 ≠ (rs1 ++ [zRow]).length + 1
        rw [List.length_append]
        show rs1.length + 1 ≠ rs1.length + 1 + 1
        omega
    · have w3' : way = 3 := by omega
      subst w3'
      refine ⟨⟨zs, ⟨D.ls, D.lt, D.ll, D.lr, nr' rfl, allz fun z hz => .inl hz, D.nd, same_rows (zs' := zs) (fun x hx => hx) fun r h => .inl h⟩⟩, eqSt_names (.inr (.inr (.inr (eqv_rows (eqv_row ?_)))))⟩
      show r0.lo ≠ lo ∨ r0.hi ≠ hi ∨ PyData.eqvAll (r0.ts.map dV) (ts.map dV) = false
      have differ : ts ≠ [] → C2 r0 rs' 3 ts → PyData.eqvAll (r0.ts.map dV) (ts.map dV) = false := fun ne c => by
        rcases c with ⟨_, e⟩ | ⟨n, _⟩
        · cases ht : ts with
          | nil => exact absurd ht ne
          | cons c cs =>
            cases h0 : r0.ts with
            | nil => exact absurd h0 q4
            | cons h hs =>
              show PyData.eqvAll (dV h :: hs.map dV) (dV c :: cs.map dV) = false
              have hc := cr c (by rw [← e, ht]; exact List.mem_cons_self)
              obtain ⟨zc, ec, _⟩ := D.text c hc.1
              obtain ⟨zh, eh, _⟩ := D.text h (q6 h (by rw [h0]; exact List.mem_cons_self))
              have nin := hc.2
              rw [h0, ec, eh] at nin
              have ne2 : (zh == zc) = false := by
                have : (eqV (.str zh) (.str zc) || inV (.str zc) hs) = false := nin
                exact (Bool.or_eq_false_iff.mp this).1
              rw [PyData.eqvAll, ec, eh]
              show ((zh == zc) && _) = false
              rw [ne2, Bool.false_and]
        · exact absurd rfl n
      rcases c5 with ⟨c, no⟩ | ⟨rfl, rfl, e1, e2, c⟩
      · rcases c with ⟨_, rfl, rfl, rfl⟩ | ⟨rfl, rfl, ne, c⟩
        · by_cases h : r0.lo = 4
          · exact .inr (.inl fun e => no ⟨rfl, rfl, h, e⟩)
          · exact .inl h
        · exact .inr (.inr (differ ne c))
      · exact .inl (by omega)
end K02

/-! k02, the law, part c: _law_other. -/
namespace K02
open PySem L2 PySem.Spec PyProof.Rows K02T
abbrev sOther : Stmt := top 48
abbrev otN : List Str := ["_law_bag_here", "_law_stock_here", "_law_told", "_law_way", "_law_row", "_law_root"]
theorem RowV.right {H : Hp} {v : V} {r : FRow} (h : RowV H v r) (hn : FlatSh r.n) (ht : ∀ x ∈ r.ts, FlatSh x) (h1 : 1 ≤ r.lo) (h2 : r.lo ≤ r.hi) (h3 : r.hi ≤ 4) (h4 : r.ts ≠ []) : ∃ d, Rp H v d ∧ rowD d = true := by
  obtain ⟨a, t, rfl, q1, q2⟩ := h
  obtain ⟨dt, rt, lt, _, nt⟩ := q2.rp (flat_rps ht)
  have pos : 0 < lenD dt := by rw [nt, List.length_map]; exact List.length_pos_iff.mpr h4
  have e : rowD (.list [dV r.n, .int r.lo, .int r.hi, dt]) = true := by
    have e : rowD (.list [dV r.n, .int r.lo, .int r.hi, dt]) = (decide (1 ≤ r.lo) && (decide (r.lo ≤ r.hi) && (decide (r.hi ≤ 4) && (dL dt && decide (0 < lenD dt))))) := rfl
    rw [e, decide_eq_true h1, decide_eq_true h2, decide_eq_true h3, lt, decide_eq_true pos]
    rfl
  rcases q1 with q1 | q1
  · exact ⟨_, .lst q1 (.cons hn.rp (.cons (.int _) (.cons (.int _) (.cons rt .nil)))), e⟩
  · exact ⟨_, .tup q1 (.cons hn.rp (.cons (.int _) (.cons (.int _) (.cons rt .nil)))), e⟩
theorem RowsV.right {H : Hp} : ∀ {vs : List V} {rs : List FRow}, RowsV H vs rs → (∀ r ∈ rs, FlatSh r.n ∧ (∀ x ∈ r.ts, FlatSh x) ∧ 1 ≤ r.lo ∧ r.lo ≤ r.hi ∧ r.hi ≤ 4 ∧ r.ts ≠ []) → ∃ ds, Rps H vs ds ∧ ds.all rowD = true
  | _, _, .nil, _ => ⟨[], .nil, rfl⟩
  | _, _, .cons r rs, h => by
    obtain ⟨p1, p2, p3, p4, p5, p6⟩ := h _ List.mem_cons_self
    obtain ⟨d, rd, e⟩ := r.right p1 p2 p3 p4 p5 p6
    obtain ⟨ds, rds, es⟩ := RowsV.right rs fun x hx => h x (List.mem_cons_of_mem _ hx)
    exact ⟨d :: ds, .cons rd rds, by rw [List.all_cons, e, es]; rfl⟩
theorem DrawnOk.rowsR {s t l zs : List Str} {rs : List FRow} (D : DrawnOk s t l zs rs) : ∀ r ∈ rs, FlatSh r.n ∧ (∀ x ∈ r.ts, FlatSh x) ∧ 1 ≤ r.lo ∧ r.lo ≤ r.hi ∧ r.hi ≤ 4 ∧ r.ts ≠ [] := fun r hr => by
  obtain ⟨p1, p2, p3, p4, p5, p6, p7⟩ := D.row r hr
  exact ⟨D.flat _ (List.mem_cons_of_mem _ (List.mem_map.mpr ⟨r, hr, rfl⟩)), fun x hx => D.flat x (p6 x hx), p1, p2, p3, p4⟩
theorem DrawnOk.partsR {s t l zs : List Str} {rs : List FRow} (D : DrawnOk s t l zs rs) {ds : List PyData} (hl : ds.length = rs.length) (al : ds.all rowD = true) {d1 d2 d3 : PyData} (e1 : dL d1 = true) (l1 : lenD d1 = s.length) (e2 : dL d2 = true) (l2 : lenD d2 = t.length) (e3 : dL d3 = true) (l3 : lenD d3 = l.length) :
    partsErr d1 d2 d3 (.list ds) = none := by
  have g : goodP d1 d2 d3 (.list ds) 4 := by
    have := D.ls; have := D.lt; have := D.ll; have := D.lr
    refine ⟨fun _ => listD_of e1 (by omega) (by omega), fun _ => listD_of e2 (by omega) (by omega), fun _ => listD_of e3 (by omega) (by omega), fun _ => listD_of rfl ?_ ?_⟩
    · show (1 : Int) ≤ (ds.length : Int)
      omega
    · show (ds.length : Int) ≤ 6
      omega
  rw [g.all, if_neg]
  show ¬ ds.all rowD = false
  rw [al]
  exact Bool.noConfusion
def spOther (CS : Addr) : Sp := fun vs H Q _ => ∃ b l A s t la zs rs, vs = [.ref b, .ref A] ∧ BagL H b l ∧ A ≠ b ∧ Drawn H A s t la zs rs ∧
  ∀ x s' t' l' rs' H', Dr b l H H' → StkF H' CS x s' t' l' rs' → eqSt (s.map V.str) (t.map V.str) (la.map V.str) rs s' t' l' rs' = false → Q (.ref x) H'
/-- the heap without these three -/
def w3 (T F R : Addr) (G : Hp) : Hp := fun a => if a = T ∨ a = F ∨ a = R then none else G a
theorem w3_get {T F R a : Addr} {G : Hp} {u : HO} (e : G a = some u) (h1 : a ≠ T) (h2 : a ≠ F) (h3 : a ≠ R) : w3 T F R G a = some u := by
  unfold w3
  rw [if_neg (fun h => h.elim h1 fun h => h.elim h2 h3)]
  exact e
theorem w3_some {T F R a : Addr} {G : Hp} {u : HO} (e : w3 T F R G a = some u) : a ≠ T ∧ a ≠ F ∧ a ≠ R ∧ G a = some u := by
  unfold w3 at e
  by_cases h : a = T ∨ a = F ∨ a = R
  · rw [if_pos h] at e; cases e
  · rw [if_neg h] at e
    exact ⟨fun z => h (.inl z), fun z => h (.inr (.inl z)), fun z => h (.inr (.inr z)), e⟩
theorem w3_to {T F R T' F' R' : Addr} {G G' : Hp} (k : ∀ a u, a ≠ T → a ≠ F → a ≠ R → G a = some u → (∀ kvs, u ≠ .dK kvs) → (a ≠ T' ∧ a ≠ F' ∧ a ≠ R') ∧ G' a = some u) : Sq (w3 T F R G) (w3 T' F' R' G') := by
  refine ⟨fun a xs e => ?_, fun a xs e => ?_⟩
  · obtain ⟨h1, h2, h3, e⟩ := w3_some e
    obtain ⟨⟨n1, n2, n3⟩, e'⟩ := k a _ h1 h2 h3 e (by intro kvs h; cases h)
    exact w3_get e' n1 n2 n3
  · obtain ⟨h1, h2, h3, e⟩ := w3_some e
    obtain ⟨⟨n1, n2, n3⟩, e'⟩ := k a _ h1 h2 h3 e (by intro kvs h; cases h)
    exact w3_get e' n1 n2 n3
theorem w3_out {T F R : Addr} {G : Hp} : Sq (w3 T F R G) G := ⟨fun a xs e => (w3_some e).2.2.2, fun a xs e => (w3_some e).2.2.2⟩
/-- the lists of which the other stock will be made -/
structure OS (b l : Addr) (H G : Hp) (T F R c1 c2 c3 t0 : Addr) (s t la : List V) (n0 : V) (lo hi : Int) (ts qs : List V) (rs : List FRow) : Prop where
  dr : Dr b l H G
  hT : G T = some (.lst [.ref c1, .ref c2, .ref c3, .ref F])
  hF : G F = some (.lst (.ref R :: qs))
  hR : G R = some (.lst [n0, .int lo, .int hi, .ref t0])
  k1 : w3 T F R G c1 = some (.lst s)
  k2 : w3 T F R G c2 = some (.lst t)
  k3 : w3 T F R G c3 = some (.lst la)
  kt : w3 T F R G t0 = some (.lst ts)
  kq : RowsV (w3 T F R G) qs rs
  T0 : H T = none ∧ T ≠ b ∧ T ≠ l
  F0 : H F = none ∧ F ≠ b ∧ F ≠ l
  R0 : H R = none ∧ R ≠ b ∧ R ≠ l
  TF : T ≠ F
  TR : T ≠ R
  FR : F ≠ R
section
variable {b l : Addr} {H G G' : Hp} {T F R c1 c2 c3 t0 : Addr} {s t la : List V} {n0 : V} {lo hi : Int} {ts qs : List V} {rs : List FRow}
theorem OS.keep (o : OS b l H G T F R c1 c2 c3 t0 s t la n0 lo hi ts qs rs) (d : Dr b l H G') (k : Kd G G') : OS b l H G' T F R c1 c2 c3 t0 s t la n0 lo hi ts qs rs := by
  have nk : ∀ {xs : List V} (kvs : List (Key × V)), HO.lst xs ≠ .dK kvs := fun kvs h => by cases h
  have sq : Sq (w3 T F R G) (w3 T F R G') := w3_to fun a u h1 h2 h3 e n => ⟨⟨h1, h2, h3⟩, k a u e n⟩
  exact ⟨d, k _ _ o.hT nk, k _ _ o.hF nk, k _ _ o.hR nk, sq.2 _ _ o.k1, sq.2 _ _ o.k2, sq.2 _ _ o.k3, sq.2 _ _ o.kt, o.kq.sq sq, o.T0, o.F0, o.R0, o.TF, o.TR, o.FR⟩
end
/-- where the law stands, with what is so of the parts -/
def OX (b l A : Addr) (H : Hp) (n0 : V) (way : Int) (C : List Str → List Str → List Str → Int → Int → List V → List FRow → Prop) : L2.St → Hp → Prop := fun σ G =>
  ∃ T F R c1 c2 c3 t0 s' t' l' lo hi ts qs rs', σ = [some (.ref b), some (.ref A), some (.ref T), some (.int way), none, none] ∧ OS b l H G T F R c1 c2 c3 t0 (s'.map V.str) (t'.map V.str) (l'.map V.str) n0 lo hi ts qs rs' ∧ C s' t' l' lo hi ts rs'
section
variable {P : Program} {w : World} {K : PySem.W.Frag} {mg : Str → Option Value} {base : Heap}
theorem scOther : FnScope otN ["_law_bag_here", "_law_stock_here"] (defScope sOther) := ⟨rfl, rfl, rfl, by decide +kernel, rfl, by decide +kernel, by decide +kernel⟩
def rLstOf (K : PySem.W.Frag) : List V → Hp → VK → Prop := fun xs H Q => ∃ p ys, xs = [V.ref p] ∧ (SqL K H p ys ∨ SqT K H p ys) ∧ ∀ l, H l = none → Q (.ref l) (upd H l (.lst ys))
theorem call_lstOf {X : Cx} : CallR X (.type "list") (rLstOf X.K) := call_list_of
abbrev tT303 (K : PySem.W.Frag) : TE := tOp (rIxL K) (tOp (rIxL K) (tOp (rIxL K) (tVar 2) (tC (.int 3))) (tC (.int 0))) (tC (.int 3))
theorem ok_other {f fp fI CS CB CN CT CU : Addr} {fd fdp fdI : FuncData} (F : Fun K "_law_other" "_law_other" sOther f fd) (N : Nms mg) (DP : Df K mg "_law_pick" sPick ["_law_bag_here", "_law_many"] fp fdp) (GP : FnOk P w K mg base CX0 1 fp fdp ["_law_bag_here", "_law_many"] spPick)
    (MT : Mk K CS fI) (gS : mg "Stock" = some (.ref CS)) (bI : Binds K fdI ["self", "stuffs", "states", "lands", "forms"] []) (GI : FnOk P w K mg base (L2.CX P w) 6 fI fdI ["self", "stuffs", "states", "lands", "forms"] (spSInit CS CB CN CT CU)) :
    FnOk P w K mg base CX0 8 f fd ["_law_bag_here", "_law_stock_here"] (spOther CS) := by
  refine F.ok scOther (fun vs H Q E h => ?_) (fun cdv A0 outer s0 H vs Q E hr h => ?_)
  · obtain ⟨b, l, A, s, t, la, zs, rs, rfl, _⟩ := h
    rfl
  · obtain ⟨b, l, A, s, t, la, zs, rs, rfl, B, Ab, dw, k⟩ := h
    have nd := scOther.nd
    have hu := hu_of hr
    have r1 := hr.mono (show 1 ≤ 7 by decide)
    refine ⟨_, pss_cons (ps_set (i := 2) nd rfl (Or.inr rfl) (pe_lst (pa_cons (pe_callTy call_list_of (by rfl) N.list (by decide +kernel) (pa_cons (pe_dget hu (pv 1) pe_str (fun _ _ => rfl)) pa_nil)) (pa_cons (pe_callTy call_list_of (by rfl) N.list (by decide +kernel) (pa_cons (pe_dget hu (pv 1) pe_str (fun _ _ => rfl)) pa_nil))
          (pa_cons (pe_callTy call_list_of (by rfl) N.list (by decide +kernel) (pa_cons (pe_dget hu (pv 1) pe_str (fun _ _ => rfl)) pa_nil)) (pa_cons
            (pe_lc (own := [("_law_row", 4)]) (g := gName 4) (tt := tYes) (te := tCB (rLstOf K) (tCons (tVar 4) tNil)) rfl nd (pi_list (pe_dget hu (pv 1) pe_str (fun _ _ => rfl))) (blkOk_by (N := otN) (sc := defScope sOther) (by decide +kernel)) (fun _ _ _ _ _ => pg_name (i := 4) nd rfl (Or.inl rfl)) (fun _ _ _ _ _ => pts_nil)
              (fun _ _ _ _ _ => pe_callTy call_lstOf (by rfl) N.list (by decide +kernel) (pa_cons (pv 4) pa_nil))) pa_nil))))))
      (pss_cons (ps_set (i := 3) nd rfl (Or.inl rfl) (pe_call GP r1 rfl DP.g DP.F.kp DP.b .nil pass0 (pa_cons (pv 0) (pa_cons pe_int pa_nil))))
      (C8.pss_cut (ps_if (pt_cmpR op_lt (pv 3) pe_int (nomark _)) (pss_one (ps_asg (pe_op op_cat (pe_ix ix_list (pv 2) (pv 3) (fun _ _ => rfl)) (pe_lst (pa_cons pe_str pa_nil))) (pg_sub (pv 2) (pv 3) set_list))) pss_nil)
      (C8.pss_cut (ps_if (pt_cmpR op_eq (pv 3) pe_int (nomark _)) (pss_one (ps_asg
          (pe_lc (own := [("_law_root", 5)]) (g := gName 5) (tt := tTest (tOp (rIn K true) (tVar 5) (tT303 K))) (te := tVar 5) rfl nd (pi_list (pe_op op_cat (pe_lst (pa_cons pe_str pa_nil))
              (pe_lc (own := [("_law_row", 4)]) (g := gName 4) (tt := tYes) (te := tOp (rIx K) (tVar 4) (tC (.int 0))) rfl nd (pi_list (pe_ix ix_list (pv 2) pe_int (fun _ _ => rfl))) (blkOk_by (N := otN) (sc := defScope sOther) (by decide +kernel)) (fun _ _ _ _ _ => pg_name (i := 4) nd rfl (Or.inl rfl)) (fun _ _ _ _ _ => pts_nil)
                (fun _ _ _ _ _ => pe_ix ix_seq (pv 4) pe_int (fun _ _ => rfl)))))
            (blkOk_by (N := otN) (sc := defScope sOther) (by decide +kernel)) (fun _ _ _ _ _ => pg_name (i := 5) nd rfl (Or.inl rfl))
            (fun _ _ _ _ _ => pts_one (pt_cmpR op_notIn_seq (pv 5) (pe_ix ix_list (pe_ix ix_list (pe_ix ix_list (pv 2) pe_int (fun _ _ => rfl)) pe_int (fun _ _ => rfl)) pe_int (fun _ _ => rfl)) rfl)) (fun _ _ _ _ _ => pv 5))
          (pg_sub (pe_ix ix_list (pe_ix ix_list (pv 2) pe_int (fun _ _ => rfl)) pe_int (fun _ _ => rfl)) pe_int set_list))) pss_nil)
      (C8.pss_cut (ps_if (pt_cmpR op_eq (pv 3) pe_int (nomark _)) (pss_one (ps_asg (pe_op op_cat (pe_ix ix_list (pv 2) pe_int (fun _ _ => rfl)) (pe_lst (pa_cons (pe_lst (pa_cons pe_str (pa_cons pe_int (pa_cons pe_int (pa_cons (pe_lst (pa_cons pe_str pa_nil)) pa_nil))))) pa_nil))) (pg_sub (pv 2) pe_int set_list))) pss_nil)
      (C8.pss_cut (ps_if (pt_cmpR (op_eqD hr.units) (pe_ix ix_list (pe_ix ix_list (pe_ix ix_list (pv 2) pe_int (fun _ _ => rfl)) pe_int (fun _ _ => rfl)) pe_int (fun _ _ => rfl)) (pe_lst pa_nil) (nomark _))
          (pss_one (ps_asg (pe_lst (pa_cons (pe_ix ix_list (pe_ix ix_list (pe_ix ix_list (pv 2) pe_int (fun _ _ => rfl)) pe_int (fun _ _ => rfl)) pe_int (fun _ _ => rfl)) (pa_cons pe_int (pa_cons pe_int (pa_cons (pe_callTy call_list_of (by rfl) N.list (by decide +kernel) (pa_cons
              (pe_ix ix_tup (pe_ix ix_list (pe_dget hu (pv 1) pe_str (fun _ _ => rfl)) pe_int (fun _ _ => rfl)) pe_int (fun _ _ => rfl)) pa_nil)) pa_nil))))) (pg_sub (pe_ix ix_list (pv 2) pe_int (fun _ _ => rfl)) pe_int set_list))) pss_nil)
      (C8.pss_cut (ps_if (PW.pt (pw_and (pt_cmpR (op_eqD hr.units) (pe_slice sl_list (pe_ix ix_list (pe_ix ix_list (pv 2) pe_int (fun _ _ => rfl)) pe_int (fun _ _ => rfl)) (po_some pe_int) (po_some pe_int)) (pe_lst (pa_cons pe_int (pa_cons pe_int pa_nil))) (nomark _))
          (pw_and1 (pt_cmpR (op_eqD hr.units) (pe_slice sl_tup (pe_ix ix_list (pe_dget hu (pv 1) pe_str (fun _ _ => rfl)) pe_int (fun _ _ => rfl)) (po_some pe_int) (po_some pe_int)) (pe_tup (pa_cons pe_int (pa_cons pe_int pa_nil))) (nomark _)))))
          (pss_one (ps_asg pe_int (pg_sub (pe_ix ix_list (pe_ix ix_list (pv 2) pe_int (fun _ _ => rfl)) pe_int (fun _ _ => rfl)) pe_int set_list))) pss_nil)
      (pss_one (ps_ret (pe_makeS MT GI hr rfl gS bI (fun σ => passAt takes0 σ) (pa_cons (pe_ix ix_list (pv 2) pe_int (fun _ _ => rfl)) (pa_cons (pe_ix ix_list (pv 2) pe_int (fun _ _ => rfl)) (pa_cons (pe_ix ix_list (pv 2) pe_int (fun _ _ => rfl)) (pa_cons (pe_ix ix_list (pv 2) pe_int (fun _ _ => rfl)) pa_nil))))))))))))), ?_⟩
    obtain ⟨S1, S2, S3, Fa, S4, xs, shs, shd, hA, h1, h2, h3, hF, rows, h4, r4', good⟩ := dw.good
    have D := dw.ok
    have few := dw.few
    have short := dw.sh
    have new : ∀ {G : Hp} {p : Addr}, Dr b l H G → G p = none → H p = none ∧ p ≠ b ∧ p ≠ l := fun {G p} d e => by
      have nb := d.bag.ne_b e
      refine ⟨?_, nb, d.bag.ne_l e⟩
      cases q : H p with
      | none => rfl
      | some o => rw [d.but _ _ q nb] at e; cases e
    obtain ⟨r0, rs1, rfl⟩ : ∃ r0 rs1, rs = r0 :: rs1 := by
      cases rs with
      | nil => exact absurd D.lr.1 (by decide)
      | cons r0 rs1 => exact ⟨_, _, rfl⟩
    have hn0 : ∃ z0, r0.n = .str z0 := (good.f.elim fun _ h => h.elim fun _ h => by
      have : r0.n ∈ (r0 :: rs1).map FRow.n := List.mem_cons_self
      rw [D.nr] at this
      obtain ⟨z, _, e⟩ := List.mem_map.mp this
      exact ⟨z, e.symm⟩)
    have tsl := dw.tsl
    have rfew : (r0 :: rs1).length ≤ 5 := few.2.2.2
    have rlen : xs.length = (r0 :: rs1).length := rows.len
    -- the lists are made
    refine ⟨_, rfl, A, _, rfl, DGet.k (k := Sum.inr "stuffs") hA, S1, _, rfl, .inl (SqL.of h1), fun c1 n1 => ?_⟩
    have g1 := (Dr.refl B).put (o := .lst (s.map V.str)) (new (Dr.refl B) n1).1 (new (Dr.refl B) n1).2.1 (new (Dr.refl B) n1).2.2
    have s1 := same_new (o := .lst (s.map V.str)) (Same.rfl' (H := H)) n1
    have e1 : upd H c1 (.lst (s.map V.str)) c1 = some (.lst (s.map V.str)) := upd_same
    generalize upd H c1 (.lst (s.map V.str)) = G1 at g1 s1 e1 ⊢
    refine ⟨_, rfl, A, _, rfl, DGet.k (k := Sum.inr "states") (s1 _ _ hA), S2, _, rfl, .inl (SqL.of (s1 _ _ h2)), fun c2 n2 => ?_⟩
    have g2 := g1.put (o := .lst (t.map V.str)) (new g1 n2).1 (new g1 n2).2.1 (new g1 n2).2.2
    have s2' := same_new (o := .lst (t.map V.str)) (Same.rfl' (H := G1)) n2
    have s2 := s1.trans s2'
    have e2 : upd G1 c2 (.lst (t.map V.str)) c2 = some (.lst (t.map V.str)) := upd_same
    have e12 := s2' _ _ e1
    generalize upd G1 c2 (.lst (t.map V.str)) = G2 at g2 s2' s2 e2 e12 ⊢
    refine ⟨_, rfl, A, _, rfl, DGet.k (k := Sum.inr "lands") (s2 _ _ hA), S3, _, rfl, .inl (SqL.of (s2 _ _ h3)), fun c3 n3 => ?_⟩
    have g3 := g2.put (o := .lst (la.map V.str)) (new g2 n3).1 (new g2 n3).2.1 (new g2 n3).2.2
    have s3' := same_new (o := .lst (la.map V.str)) (Same.rfl' (H := G2)) n3
    have s3 := s2.trans s3'
    have e3 : upd G2 c3 (.lst (la.map V.str)) c3 = some (.lst (la.map V.str)) := upd_same
    have e13 := s3' _ _ e12
    have e23 := s3' _ _ e2
    generalize upd G2 c3 (.lst (la.map V.str)) = G3 at g3 s3' s3 e3 e13 e23 ⊢
    clear s2 s2' s3' s1 g1 g2 e12 e1 e2
    refine ⟨_, rfl, A, _, rfl, DGet.k (k := Sum.inr "forms") (s3 _ _ hA), Fa, rfl, ⟨_, SqL.of (s3 _ _ hF)⟩, fun F nF => ?_⟩
    refine lc_it (walk_list (K := K) (a := Fa) (xs := xs)) (fun i G => Same G3 G ∧ ((i = 0 ∧ G F = some (.lst [])) ∨ ∃ R t0 qs, 0 < i ∧ G F = some (.lst (.ref R :: qs)) ∧ R ≠ F ∧ G3 R = none ∧ G R = some (.lst [r0.n, .int r0.lo, .int r0.hi, .ref t0]) ∧ H t0 = some (.lst r0.ts) ∧ RowsV (w3 F F R G) qs (rs1.take (i - 1)) ∧ qs.length = i - 1))
      ⟨same_new Same.rfl' nF, .inl ⟨rfl, upd_same⟩⟩ (fun i G _ h => SqL.of (h.1 _ _ (s3 _ _ hF))) ?_ ?_
    · rintro i x G5 G4 hi ⟨s4, cs⟩ ⟨rfl, hx⟩
      obtain ⟨r, q, t0, hr', rfl, hq, ht⟩ := rows.nth hx
      have ix : i < 6 := by
        have hi' : i < xs.length := hi
        omega
      refine ⟨rfl, yesT ⟨_, rfl, q, _, rfl, .inr (SqT.of (s4 _ _ (s3 _ _ hq))), fun W nW => ?_⟩⟩
      have s5 := same_new (o := .lst [r.n, .int r.lo, .int r.hi, .ref t0]) (Same.rfl' (H := G4)) nW
      have s45 := s4.trans s5
      have hW : upd G4 W (.lst [r.n, .int r.lo, .int r.hi, .ref t0]) W = some (.lst [r.n, .int r.lo, .int r.hi, .ref t0]) := upd_same
      have W3 : G3 W = none := none_of s4 nW
      generalize upd G4 W (.lst [r.n, .int r.lo, .int r.hi, .ref t0]) = G5 at s5 s45 hW ⊢
      rcases cs with ⟨rfl, hF4⟩ | ⟨R, t00, qs, ip, hF4, RF, R3, hR, ht0, rv, lq⟩
      · cases hr'
        have WF : W ≠ F := Ne.symm (ne_of_none hF4 nW)
        refine ⟨_, s5 _ _ hF4, by decide, same_put s45 nF, .inr ⟨W, t0, [], by decide, upd_same, WF, W3, by rw [upd_ne WF]; exact hW, ht, .nil, rfl⟩⟩
      · have WF : W ≠ F := Ne.symm (ne_of_none hF4 nW)
        have WR : W ≠ R := Ne.symm (ne_of_none hR nW)
        refine ⟨_, s5 _ _ hF4, small1000 (by show qs.length + 1 ≤ 1000; omega), same_put s45 nF, .inr ⟨R, t00, qs ++ [.ref W], by omega, upd_same, RF, R3, by rw [upd_ne RF]; exact s5 _ _ hR, ht0, ?_, by rw [List.length_append, lq]; show i - 1 + 1 = i + 1 - 1; omega⟩⟩
        have sq : Sq (w3 F F R G4) (w3 F F R (upd G5 F (.lst (.ref R :: qs ++ [.ref W])))) := w3_to fun a u h1 h2 h3 e _ => ⟨⟨h1, h2, h3⟩, by rw [upd_ne h1]; exact s5 _ _ e⟩
        have tk : rs1.take (i + 1 - 1) = rs1.take (i - 1) ++ [r] := by
          obtain ⟨j, rfl⟩ : ∃ j, i = j + 1 := ⟨i - 1, by omega⟩
          have : rs1[j]? = some r := hr'
          show rs1.take (j + 1) = rs1.take j ++ [r]
          rw [List.take_add_one, this]
          rfl
        rw [tk]
        refine RowsV.snoc ⟨W, t0, rfl, .inl (w3_get ?_ WF WF WR), .inl (w3_get ?_ ?_ ?_ ?_)⟩ (rv.sq sq)
        · exact (upd_ne WF).trans hW
        · rw [upd_ne (fun e => by rw [e] at ht; rw [s3 _ _ ht] at nF; cases nF)]
          exact s45 _ _ (s3 _ _ ht)
        · exact fun e => by rw [e] at ht; rw [s3 _ _ ht] at nF; cases nF
        · exact fun e => by rw [e] at ht; rw [s3 _ _ ht] at nF; cases nF
        · exact fun e => by rw [e] at ht; rw [s3 _ _ ht] at R3; cases R3
    rintro G4 ⟨s4, cs⟩
    rcases cs with ⟨e, _⟩ | ⟨R, t0, qs, _, hF4, RF, R3, hR4, ht0, rv, lq⟩
    · exfalso
      have : xs.length = 0 := e
      rw [rlen] at this
      cases this
    have rv' : RowsV (w3 F F R G4) qs rs1 := by
      have e : rs1.take (xs.length - 1) = rs1 := by rw [rlen]; exact List.take_of_length_le (Nat.le_refl _)
      rw [e] at rv
      exact rv
    clear rv lq
    have e14 := s4 _ _ e13
    have e24 := s4 _ _ e23
    have e34 := s4 _ _ e3
    have ht04 := s4 _ _ (s3 _ _ ht0)
    have g4 : Dr b l H G4 := ⟨g3.bag.same s4, g3.but.trans (But.of s4)⟩
    have F0 := new g3 nF
    have R0 := new g3 R3
    refine ⟨by show 4 ≤ sizeLine; decide, fun T nT => ?_⟩
    have T0 := new g4 nT
    have g5 := g4.put (o := .lst [.ref c1, .ref c2, .ref c3, .ref F]) T0.1 T0.2.1 T0.2.2
    have s5 := same_new (o := .lst [.ref c1, .ref c2, .ref c3, .ref F]) (Same.rfl' (H := G4)) nT
    have TF : T ≠ F := Ne.symm (ne_of_none hF4 nT)
    have TR : T ≠ R := Ne.symm (ne_of_none hR4 nT)
    have nF' : ∀ {a : Addr} {u : HO}, G3 a = some u → a ≠ F ∧ a ≠ R := fun {a u} e => ⟨ne_of_none e nF, ne_of_none e R3⟩
    have nT' : ∀ {a : Addr} {u : HO}, G4 a = some u → a ≠ T := fun {a u} e => ne_of_none e nT
    have o0 : OS b l H (upd G4 T (.lst [.ref c1, .ref c2, .ref c3, .ref F])) T F R c1 c2 c3 t0 (s.map V.str) (t.map V.str) (la.map V.str) r0.n r0.lo r0.hi r0.ts qs rs1 := by
      refine ⟨g5, upd_same, s5 _ _ hF4, s5 _ _ hR4, w3_get (s5 _ _ e14) (nT' e14) (nF' e13).1 (nF' e13).2, w3_get (s5 _ _ e24) (nT' e24) (nF' e23).1 (nF' e23).2, w3_get (s5 _ _ e34) (nT' e34) (nF' e3).1 (nF' e3).2, w3_get (s5 _ _ ht04) (nT' ht04) (nF' (s3 _ _ ht0)).1 (nF' (s3 _ _ ht0)).2,
        rv'.sq (w3_to fun a u h1 h2 h3 e _ => ⟨⟨nT' e, h2, h3⟩, s5 _ _ e⟩), T0, F0, R0, TF, TR, Ne.symm RF⟩
    generalize upd G4 T (.lst [.ref c1, .ref c2, .ref c3, .ref F]) = G5 at o0 g5 s5 ⊢
    clear g5 s5 nT' nF' nT
    refine ⟨_, rfl, b, l, 5, rfl, by decide, by decide, o0.dr.bag, fun way G6 w0 w5 B6 t6 u6 => ?_⟩
    have o1 := o0.keep (o0.dr.trans ⟨B6, t6⟩) (Kd.but o0.dr.bag t6)
    clear o0 B6 t6 u6 hF4 hR4 R3 e14 e24 e34 ht04 g4 e13 e23 e3 s4 rv' nF F0 R0 T0 RF TF TR n1 n2 n3
    have noK : ∀ {xs : List V} (kvs : List (Key × V)), HO.lst xs ≠ .dK kvs := fun kvs h => by cases h
    -- the first: a list of names is longer
    refine ⟨OX b l A H r0.n way (fun s' t' l' lo hi ts rs' => C1 s t la way s' t' l' ∧ lo = r0.lo ∧ hi = r0.hi ∧ ts = r0.ts ∧ rs' = rs1), ?_, ?_⟩
    · refine ⟨_, rfl, _, _, rfl, rfl, _, rfl, ite2 (fun hc => ?_) (fun hc => ?_)⟩
      · have hw : way < 3 := of_decide_eq_true hc
        have hT := o1.hT
        obtain rfl | rfl | rfl : way = 0 ∨ way = 1 ∨ way = 2 := by omega
        · refine ⟨_, rfl, _, rfl, T, _, 0, _, rfl, rfl, SqL.of hT, rfl, by decide, fun M nM => ?_⟩
          have m := new o1.dr nM
          have g7 := o1.dr.put (o := .lst [.str z12]) m.1 m.2.1 m.2.2
          have s7 := same_new (o := .lst [.str z12]) (Same.rfl' (H := G6)) nM
          have o2 := o1.keep g7 (Kd.of s7)
          have hM : upd G6 M (.lst [.str z12]) M = some (.lst [.str z12]) := upd_same
          generalize upd G6 M (.lst [.str z12]) = G7 at g7 s7 o2 hM ⊢
          have lf : s.length ≤ 3 := few.1
          refine ⟨c1, M, _, _, rfl, rfl, (w3_some o2.k1).2.2.2, hM, Nat.le_of_lt (small1000 (by rw [List.length_map]; show s.length + 1 ≤ 1000; omega)), fun W nW => ?_⟩
          have m2 := new o2.dr nW
          have g8 := o2.dr.put (o := .lst (s.map V.str ++ [.str z12])) m2.1 m2.2.1 m2.2.2
          have s8 := same_new (o := .lst (s.map V.str ++ [.str z12])) (Same.rfl' (H := G7)) nW
          have o3 := o2.keep g8 (Kd.of s8)
          have hW : upd G7 W (.lst (s.map V.str ++ [.str z12])) W = some (.lst (s.map V.str ++ [.str z12])) := upd_same
          have WT : W ≠ T := Ne.symm (ne_of_none o2.hT nW)
          have WF : W ≠ F := Ne.symm (ne_of_none o2.hF nW)
          have WR : W ≠ R := Ne.symm (ne_of_none o2.hR nW)
          generalize upd G7 W (.lst (s.map V.str ++ [.str z12])) = G8 at g8 s8 o3 hW ⊢
          refine ⟨_, rfl, _, rfl, T, _, 0, 0, rfl, rfl, o3.hT, rfl, T, F, R, W, c2, c3, t0, s ++ [z12], t, la, r0.lo, r0.hi, r0.ts, qs, rs1, rfl, ?_, .inl ⟨rfl, rfl, rfl, rfl⟩, rfl, rfl, rfl, rfl⟩
          have sq : Sq (w3 T F R G8) (w3 T F R (upd G8 T (.lst [.ref W, .ref c2, .ref c3, .ref F]))) := w3_to fun a u h1 h2 h3 e _ => ⟨⟨h1, h2, h3⟩, by rw [upd_ne h1]; exact e⟩
          exact ⟨o3.dr.put o3.T0.1 o3.T0.2.1 o3.T0.2.2, upd_same, by rw [upd_ne (Ne.symm o3.TF)]; exact o3.hF, by rw [upd_ne (Ne.symm o3.TR)]; exact o3.hR, by rw [List.map_append]; exact w3_get ((upd_ne WT).trans hW) WT WF WR, sq.2 _ _ o3.k2, sq.2 _ _ o3.k3, sq.2 _ _ o3.kt, o3.kq.sq sq, o3.T0, o3.F0, o3.R0, o3.TF, o3.TR, o3.FR⟩
        · refine ⟨_, rfl, _, rfl, T, _, 1, _, rfl, rfl, SqL.of hT, rfl, by decide, fun M nM => ?_⟩
          have m := new o1.dr nM
          have g7 := o1.dr.put (o := .lst [.str z12]) m.1 m.2.1 m.2.2
          have s7 := same_new (o := .lst [.str z12]) (Same.rfl' (H := G6)) nM
          have o2 := o1.keep g7 (Kd.of s7)
          have hM : upd G6 M (.lst [.str z12]) M = some (.lst [.str z12]) := upd_same
          generalize upd G6 M (.lst [.str z12]) = G7 at g7 s7 o2 hM ⊢
          have lf : t.length ≤ 3 := few.2.1
          refine ⟨c2, M, _, _, rfl, rfl, (w3_some o2.k2).2.2.2, hM, Nat.le_of_lt (small1000 (by rw [List.length_map]; show t.length + 1 ≤ 1000; omega)), fun W nW => ?_⟩
          have m2 := new o2.dr nW
          have g8 := o2.dr.put (o := .lst (t.map V.str ++ [.str z12])) m2.1 m2.2.1 m2.2.2
          have s8 := same_new (o := .lst (t.map V.str ++ [.str z12])) (Same.rfl' (H := G7)) nW
          have o3 := o2.keep g8 (Kd.of s8)
          have hW : upd G7 W (.lst (t.map V.str ++ [.str z12])) W = some (.lst (t.map V.str ++ [.str z12])) := upd_same
          have WT : W ≠ T := Ne.symm (ne_of_none o2.hT nW)
          have WF : W ≠ F := Ne.symm (ne_of_none o2.hF nW)
          have WR : W ≠ R := Ne.symm (ne_of_none o2.hR nW)
          generalize upd G7 W (.lst (t.map V.str ++ [.str z12])) = G8 at g8 s8 o3 hW ⊢
          refine ⟨_, rfl, _, rfl, T, _, 1, 1, rfl, rfl, o3.hT, rfl, T, F, R, c1, W, c3, t0, s, t ++ [z12], la, r0.lo, r0.hi, r0.ts, qs, rs1, rfl, ?_, .inr (.inl ⟨rfl, rfl, rfl, rfl⟩), rfl, rfl, rfl, rfl⟩
          have sq : Sq (w3 T F R G8) (w3 T F R (upd G8 T (.lst [.ref c1, .ref W, .ref c3, .ref F]))) := w3_to fun a u h1 h2 h3 e _ => ⟨⟨h1, h2, h3⟩, by rw [upd_ne h1]; exact e⟩
          exact ⟨o3.dr.put o3.T0.1 o3.T0.2.1 o3.T0.2.2, upd_same, by rw [upd_ne (Ne.symm o3.TF)]; exact o3.hF, by rw [upd_ne (Ne.symm o3.TR)]; exact o3.hR, sq.2 _ _ o3.k1, by rw [List.map_append]; exact w3_get ((upd_ne WT).trans hW) WT WF WR, sq.2 _ _ o3.k3, sq.2 _ _ o3.kt, o3.kq.sq sq, o3.T0, o3.F0, o3.R0, o3.TF, o3.TR, o3.FR⟩
        · refine ⟨_, rfl, _, rfl, T, _, 2, _, rfl, rfl, SqL.of hT, rfl, by decide, fun M nM => ?_⟩
          have m := new o1.dr nM
          have g7 := o1.dr.put (o := .lst [.str z12]) m.1 m.2.1 m.2.2
          have s7 := same_new (o := .lst [.str z12]) (Same.rfl' (H := G6)) nM
          have o2 := o1.keep g7 (Kd.of s7)
          have hM : upd G6 M (.lst [.str z12]) M = some (.lst [.str z12]) := upd_same
          generalize upd G6 M (.lst [.str z12]) = G7 at g7 s7 o2 hM ⊢
          have lf : la.length ≤ 3 := few.2.2.1
          refine ⟨c3, M, _, _, rfl, rfl, (w3_some o2.k3).2.2.2, hM, Nat.le_of_lt (small1000 (by rw [List.length_map]; show la.length + 1 ≤ 1000; omega)), fun W nW => ?_⟩
          have m2 := new o2.dr nW
          have g8 := o2.dr.put (o := .lst (la.map V.str ++ [.str z12])) m2.1 m2.2.1 m2.2.2
          have s8 := same_new (o := .lst (la.map V.str ++ [.str z12])) (Same.rfl' (H := G7)) nW
          have o3 := o2.keep g8 (Kd.of s8)
          have hW : upd G7 W (.lst (la.map V.str ++ [.str z12])) W = some (.lst (la.map V.str ++ [.str z12])) := upd_same
          have WT : W ≠ T := Ne.symm (ne_of_none o2.hT nW)
          have WF : W ≠ F := Ne.symm (ne_of_none o2.hF nW)
          have WR : W ≠ R := Ne.symm (ne_of_none o2.hR nW)
          generalize upd G7 W (.lst (la.map V.str ++ [.str z12])) = G8 at g8 s8 o3 hW ⊢
          refine ⟨_, rfl, _, rfl, T, _, 2, 2, rfl, rfl, o3.hT, rfl, T, F, R, c1, c2, W, t0, s, t, la ++ [z12], r0.lo, r0.hi, r0.ts, qs, rs1, rfl, ?_, .inr (.inr (.inl ⟨rfl, rfl, rfl, rfl⟩)), rfl, rfl, rfl, rfl⟩
          have sq : Sq (w3 T F R G8) (w3 T F R (upd G8 T (.lst [.ref c1, .ref c2, .ref W, .ref F]))) := w3_to fun a u h1 h2 h3 e _ => ⟨⟨h1, h2, h3⟩, by rw [upd_ne h1]; exact e⟩
          exact ⟨o3.dr.put o3.T0.1 o3.T0.2.1 o3.T0.2.2, upd_same, by rw [upd_ne (Ne.symm o3.TF)]; exact o3.hF, by rw [upd_ne (Ne.symm o3.TR)]; exact o3.hR, sq.2 _ _ o3.k1, sq.2 _ _ o3.k2, by rw [List.map_append]; exact w3_get ((upd_ne WT).trans hW) WT WF WR, sq.2 _ _ o3.kt, o3.kq.sq sq, o3.T0, o3.F0, o3.R0, o3.TF, o3.TR, o3.FR⟩
      · have hw : ¬ way < 3 := fun h => hc (decide_eq_true h)
        exact ⟨T, F, R, c1, c2, c3, t0, s, t, la, r0.lo, r0.hi, r0.ts, qs, rs1, rfl, o1, .inr (.inr (.inr ⟨by omega, rfl, rfl, rfl⟩)), rfl, rfl, rfl, rfl⟩
    clear o1 T F R c1 c2 c3 t0 qs G6 ht0
    rintro σ1 G1 ⟨T, F, R, c1, c2, c3, t0, s', t', l', lo, hi, ts, qs, rs', rfl, o, hC1, rfl, rfl, rfl, ers⟩
    have ers' := ers.symm
    subst ers'
    have rootF : ∀ x ∈ rootsOf (r0 :: rs1), FlatSh x := fun x hx => D.flat x hx
    have tsF0 : ∀ x ∈ r0.ts, FlatSh x := fun x hx => D.flat x ((D.row r0 List.mem_cons_self).2.2.2.2.2.1 x hx)
    -- the second: what the first form takes is turned about
    refine ⟨OX b l A H r0.n way (fun s' t' l' lo hi ts rs' => C1 s t la way s' t' l' ∧ lo = r0.lo ∧ hi = r0.hi ∧ C2 r0 rs1 way ts ∧ rs' = rs1), ?_, ?_⟩
    · refine ⟨_, rfl, rfl, _, rfl, ifI (fun e => ?_) (fun ne => ⟨T, F, R, c1, c2, c3, t0, s', t', l', _, _, _, qs, _, rfl, o, hC1, rfl, rfl, .inr ⟨ne, rfl⟩, rfl⟩)⟩
      refine ⟨by decide, fun M nM => ?_⟩
      have m := new o.dr nM
      have g7 := o.dr.put (o := .lst [.str "mix"]) m.1 m.2.1 m.2.2
      have s7 := same_new (o := .lst [.str "mix"]) (Same.rfl' (H := G1)) nM
      have o2 := o.keep g7 (Kd.of s7)
      have hM : upd G1 M (.lst [.str "mix"]) M = some (.lst [.str "mix"]) := upd_same
      generalize upd G1 M (.lst [.str "mix"]) = G7 at g7 s7 o2 hM ⊢
      clear o g7 s7 nM m
      refine ⟨_, rfl, T, _, 3, _, rfl, rfl, SqL.of o2.hT, rfl, F, rfl, ⟨_, SqL.of o2.hF⟩, fun D1 nD => ?_⟩
      have rv7 : RowsV G7 (.ref R :: qs) (r0 :: rs1) := .cons ⟨R, t0, rfl, .inl o2.hR, .inl (w3_some o2.kt).2.2.2⟩ (o2.kq.sq w3_out)
      have lq : (V.ref R :: qs).length = (r0 :: rs1).length := rv7.len
      refine lc_it (walk_list (K := K) (a := F) (xs := .ref R :: qs)) (fun i G => Same G7 G ∧ G D1 = some (.lst (((r0 :: rs1).map FRow.n).take i))) ⟨same_new Same.rfl' nD, upd_same⟩ (fun i G _ h => SqL.of (h.1 _ _ o2.hF)) ?_ ?_
      · rintro i x G9 G8 hi ⟨s8, hD⟩ ⟨rfl, hx⟩
        obtain ⟨r, hr', a, ta, rfl, sa, _⟩ := rv7.nth hx
        have hi6 : i < 6 := by
          have : i < (V.ref R :: qs).length := hi
          omega
        refine ⟨rfl, yesT ⟨_, rfl, (sa.same s8).ix rfl ⟨_, hD, small1000 (by rw [List.length_take]; omega), same_put s8 nD, ?_⟩⟩⟩
        rw [upd_same, List.take_add_one, List.getElem?_map, hr']
        rfl
      rintro G8 ⟨s8, hD⟩
      have hD' : G8 D1 = some (.lst ((r0 :: rs1).map FRow.n)) := by
        rw [hD]
        congr 2
        exact List.take_of_length_le (by rw [List.length_map, ← lq]; exact Nat.le_refl _)
      have o3 := o2.keep ⟨o2.dr.bag.same s8, o2.dr.but.trans (But.of s8)⟩ (Kd.of s8)
      have hM8 := s8 _ _ hM
      clear o2 hD rv7 s8 nD hM
      refine ⟨M, D1, _, _, rfl, rfl, hM8, hD', Nat.le_of_lt (small1000 (by rw [List.length_map]; show 1 + (r0 :: rs1).length ≤ 1000; omega)), fun W nW => ?_⟩
      have m2 := new o3.dr nW
      have g9 := o3.dr.put (o := .lst ([V.str "mix"] ++ (r0 :: rs1).map FRow.n)) m2.1 m2.2.1 m2.2.2
      have s9 := same_new (o := .lst ([V.str "mix"] ++ (r0 :: rs1).map FRow.n)) (Same.rfl' (H := G8)) nW
      have o4 := o3.keep g9 (Kd.of s9)
      have hW : upd G8 W (.lst ([V.str "mix"] ++ (r0 :: rs1).map FRow.n)) W = some (.lst (rootsOf (r0 :: rs1))) := upd_same
      generalize upd G8 W (.lst ([V.str "mix"] ++ (r0 :: rs1).map FRow.n)) = G9 at g9 s9 o4 hW ⊢
      clear g9 s9 o3 hM8 hD' nW m2
      have fl0 : r0.ts.all flatV = true := List.all_eq_true.mpr fun y hy => (tsF0 y hy).flat
      have lroots : (rootsOf (r0 :: rs1)).length ≤ 6 := by show ((r0 :: rs1).map FRow.n).length + 1 ≤ 6; rw [List.length_map]; omega
      refine ⟨W, rfl, ⟨_, SqL.of hW⟩, fun D2 nD2 => ?_⟩
      refine lc_it (walk_list (K := K) (a := W) (xs := rootsOf (r0 :: rs1))) (fun i G => Same G9 G ∧ G D2 = some (.lst (((rootsOf (r0 :: rs1)).take i).filter fun x => !inV x r0.ts))) ⟨same_new Same.rfl' nD2, upd_same⟩ (fun i G _ h => SqL.of (h.1 _ _ hW)) ?_ ?_
      · rintro i x Gb Ga hi ⟨sa, hD2⟩ ⟨rfl, hx⟩
        have hx' : (rootsOf (r0 :: rs1))[i]? = some x := hx
        have oa := o4.keep ⟨o4.dr.bag.same sa, o4.dr.but.trans (But.of sa)⟩ (Kd.of sa)
        have tk : (rootsOf (r0 :: rs1)).take (i + 1) = (rootsOf (r0 :: rs1)).take i ++ [x] := by rw [List.take_add_one, hx']; rfl
        have lf : (((rootsOf (r0 :: rs1)).take i).filter fun x => !inV x r0.ts).length ≤ 6 := by
          have h1 := List.length_filter_le (fun x => !inV x r0.ts) ((rootsOf (r0 :: rs1)).take i)
          rw [List.length_take] at h1
          omega
        refine ⟨rfl, _, rfl, _, rfl, T, _, 3, _, rfl, rfl, SqL.of oa.hT, rfl, F, _, 0, _, rfl, rfl, SqL.of oa.hF, at0, R, _, 3, _, rfl, rfl, SqL.of oa.hR, rfl, t0, _, rfl, .inl (SqL.of (w3_some oa.kt).2.2.2), (rootF x (List.mem_of_getElem? hx')).flat, fl0, _, rfl, ?_⟩
        show if (!inV x r0.ts) = true then _ else _
        cases q : inV x r0.ts with
        | true =>
          refine iteF ⟨sa, ?_⟩
          rw [hD2, tk, List.filter_append, List.filter_cons, q]
          simp
        | false =>
          refine iteT ⟨_, rfl, _, hD2, small1000 (by omega), same_put sa nD2, ?_⟩
          rw [upd_same, tk, List.filter_append, List.filter_cons, q]
          rfl
      rintro Ga ⟨sa, hD2⟩
      have hD2' : Ga D2 = some (.lst (compR (r0 :: rs1) r0.ts)) := by
        rw [hD2]
        congr 2
        exact congrArg (List.filter fun x => !inV x r0.ts) (List.take_of_length_le (Nat.le_refl _))
      have oa := o4.keep ⟨o4.dr.bag.same sa, o4.dr.but.trans (But.of sa)⟩ (Kd.of sa)
      have DT : D2 ≠ T := Ne.symm (ne_of_none o4.hT nD2)
      have DF : D2 ≠ F := Ne.symm (ne_of_none o4.hF nD2)
      have DR : D2 ≠ R := Ne.symm (ne_of_none o4.hR nD2)
      refine ⟨_, rfl, T, _, 3, _, rfl, rfl, SqL.of oa.hT, rfl, F, _, 0, _, rfl, rfl, SqL.of oa.hF, at0, R, _, 3, 3, rfl, rfl, oa.hR, rfl, T, F, R, c1, c2, c3, D2, s', t', l', r0.lo, r0.hi, compR (r0 :: rs1) r0.ts, qs, rs1, rfl, ?_, hC1, rfl, rfl, .inl ⟨e, rfl⟩, rfl⟩
      have sq : Sq (w3 T F R Ga) (w3 T F R (upd Ga R (.lst [r0.n, .int r0.lo, .int r0.hi, .ref D2]))) := w3_to fun a u h1 h2 h3 e _ => ⟨⟨h1, h2, h3⟩, by rw [upd_ne h3]; exact e⟩
      exact ⟨oa.dr.put oa.R0.1 oa.R0.2.1 oa.R0.2.2, by rw [upd_ne oa.TR]; exact oa.hT, by rw [upd_ne oa.FR]; exact oa.hF, upd_same, sq.2 _ _ oa.k1, sq.2 _ _ oa.k2, sq.2 _ _ oa.k3, w3_get ((upd_ne DR).trans hD2') DT DF DR, oa.kq.sq sq, oa.T0, oa.F0, oa.R0, oa.TF, oa.TR, oa.FR⟩
    clear o hC1 T F R c1 c2 c3 t0 s' t' l' qs G1 ers
    rintro σ1 G1 ⟨T, F, R, c1, c2, c3, t0, s', t', l', lo, hi, ts, qs, rs', rfl, o, hC1, rfl, rfl, hC2, ers⟩
    have ers' := ers.symm
    subst ers'
    have ltr : rs1.length + 1 ≤ 5 := rfew
    -- the third: one more form
    refine ⟨OX b l A H r0.n way (fun s' t' l' lo hi ts rs' => C1 s t la way s' t' l' ∧ lo = r0.lo ∧ hi = r0.hi ∧ C2 r0 rs1 way ts ∧ C3 rs1 way rs'), ?_, ?_⟩
    · refine ⟨_, rfl, rfl, _, rfl, ifI (fun e => ?_) (fun ne => ⟨T, F, R, c1, c2, c3, t0, s', t', l', _, _, _, qs, _, rfl, o, hC1, rfl, rfl, hC2, .inr ⟨ne, rfl⟩⟩)⟩
      refine ⟨_, rfl, T, _, 3, _, rfl, rfl, SqL.of o.hT, rfl, by decide, fun M1 n1 => ?_⟩
      have m1 := new o.dr n1
      have s2 := same_new (o := .lst [.str "mix"]) (Same.rfl' (H := G1)) n1
      have o2 := o.keep (o.dr.put (o := .lst [.str "mix"]) m1.1 m1.2.1 m1.2.2) (Kd.of s2)
      have hM1 : upd G1 M1 (.lst [.str "mix"]) M1 = some (.lst [.str "mix"]) := upd_same
      have M1n := And.intro (Ne.symm (ne_of_none o.hT n1)) (And.intro (Ne.symm (ne_of_none o.hF n1)) (Ne.symm (ne_of_none o.hR n1)))
      generalize upd G1 M1 (.lst [.str "mix"]) = G2 at s2 o2 hM1 ⊢
      refine ⟨by show 4 ≤ sizeLine; decide, fun M2 n2 => ?_⟩
      have m2 := new o2.dr n2
      have s3 := same_new (o := .lst [.str z12, .int 1, .int 1, .ref M1]) (Same.rfl' (H := G2)) n2
      have o3 := o2.keep (o2.dr.put (o := .lst [.str z12, .int 1, .int 1, .ref M1]) m2.1 m2.2.1 m2.2.2) (Kd.of s3)
      have hM2 : upd G2 M2 (.lst [.str z12, .int 1, .int 1, .ref M1]) M2 = some (.lst [.str z12, .int 1, .int 1, .ref M1]) := upd_same
      have M2n := And.intro (Ne.symm (ne_of_none o2.hT n2)) (And.intro (Ne.symm (ne_of_none o2.hF n2)) (Ne.symm (ne_of_none o2.hR n2)))
      have hM13 := s3 _ _ hM1
      generalize upd G2 M2 (.lst [.str z12, .int 1, .int 1, .ref M1]) = G3 at s3 o3 hM2 hM13 ⊢
      refine ⟨by show 1 ≤ sizeLine; decide, fun M3 n3 => ?_⟩
      have m3 := new o3.dr n3
      have s4 := same_new (o := .lst [.ref M2]) (Same.rfl' (H := G3)) n3
      have o4 := o3.keep (o3.dr.put (o := .lst [.ref M2]) m3.1 m3.2.1 m3.2.2) (Kd.of s4)
      have hM3 : upd G3 M3 (.lst [.ref M2]) M3 = some (.lst [.ref M2]) := upd_same
      have hM14 := s4 _ _ hM13
      have hM24 := s4 _ _ hM2
      generalize upd G3 M3 (.lst [.ref M2]) = G4 at s4 o4 hM3 hM14 hM24 ⊢
      have lq := o4.kq.len
      refine ⟨F, M3, _, _, rfl, rfl, o4.hF, hM3, Nat.le_of_lt (small1000 (by show qs.length + 1 + 1 ≤ 1000; omega)), fun W nW => ?_⟩
      have mw := new o4.dr nW
      have s5 := same_new (o := .lst (.ref R :: qs ++ [.ref M2])) (Same.rfl' (H := G4)) nW
      have o5 := o4.keep (o4.dr.put (o := .lst (.ref R :: qs ++ [.ref M2])) mw.1 mw.2.1 mw.2.2) (Kd.of s5)
      have hW : upd G4 W (.lst (.ref R :: qs ++ [.ref M2])) W = some (.lst (.ref R :: qs ++ [.ref M2])) := upd_same
      have WT : W ≠ T := Ne.symm (ne_of_none o4.hT nW)
      have WR : W ≠ R := Ne.symm (ne_of_none o4.hR nW)
      have notW : ∀ {a : Addr} {u : HO}, G4 a = some u → a ≠ W := fun {a u} e => ne_of_none e nW
      have hM15 := s5 _ _ hM14
      have hM25 := s5 _ _ hM24
      have sq : Sq (w3 T F R G4) (w3 T W R (upd (upd G4 W (.lst (.ref R :: qs ++ [.ref M2]))) T (.lst [.ref c1, .ref c2, .ref c3, .ref W]))) := w3_to fun a u h1 h2 h3 e _ => ⟨⟨h1, notW e, h3⟩, by rw [upd_ne h1]; exact s5 _ _ e⟩
      generalize upd G4 W (.lst (.ref R :: qs ++ [.ref M2])) = G5 at s5 o5 hW hM15 hM25 sq ⊢
      refine ⟨_, rfl, T, _, 3, 3, rfl, rfl, o5.hT, rfl, T, W, R, c1, c2, c3, t0, s', t', l', r0.lo, r0.hi, ts, qs ++ [.ref M2], rs1 ++ [zRow], rfl, ?_, hC1, rfl, rfl, hC2, .inl ⟨e, rfl⟩⟩
      refine ⟨o5.dr.put o5.T0.1 o5.T0.2.1 o5.T0.2.2, upd_same, by rw [upd_ne WT]; exact hW, by rw [upd_ne (Ne.symm o5.TR)]; exact o5.hR, sq.2 _ _ o4.k1, sq.2 _ _ o4.k2, sq.2 _ _ o4.k3, sq.2 _ _ o4.kt, RowsV.snoc ⟨M2, M1, rfl, .inl (w3_get ((upd_ne M2n.1).trans hM25) M2n.1 (notW hM24) M2n.2.2), .inl (w3_get ((upd_ne M1n.1).trans hM15) M1n.1 (notW hM14) M1n.2.2)⟩ (o4.kq.sq sq), o5.T0, mw, o5.R0, Ne.symm WT, o5.TR, WR⟩
    clear o hC1 T F R c1 c2 c3 t0 s' t' l' qs G1 hC2 ts ers
    rintro σ1 G1 ⟨T, F, R, c1, c2, c3, t0, s', t', l', lo, hi, ts, qs, rs', rfl, o, hC1, rfl, rfl, hC2, hC3⟩
    have tsF : ∀ x ∈ ts, FlatSh x := fun x hx => by
      rcases hC2 with ⟨_, e⟩ | ⟨_, e⟩
      · rw [e] at hx
        exact rootF x (List.mem_filter.mp hx).1
      · rw [e] at hx
        exact tsF0 x hx
    have ne0 : r0.ts ≠ [] := (D.row r0 List.mem_cons_self).2.2.2.1
    obtain ⟨q0, x1, t00, hx0, hq0, ht00⟩ : ∃ q0 x1 t00, xs = .ref q0 :: x1 ∧ H q0 = some (.tup [r0.n, .int r0.lo, .int r0.hi, .ref t00]) ∧ H t00 = some (.lst r0.ts) := by
      cases rows with
      | cons a1 a2 a3 => exact ⟨_, _, _, rfl, a1, a2⟩
    -- the fourth: a form that takes nothing
    refine ⟨OX b l A H r0.n way (fun s' t' l' lo hi ts rs' => C1 s t la way s' t' l' ∧ C4 r0 rs1 way lo hi ts ∧ C3 rs1 way rs'), ?_, ?_⟩
    · refine ⟨_, rfl, T, _, 3, _, rfl, rfl, SqL.of o.hT, rfl, F, _, 0, _, rfl, rfl, SqL.of o.hF, at0, R, _, 3, _, rfl, rfl, SqL.of o.hR, rfl, by decide, fun E nE => ?_⟩
      have m1 := new o.dr nE
      have s2 := same_new (o := .lst []) (Same.rfl' (H := G1)) nE
      have o2 := o.keep (o.dr.put (o := .lst []) m1.1 m1.2.1 m1.2.2) (Kd.of s2)
      have hE : upd G1 E (.lst []) E = some (.lst []) := upd_same
      generalize upd G1 E (.lst []) = G2 at s2 o2 hE ⊢
      refine ⟨.list (ts.map dV), .list [], .lst (SqL.of (w3_some o2.kt).2.2.2) (flat_dp tsF), .lst (SqL.of hE) .nil, lst_shaped tsF, rfl, _, rfl, ?_⟩
      rw [eqv_nil]
      by_cases ht : ts = []
      · rw [decide_eq_true ht]
        have hw : way = 3 := by
          rcases hC2 with ⟨w, _⟩ | ⟨_, e⟩
          · exact w
          · exact absurd (e.symm.trans ht) ne0
        have hA2 := o2.dr.but _ _ hA Ab
        have sqH := o2.dr.sq B
        have hF2 := sqH.2 _ _ hF
        rw [hx0] at hF2
        refine iteT ⟨_, rfl, T, _, 3, _, rfl, rfl, SqL.of o2.hT, rfl, F, _, 0, _, rfl, rfl, SqL.of o2.hF, at0, R, _, 0, _, rfl, rfl, SqL.of o2.hR, rfl, ?_⟩
        refine ⟨_, rfl, A, _, rfl, DGet.k (k := Sum.inr "forms") hA2, Fa, _, 0, _, rfl, rfl, SqL.of hF2, at0, q0, _, 3, _, rfl, rfl, SqT.of (sqH.1 _ _ hq0), rfl, t00, _, rfl, .inl (SqL.of (sqH.2 _ _ ht00)), fun W nW => ?_⟩
        have mw := new o2.dr nW
        have s3 := same_new (o := .lst r0.ts) (Same.rfl' (H := G2)) nW
        have o3 := o2.keep (o2.dr.put (o := .lst r0.ts) mw.1 mw.2.1 mw.2.2) (Kd.of s3)
        have hW : upd G2 W (.lst r0.ts) W = some (.lst r0.ts) := upd_same
        have WT : W ≠ T := Ne.symm (ne_of_none o2.hT nW)
        have WF : W ≠ F := Ne.symm (ne_of_none o2.hF nW)
        generalize upd G2 W (.lst r0.ts) = G3 at s3 o3 hW ⊢
        refine ⟨by show 4 ≤ sizeLine; decide, fun R' nR => ?_⟩
        have mr := new o3.dr nR
        have s4 := same_new (o := .lst [r0.n, .int 4, .int 4, .ref W]) (Same.rfl' (H := G3)) nR
        have o4 := o3.keep (o3.dr.put (o := .lst [r0.n, .int 4, .int 4, .ref W]) mr.1 mr.2.1 mr.2.2) (Kd.of s4)
        have hR' : upd G3 R' (.lst [r0.n, .int 4, .int 4, .ref W]) R' = some (.lst [r0.n, .int 4, .int 4, .ref W]) := upd_same
        have RT : R' ≠ T := Ne.symm (ne_of_none o3.hT nR)
        have RF : R' ≠ F := Ne.symm (ne_of_none o3.hF nR)
        have notR : ∀ {a : Addr} {u : HO}, G3 a = some u → a ≠ R' := fun {a u} e => ne_of_none e nR
        have hW4 := s4 _ _ hW
        have sq : Sq (w3 T F R G3) (w3 T F R' (upd (upd G3 R' (.lst [r0.n, .int 4, .int 4, .ref W])) F (.lst (.ref R' :: qs)))) := w3_to fun a u h1 h2 h3 e _ => ⟨⟨h1, h2, notR e⟩, by rw [upd_ne h2]; exact s4 _ _ e⟩
        generalize upd G3 R' (.lst [r0.n, .int 4, .int 4, .ref W]) = G4 at s4 o4 hR' hW4 sq ⊢
        refine ⟨_, rfl, T, _, 3, _, rfl, rfl, SqL.of o4.hT, rfl, F, _, 0, 0, rfl, rfl, o4.hF, (by unfold ixN; rw [if_pos (by decide), if_pos (by show (0 : Int) < ((qs.length + 1 : Nat) : Int); omega)]; rfl), ?_⟩
        refine ⟨T, F, R', c1, c2, c3, W, s', t', l', 4, 4, r0.ts, qs, rs', rfl, ?_, hC1, .inl ⟨hw, rfl, rfl, rfl⟩, hC3⟩
        exact ⟨o4.dr.put o4.F0.1 o4.F0.2.1 o4.F0.2.2, by rw [upd_ne o4.TF]; exact o4.hT, upd_same, by rw [upd_ne RF]; exact hR', sq.2 _ _ o3.k1, sq.2 _ _ o3.k2, sq.2 _ _ o3.k3, w3_get ((upd_ne WF).trans hW4) WT WF (notR hW), o3.kq.sq sq, o4.T0, o4.F0, mr, o4.TF, Ne.symm RT, Ne.symm RF⟩
      · rw [decide_eq_false ht]
        exact iteF ⟨T, F, R, c1, c2, c3, t0, s', t', l', _, _, ts, qs, rs', rfl, o2, hC1, .inr ⟨rfl, rfl, ht, hC2⟩, hC3⟩
    clear o hC1 T F R c1 c2 c3 t0 s' t' l' qs G1 hC2 ts hC3 rs' tsF
    rintro σ1 G1 ⟨T, F, R, c1, c2, c3, t0, s', t', l', lo, hi, ts, qs, rs', rfl, o, hC1, hC4, hC3⟩
    -- the fifth: where nothing has changed, one count does
    refine ⟨OX b l A H r0.n way (fun s' t' l' lo hi ts rs' => C1 s t la way s' t' l' ∧ C5 r0 rs1 way lo hi ts ∧ C3 rs1 way rs'), ?_, ?_⟩
    · have c13 : cutV [r0.n, .int lo, .int hi, .ref t0] (some 1) (some 3) = [.int lo, .int hi] := cutV_mid (m := 1) (n := 3) (by show 3 ≤ 4; decide) (by decide)
      have c13' : cutV [r0.n, .int r0.lo, .int r0.hi, .ref t00] (some 1) (some 3) = [.int r0.lo, .int r0.hi] := cutV_mid (m := 1) (n := 3) (by show 3 ≤ 4; decide) (by decide)
      have two : ∀ {a c : Int}, PyData.eqv (.list [.int a, .int c]) (.list [.int 4, .int 4]) = ((a == 4) && ((c == 4) && true)) := fun {a c} => by simp only [PyData.eqv, PyData.eqvAll]
      have two' : ∀ {a c : Int}, PyData.eqv (.tuple [.int a, .int c]) (.tuple [.int 4, .int 4]) = ((a == 4) && ((c == 4) && true)) := fun {a c} => by simp only [PyData.eqv, PyData.eqvAll]
      refine ⟨_, rfl, T, _, 3, _, rfl, rfl, SqL.of o.hT, rfl, F, _, 0, _, rfl, rfl, SqL.of o.hF, at0, _, rfl, _, rfl, R, _, rfl, SqL.of o.hR, fun Y nY => ?_⟩
      rw [c13]
      have m1 := new o.dr nY
      have s2 := same_new (o := .lst [.int lo, .int hi]) (Same.rfl' (H := G1)) nY
      have o2 := o.keep (o.dr.put (o := .lst [.int lo, .int hi]) m1.1 m1.2.1 m1.2.2) (Kd.of s2)
      have hY : upd G1 Y (.lst [.int lo, .int hi]) Y = some (.lst [.int lo, .int hi]) := upd_same
      generalize upd G1 Y (.lst [.int lo, .int hi]) = G2 at s2 o2 hY ⊢
      refine ⟨by decide, fun Z nZ => ?_⟩
      have m2 := new o2.dr nZ
      have s3 := same_new (o := .lst [.int 4, .int 4]) (Same.rfl' (H := G2)) nZ
      have o3 := o2.keep (o2.dr.put (o := .lst [.int 4, .int 4]) m2.1 m2.2.1 m2.2.2) (Kd.of s3)
      have hZ : upd G2 Z (.lst [.int 4, .int 4]) Z = some (.lst [.int 4, .int 4]) := upd_same
      have hY3 := s3 _ _ hY
      generalize upd G2 Z (.lst [.int 4, .int 4]) = G3 at s3 o3 hZ hY3 ⊢
      refine ⟨.list [.int lo, .int hi], .list [.int 4, .int 4], .lst (SqL.of hY3) (.cons (.int _) (.cons (.int _) .nil)), .lst (SqL.of hZ) (.cons (.int _) (.cons (.int _) .nil)), ?_, by decide +kernel, _, rfl, ?_⟩
      · exact intl_shaped [lo, hi]
      rw [two]
      by_cases h1 : lo = 4 ∧ hi = 4
      · have e1 : ((lo == 4) && ((hi == 4) && true)) = true := by rw [h1.1, h1.2]; rfl
        rw [e1]
        have hA2 := o3.dr.but _ _ hA Ab
        have sqH := o3.dr.sq B
        have hF2 := sqH.2 _ _ hF
        rw [hx0] at hF2
        refine iteT ⟨_, rfl, A, _, rfl, DGet.k (k := Sum.inr "forms") hA2, Fa, _, 0, _, rfl, rfl, SqL.of hF2, at0, _, rfl, _, rfl, q0, _, rfl, SqT.of (sqH.1 _ _ hq0), (by rintro ⟨h, _⟩; exact absurd h (by show ¬ HT.sIx 4 0 (some 1) = 0; decide)), fun Y2 nY2 => ?_⟩
        rw [c13']
        have m3 := new o3.dr nY2
        have s4 := same_new (o := .tup [.int r0.lo, .int r0.hi]) (Same.rfl' (H := G3)) nY2
        have o4 := o3.keep (o3.dr.put (o := .tup [.int r0.lo, .int r0.hi]) m3.1 m3.2.1 m3.2.2) (Kd.of s4)
        have hY2 : upd G3 Y2 (.tup [.int r0.lo, .int r0.hi]) Y2 = some (.tup [.int r0.lo, .int r0.hi]) := upd_same
        generalize upd G3 Y2 (.tup [.int r0.lo, .int r0.hi]) = G4 at s4 o4 hY2 ⊢
        refine ⟨by decide, fun Z2 nZ2 => ?_⟩
        have m4 := new o4.dr nZ2
        have s5 := same_new (o := .tup [.int 4, .int 4]) (Same.rfl' (H := G4)) nZ2
        have o5 := o4.keep (o4.dr.put (o := .tup [.int 4, .int 4]) m4.1 m4.2.1 m4.2.2) (Kd.of s5)
        have hZ2 : upd G4 Z2 (.tup [.int 4, .int 4]) Z2 = some (.tup [.int 4, .int 4]) := upd_same
        have hY25 := s5 _ _ hY2
        generalize upd G4 Z2 (.tup [.int 4, .int 4]) = G5 at s5 o5 hZ2 hY25 ⊢
        refine ⟨.tuple [.int r0.lo, .int r0.hi], .tuple [.int 4, .int 4], .tup (SqT.of hY25) (.cons (.int _) (.cons (.int _) .nil)), .tup (SqT.of hZ2) (.cons (.int _) (.cons (.int _) .nil)), ?_, by decide +kernel, _, rfl, ?_⟩
        · obtain ⟨l1, l2⟩ := ints_shaped [r0.lo, r0.hi]
          unfold SeqAt.shaped
          have e1 : (PyData.tuple [.int r0.lo, .int r0.hi]).canLay0 = true := by simp only [PyData.canLay0]; exact l1
          have e2 : (PyData.tuple [.int r0.lo, .int r0.hi]).depth = 0 + 1 := by show PyData.depthAll [.int r0.lo, .int r0.hi] + 1 = _; rw [show PyData.depthAll [.int r0.lo, .int r0.hi] = 0 from l2]
          rw [e1, e2]
          rfl
        rw [two']
        by_cases h2 : r0.lo = 4 ∧ r0.hi = 4
        · have e2 : ((r0.lo == 4) && ((r0.hi == 4) && true)) = true := by rw [h2.1, h2.2]; rfl
          rw [e2]
          refine iteT ⟨_, rfl, T, _, 3, _, rfl, rfl, SqL.of o5.hT, rfl, F, _, 0, _, rfl, rfl, SqL.of o5.hF, at0, R, _, 1, 1, rfl, rfl, o5.hR, rfl, ?_⟩
          obtain ⟨rfl, rfl⟩ := h1
          refine ⟨T, F, R, c1, c2, c3, t0, s', t', l', 3, 4, ts, qs, rs', rfl, ?_, hC1, .inr ⟨rfl, rfl, h2.1, h2.2, hC4⟩, hC3⟩
          have sq : Sq (w3 T F R G5) (w3 T F R (upd G5 R (.lst [r0.n, .int 3, .int 4, .ref t0]))) := w3_to fun a u h1 h2 h3 e _ => ⟨⟨h1, h2, h3⟩, by rw [upd_ne h3]; exact e⟩
          exact ⟨o5.dr.put o5.R0.1 o5.R0.2.1 o5.R0.2.2, by rw [upd_ne o5.TR]; exact o5.hT, by rw [upd_ne o5.FR]; exact o5.hF, upd_same, sq.2 _ _ o5.k1, sq.2 _ _ o5.k2, sq.2 _ _ o5.k3, sq.2 _ _ o5.kt, o5.kq.sq sq, o5.T0, o5.F0, o5.R0, o5.TF, o5.TR, o5.FR⟩
        · have e2 : ((r0.lo == 4) && ((r0.hi == 4) && true)) = false := by
            rw [Bool.and_true]
            refine Bool.eq_false_iff.mpr fun h => h2 ?_
            rw [Bool.and_eq_true] at h
            exact ⟨eq_of_beq h.1, eq_of_beq h.2⟩
          rw [e2]
          exact iteF ⟨T, F, R, c1, c2, c3, t0, s', t', l', lo, hi, ts, qs, rs', rfl, o5, hC1, .inl ⟨hC4, fun h => h2 ⟨h.2.2.1, h.2.2.2⟩⟩, hC3⟩
      · have e1 : ((lo == 4) && ((hi == 4) && true)) = false := by
          rw [Bool.and_true]
          refine Bool.eq_false_iff.mpr fun h => h1 ?_
          rw [Bool.and_eq_true] at h
          exact ⟨eq_of_beq h.1, eq_of_beq h.2⟩
        rw [e1]
        exact iteF ⟨T, F, R, c1, c2, c3, t0, s', t', l', lo, hi, ts, qs, rs', rfl, o3, hC1, .inl ⟨hC4, fun h => h1 ⟨h.1, h.2.1⟩⟩, hC3⟩
    clear o hC1 T F R c1 c2 c3 t0 s' t' l' qs G1 ts hC3 rs' hC4 lo hi
    rintro σ1 G1 ⟨T, F, R, c1, c2, c3, t0, s', t', l', lo, hi, ts, qs, rs', rfl, o, hC1, hC5, hC3⟩
    obtain ⟨⟨zs', D'⟩, dif⟩ := vary D short few w0 w5 hC1 hC3 hC5
    refine ⟨_, rfl, T, _, 0, _, rfl, rfl, SqL.of o.hT, rfl, _, rfl, T, _, 1, _, rfl, rfl, SqL.of o.hT, rfl, _, rfl, T, _, 2, _, rfl, rfl, SqL.of o.hT, rfl, _, rfl, T, _, 3, _, rfl, rfl, SqL.of o.hT, rfl, ?_⟩
    intro x dx nx ndx nex
    have rv : RowsV G1 (.ref R :: qs) (⟨r0.n, lo, hi, ts⟩ :: rs') := .cons ⟨R, t0, rfl, .inl o.hR, .inl (w3_some o.kt).2.2.2⟩ (o.kq.sq w3_out)
    obtain ⟨ds, rds, al⟩ := rv.right D'.rowsR
    exact mk_stock D' ⟨c1, rfl, .inl (w3_some o.k1).2.2.2⟩ ⟨c2, rfl, .inl (w3_some o.k2).2.2.2⟩ ⟨c3, rfl, .inl (w3_some o.k3).2.2.2⟩ ⟨F, rfl, o.hF⟩ (.lst o.hF rds) (fun e1 l1 e2 l2 e3 l3 => D'.partsR (by rw [← rds.length, rv.len]) al e1 l1 e2 l2 e3 l3) rv nx ndx nex
      (fun H' s5 st => ⟨rfl, k x _ _ _ _ H' ⟨o.dr.bag.same s5, o.dr.but.trans (But.of s5)⟩ st dif⟩)
end
end K02

/-! k02, the law, part d: repr of a dict where no repr is under way. -/
namespace K02
open PySem L2 PySem.Spec PyProof.Rows
def keyD : Key → PyData
  | .inl i => .int i
  | .inr z => .str z
section
variable {P : Program} {w : World} {X : Cx} {pins : List (Addr × Obj)} {σ : L2.St} {H : Hp} {s : Shared}
theorem entries_read (I : Inv X pins σ H s) : ∀ {kvs : List (Key × V)} {vs : List (Key × Value)} {es : List DictEntry} {ds : List PyData}, KV kvs vs → Pairs (mixKind X.prog X.w) es vs → DpAll X.K H (kvs.map (·.2)) ds →
    ∃ as bs, ReadsAll s.heap (es.map (·.key)) (kvs.map fun p => keyD p.1) as ∧ ReadsAll s.heap (es.map (·.val)) ds bs
  | _, _, _, _, .nil, .nil, .nil => ⟨_, _, .nil, .nil⟩
  | kv :: kvs, q :: vs, en :: es, _, .cons e r, .cons hk hv rest, .cons d1 d2 => by
    obtain ⟨as, bs, h1, h2⟩ := entries_read I r rest d2
    obtain ⟨k, v⟩ := kv
    obtain ⟨k', v'⟩ := q
    obtain ⟨e1, e2⟩ := e
    have e1 : k = k' := e1
    subst e1
    obtain ⟨cs, hr⟩ := Dp.reads I _ _ _ d1 (show RelV v en.val by rw [hv]; exact e2)
    have hk0 : Reads s.heap en.key (keyD k) [] := by
      rcases keyIs_shape hk with ⟨i, t, e3, e4⟩ | ⟨z, t, e3, e4⟩
      · have e3 : k = .inl i := e3
        rw [e3, e4]
        exact Reads.int i t
      · have e3 : k = .inr z := e3
        rw [e3, e4]
        exact Reads.str z t
    exact ⟨_, _, .cons hk0 h1, .cons hr h2⟩
end
theorem dpall_len {K : PySem.W.Frag} {H : Hp} : ∀ {vs : List V} {ds : List PyData}, DpAll K H vs ds → vs.length = ds.length
  | _, _, .nil => rfl
  | _, _, .cons _ r => by rw [List.length_cons, List.length_cons, dpall_len r]
theorem keys_plain : ∀ kvs : List (Key × V), PyData.hasDictAll (kvs.map fun p => keyD p.1) = false ∧ PyData.depthAll (kvs.map fun p => keyD p.1) = 0
  | [] => ⟨rfl, rfl⟩
  | (k, v) :: r => by
    obtain ⟨h1, h2⟩ := keys_plain r
    refine ⟨?_, ?_⟩
    · rw [List.map_cons, PyData.hasDictAll, h1, Bool.or_false]
      cases k <;> rfl
    · show max (keyD k).depth (PyData.depthAll (r.map fun p => keyD p.1)) = 0
      rw [h2]
      cases k <;> rfl
/-- the text of a dict whose values are data -/
def dictTxt (kvs : List (Key × V)) (ds : List PyData) : Str := (PyData.dict ((kvs.map fun p => keyD p.1).zip ds)).shown
def rReprD (K : PySem.W.Frag) : List V → Hp → VK → Prop := fun xs H Q => ∃ a kvs ds, xs = [V.ref a] ∧ H a = some (.dK kvs) ∧ DpAll K H (kvs.map (·.2)) ds ∧ PyData.showableAll ds = true ∧ PyData.showableAll (kvs.map fun p => keyD p.1) = true ∧ PyData.canLayAll0 ds = true ∧ PyData.depthAll ds ≤ 10 ∧
  (dictTxt kvs ds).length ≤ sizeLine ∧ ∀ H', Same H H' → Q (.str (dictTxt kvs ds)) H'
theorem call_reprD {X : Cx} (hg : X.A.guards = some []) (hu : X.A.units + 40 < cLine) : CallR X (.builtin "repr") (rReprD X.K) := by
  intro pins s σ H xs us Q I rv h
  obtain ⟨a, kvs, ds, rfl, ha, dp, sh, shk, lay, dep, hz, q⟩ := h
  obtain ⟨u, rfl, ru⟩ := rv.one
  cases ru
  obtain ⟨_, hsys, vs, kv, o, es, ep, ho, ex, hd, _, pr, _⟩ := I.hok a _ ha
  obtain ⟨as, bs, r1, r2⟩ := entries_read I kv pr dp
  have hcls : o.cls = .type "dict" := ex.1
  have lk : (kvs.map fun p => keyD p.1).length = ds.length := by
    have := dpall_len dp
    rw [List.length_map] at this ⊢
    exact this
  have z1 : ((kvs.map fun p => keyD p.1).zip ds).map (·.1) = kvs.map fun p => keyD p.1 := List.map_fst_zip (Nat.le_of_eq lk)
  have z2 : ((kvs.map fun p => keyD p.1).zip ds).map (·.2) = ds := List.map_snd_zip (Nat.le_of_eq lk.symm)
  have ez : dictTxt kvs ds = dictText (List.zipWith (fun k v : Str => k ++ ": " ++ v) (PyData.shownAll (kvs.map fun p => keyD p.1)) (PyData.shownAll ds)) := by
    unfold dictTxt
    rw [PyData.shown, PyData.shownKv_eq, z1, z2]
  have hz0 : (dictText (PyData.shownKv ((kvs.map fun p => keyD p.1).zip ds))).length ≤ sizeLine := by
    have : (PyData.dict ((kvs.map fun p => keyD p.1).zip ds)).shown.length ≤ sizeLine := hz
    rw [PyData.shown] at this
    exact this
  obtain ⟨kd, kdep⟩ := keys_plain kvs
  obtain ⟨b1, hb1, k1⟩ := ReprAllK.of_readsAll (prog := X.prog) (w := X.w) r1 shk (fun hx => by rw [kd] at hx; cases hx) (fun t ht => by
    rw [← z1] at ht
    obtain ⟨p, hp, hl⟩ := PyData.shownKv_key_le _ t ht
    exact Nat.le_trans hl (Nat.le_trans (dictText_mem_le hp) hz0))
  obtain ⟨b2, hb2, k2⟩ := ReprAllK.of_readsAll (prog := X.prog) (w := X.w) r2 sh (fun hx => by rw [PyData.hasDictAll_of_canLayAll ds lay] at hx; cases hx) (fun t ht => by
    rw [← z2] at ht
    obtain ⟨p, hp, hl⟩ := PyData.shownKv_val_le _ t ht
    exact Nat.le_trans hl (Nat.le_trans (dictText_mem_le hp) hz0))
  have hb : ReadAtMost s.heap (PyData.depthKv ((kvs.map fun p => keyD p.1).zip ds)) (b1 ++ b2) := by
    have q1 := PyData.depthAll_keys_le ((kvs.map fun p => keyD p.1).zip ds)
    have q2 := PyData.depthAll_vals_le ((kvs.map fun p => keyD p.1).zip ds)
    rw [z1] at q1
    rw [z2] at q2
    exact (hb1.mono q1).append (hb2.mono q2)
  have rd : Reads s.heap (.ref a) (.dict ((kvs.map fun p => keyD p.1).zip ds)) (a :: as ++ bs) := Reads.dict ho hcls hd (by rw [z1]; exact r1) (by rw [z2]; exact r2)
  have hna : a ∉ b1 ++ b2 := not_mem_of_deeper rd (by simp only [PyData.depth]; omega) hb
  refine call_repr_slot (T := "dict") (idr := "dict.__repr__") (by omega) ⟨o, ho, hcls⟩ PySem.F.slot_dict_repr ?_
  refine call_dict_reprK (h₀ := s.heap) (d := 10) ho hcls hd hsys hna (ReprEntriesK.of_two es.toList _ _ (k1.more_le (fun b hb => List.mem_append_left _ hb) (by omega)) (k2.more_le (fun b hb => List.mem_append_right _ hb) dep)) (g := []) hg (fun b _ => Clear.nil b) (by show X.A.units + 1 + (10 + 1) < cLine; omega) (fun _ _ e => e) (fun h' u tk hk => ?_) (by rw [← ez]; exact hz)
  rw [← ez]
  exact ⟨_, _, rfl, .str (dictTxt kvs ds), H, I.kept (t' := tk) hk, ⟨_, rfl⟩, q H Same.rfl'⟩
end K02

/-! k02, the law, part e: a law's def run where the law is asked, with nothing under way around it. -/
namespace K02
open PySem L2 PySem.Spec PyProof.Rows
/-- the promise of the law's def, asked at the top alone -/
def AtTop (P : Program) (w : World) (K : PySem.W.Frag) (mg : Str → Option Value) (base : Heap) (f : Addr) (fd : FuncData) (x : Str) (sp : Sp) : Prop :=
  ∀ (s : Shared) (H : Hp) (a : Addr) (Q : VK) (E : XK), Env0 P w K mg base callerA [] s H → BindsTo s fd ⟨[.ref a], []⟩ [(x, .ref a)] → sp [.ref a] H Q E →
    codeAny (model P w) callerA (.call (.ref f) ⟨[.ref a], []⟩) (CR CX0 [] P w H s Q E) s
section
variable {P : Program} {w : World} {K : PySem.W.Frag} {mg : Str → Option Value} {base : Heap}
theorem top_fn {nm qual x : Str} {st : Stmt} {f : Addr} {fd : FuncData} {N : List Str} {k : Nat} {sp : Sp} (F : Fun K nm qual st f fd) (S : FnScope N [x] (defScope st)) (room : Room (k + 1) callerA)
    (body : ∀ (cdv : Value) (s : Shared) (H : Hp) (a : Addr) (Q : VK) (E : XK), Room k (callerA.deeper (envOfC qual (defScope st) s.heap.objs.size f cdv)) → sp [.ref a] H Q E →
      ∃ t, PSs (cxOf CX0 P w K mg base N qual (defScope st) f cdv callerA [] s H E).nox (defBody st) t ∧ t { nx := fun _ G => Q .non G, rt := Q } (start N [.ref a]) H) : AtTop P w K mg base f fd x sp := by
  obtain ⟨oc, od, kV, doc, pm, an, cdv, ct, osl, rfl, look, code⟩ := F.ex
  intro s H a Q E env bd pr
  have inK : K.In s.heap := env.mod.kin.keeps fun c u q => (env.bs c u q).1
  have noLim : s.heap.NoLimit := env.mod.nolimit.keeps fun c u q => (env.bs c u q).1
  have kinds : ∀ y ∈ [(x, Value.ref a)], (defScope st).names.lookup y.1 = some .local ∨ ((defScope st).names.lookup y.1 = some .cell ∧ ((cellsFrom (s.heap.objs.size + 1) (defScope st).names []).lookup y.1).isSome = true) := fun y hy => by
    obtain rfl := List.mem_singleton.mp hy
    exact (S.par x List.mem_cons_self).imp id fun q => ⟨q, PySem.W.cellsFrom_some _ _ _ (.inl q)⟩
  refine codeAny_call_function room.depth (inK _ _ look) rfl S.co S.gen rfl (PySem.W.codeRec_of inK code) (bd _ _ _ _ ?_)
  refine wpAny_newFunctionEnv_cells S.kind kinds fun e1 he s1 fresh => ?_
  subst he
  refine ⟨noLim.keeps fresh.toInCall.keep, codeAny_func ?_⟩
  obtain ⟨t, run, q⟩ := body cdv s H a Q E (room.deeper _) pr
  have I : L2.Inv (cxOf CX0 P w K mg base N qual (defScope st) f cdv callerA [] s H E) [] (start N [.ref a]) H s1 := inv_start (us := [Value.ref a]) (ps := [x]) S room.hd env rfl (.cons rfl .nil) fresh
  refine wpAny_mono (run.nox.run [] s1 (start N [.ref a]) H _ I q) (fun fl s2 h => ?_) fun _ _ h => h
  cases fl with
  | brk => obtain ⟨_, _, _, no⟩ := h; cases no
  | cont => obtain ⟨_, _, _, no⟩ := h; cases no
  | next =>
    obtain ⟨σ2, G, J, q2⟩ := h
    exact ⟨V.non, G, J.os, J.bare, J.base, J.hok, rfl, q2⟩
  | ret u =>
    obtain ⟨v, σ2, G, J, ru, q2⟩ := h
    exact ⟨v, G, J.os, J.bare, J.base, J.hok, ru, q2⟩
/-- the law is asked: from its promise at the top, at a heap in which the script alone may be tracked -/
theorem top_ask {mb : Str → Option Value} {fa a : Addr} {fd : FuncData} {x : Str} {sp : Sp} {s₁ : Shared} {vs : List Value} {ns : List Int}
    (inK : K.In s₁.heap) (main : s₁.heap.Ns mainGlobals mg) (bltn : s₁.heap.Ns builtinsNs mb) (boots : ∀ y : Str, y ≠ "__name__" → mb y = bootBuiltins y) (noLim : s₁.heap.NoLimit) (gens : s₁.gens = #[])
    (scr : s₁.heap.get? a = some { cls := .type "list", data := .seq vs.toArray }) (nums : IntsAre vs ns) (short : ns.length ≤ sizeLine)
    (F : ∀ b : Heap, K.In b → b.Ns mainGlobals mg → AtTop P w K mg b fa fd x sp) (bd : ∀ (s : Shared) (u : Value), BindsTo s fd ⟨[u], []⟩ [(x, u)])
    (pr : ∀ H : Hp, Only H → SqL K H a (ns.map V.int) → sp [.ref a] H (fun v _ => v = .bl true) fun _ _ _ => False) :
    codeAny (model P w) callerA (.call (.ref fa) ⟨[.ref a], []⟩) (fun r s' => r = .ok (.ret (.bool true)) ∧ OldK s₁.heap s'.heap ∧ s'.os = s₁.os ∧ AllBare s'.gens) s₁ := by
  have vals := vals_ints nums
  have one : ∀ H : Hp, Only H → SqL K H a (ns.map V.int) → HOk P w H s₁.heap → (∀ c u, H c = some u → c = a ∧ K.lookup a = none) → codeAny (model P w) callerA (.call (.ref fa) ⟨[.ref a], []⟩) (fun r s' => r = .ok (.ret (.bool true)) ∧ OldK s₁.heap s'.heap ∧ s'.os = s₁.os ∧ AllBare s'.gens) s₁ := by
    intro H only lst hok alone
    have dicts : ∀ {c : Addr} {u : Obj} {es : Array DictEntry} {ep : Nat}, s₁.heap.get? c = some u → u.data = .dict es ep → H c = none := fun {c u es ep} q d => by
      cases h : H c with
      | none => rfl
      | some z =>
        rw [(alone c z h).1, scr] at q
        cases q
        cases (show Data.seq vs.toArray _ = Data.dict es ep from d)
    have spaces : ∀ {c : Addr} {m : Str → Option Value}, s₁.heap.Ns c m → (hidT s₁.heap H).Ns c m := fun {c m} ⟨u, es, ep, q, d, r⟩ => ⟨u, es, ep, hidT_get q (dicts q d), d, r⟩
    have inB : K.In (hidT s₁.heap H) := fun c u q => hidT_get (inK c u q) (by
      cases h : H c with
      | none => rfl
      | some z =>
        obtain ⟨e, no⟩ := alone c z h
        rw [e, no] at q
        cases q)
    obtain ⟨mc, lim1, lim2⟩ := noLim
    have env : Env0 P w K mg (hidT s₁.heap H) callerA [] s₁ H := ⟨rfl, ⟨inB, spaces main, ⟨mb, spaces bltn, boots⟩, ⟨mc, spaces lim1, lim2⟩⟩, fun c u q => of_hidT q, Nat.le_of_eq (hidT_size _ _), trivial, fun c hc => absurd (show c ∈ ([] : List Addr) from hc) List.not_mem_nil, hok, .of_eq gens⟩
    refine codeAny_mono (F _ inB (spaces main) s₁ H a _ _ env (bd s₁ (.ref a)) (pr H only lst)) fun r s2 h => ?_
    rcases r with e | fl
    · exact h.elim
    · cases fl with
      | next => exact h.elim
      | brk => exact h.elim
      | cont => exact h.elim
      | ret u =>
        obtain ⟨v, G, os, bare, un, hok2, ru, ev⟩ := h
        have ev : v = .bl true := ev
        subst ev
        cases (show u = Value.bool true from ru)
        refine ⟨rfl, OldK.of_keep fun c u q => ?_, os, bare⟩
        cases h : H c with
        | none => exact un.keep c u q h (fun z => absurd (show c ∈ ([] : List Addr) from z) List.not_mem_nil) (by simp)
        | some z =>
          rcases only c with n | ⟨ob, xs, n⟩
          · rw [n] at h; cases h
          · have q1 := (hok c _ n).1
            have q2 := (hok2 c _ (un.frzs c ob _ n)).1
            rw [q] at q1
            cases q1
            exact q2
  cases lk : K.lookup a with
  | some u =>
    have q := inK a u lk
    rw [scr] at q
    cases q
    exact one (fun _ => none) (fun _ => .inl rfl) (.inr ⟨_, vs.toArray, _, lk, rfl, rfl, rfl, by rw [List.size_toArray, nums.length]; exact short, by simpa using vals⟩) (fun c u z => by cases (show (none : Option HO) = some u from z)) fun c u z => by cases (show (none : Option HO) = some u from z)
  | none =>
    have at_a : ∀ {c : Addr} {u : HO}, (if c = a then some (HO.frz { cls := .type "list", data := .seq vs.toArray } (.lst (ns.map V.int))) else none) = some u → c = a ∧ u = .frz { cls := .type "list", data := .seq vs.toArray } (.lst (ns.map V.int)) := fun {c u} z => by
      by_cases e : c = a
      · rw [if_pos e] at z; cases z; exact ⟨e, rfl⟩
      · rw [if_neg e] at z; cases z
    refine one (fun c => if c = a then some (.frz { cls := .type "list", data := .seq vs.toArray } (.lst (ns.map V.int))) else none) (fun c => ?_) (.inl (.inr ⟨_, if_pos rfl⟩)) (fun c u z => ?_) fun c u z => ⟨(at_a z).1, lk⟩
    · by_cases e : c = a
      · exact .inr ⟨_, _, if_pos e⟩
      · exact .inl (if_neg e)
    · obtain ⟨rfl, rfl⟩ := at_a z
      exact ⟨scr, by rw [List.length_map]; exact short, vs, _, vals, scr⟩
end
/-- the goal that k_head leaves, from the law's promise at the top -/
theorem top_walk {l : PySem.W.OpenLaw} {n : Nat} {q : Program} {loose : List Str} {XP : (Str → Option Value) → Heap → Prop} {YP : World → Heap → Prop} {d : DefRec} {K : Params → PySem.W.Frag} {sp : World → Sp} {x : Str}
    (hn : l.most = some n) (hn2 : n ≤ sizeLine) (hdf : d.params.defaults = []) (hY : ∀ (w : World) (h : Heap), YP w h → (K w.params).In h)
    (F : ∀ (w : World) (mg : Str → Option Value) (fa : Addr) (h : Heap), (K w.params).In h → h.Ns mainGlobals mg → mg d.name = some (.ref fa) →
      ∃ fd : FuncData, (∀ (s : Shared) (u : Value), BindsTo s fd ⟨[u], []⟩ [(x, u)]) ∧ ∀ b : Heap, (K w.params).In b → b.Ns mainGlobals mg → AtTop l.prog w (K w.params) mg b fa fd x (sp w))
    (pr : ∀ (w : World) (H : Hp) (a : Addr) (ns : List Int), ns.length ≤ n → Only H → SqL (K w.params) H a (ns.map V.int) → sp w [.ref a] H (fun v _ => v = .bl true) fun _ _ _ => False) :
    PySem.W.WalkO q loose XP YP l.row.toRowW d [] (fun f vs => PySem.call f vs) := by
  refine Att.attach_call hn hdf fun w _ s₁ mg mb fa o pm cd doc a vs ns G Y ho hd hcd named scr nums short gens => ?_
  obtain ⟨fd, bd, run⟩ := F w mg fa _ (hY w _ Y) G.T.g named
  exact top_ask (hY w _ Y) G.T.g G.T.b G.T.builtins G.T.nolimit gens scr nums (Nat.le_trans short hn2) run bd fun H hO hS => pr w H a ns short hO hS
end K02

/-! k02, the law, part f: the text of a drawn stock fits. -/
namespace K02
open PySem L2 PySem.Spec PyProof.Rows
def drK (S1 S2 F S3 S4 : Addr) : List (Key × V) := [(Sum.inr "stuffs", .ref S1), (Sum.inr "states", .ref S2), (Sum.inr "forms", .ref F), (Sum.inr "lands", .ref S3), (Sum.inr "shares", .ref S4)]
def drD (s t la : List Str) (rs : List FRow) (shd : List PyData) : List PyData := [.list (s.map PyData.str), .list (t.map PyData.str), .list (rs.map rowDL), .list (la.map PyData.str), .list shd]
theorem w_all {m : Nat} : ∀ {ds : List PyData}, (∀ d ∈ ds, d.weight ≤ m) → PyData.weightAll ds ≤ ds.length * (m + 1)
  | [], _ => Nat.zero_le _
  | d :: ds, h => by
    have h1 := h d List.mem_cons_self
    have h2 := w_all (ds := ds) fun x hx => h x (List.mem_cons_of_mem _ hx)
    show d.weight + 1 + PyData.weightAll ds ≤ (ds.length + 1) * (m + 1)
    rw [Nat.succ_mul]
    omega
theorem w_int {i : Int} (h0 : 0 ≤ i) (h1 : i ≤ 100) : (PyData.int i).weight ≤ 7 := by
  show (if (i == 0) = true then 0 else i.natAbs.log2 + 1) ≤ 7
  split
  · exact Nat.zero_le _
  · rename_i h
    have ne : i.natAbs ≠ 0 := fun e => h (by rw [Int.natAbs_eq_zero.mp e]; rfl)
    have : i.natAbs.log2 < 7 := (Nat.log2_lt ne).mpr (by show i.natAbs < 128; omega)
    omega
theorem s_int {i : Int} (h0 : 0 ≤ i) (h1 : i ≤ 100) : (PyData.int i).showable = true ∧ (PyData.int i).intsShort 13 = true := by
  refine ⟨?_, ?_⟩
  · show decide (i.natAbs.log2 < 1920) = true
    refine decide_eq_true ?_
    by_cases ne : i.natAbs = 0
    · rw [ne]; decide
    · exact Nat.lt_trans ((Nat.log2_lt ne).mpr (show i.natAbs < 2 ^ 7 by show i.natAbs < 128; omega)) (by decide)
  · show decide ((PyData.shown (.int i)).length ≤ 13) = true
    exact decide_eq_true (PyData.shown_int_le (by omega))
theorem show_all : ∀ {ds : List PyData}, (∀ d ∈ ds, d.showable = true ∧ d.intsShort 13 = true) → PyData.showableAll ds = true ∧ PyData.intsShortAll 13 ds = true
  | [], _ => ⟨rfl, rfl⟩
  | d :: ds, h => by
    obtain ⟨h1, h2⟩ := h d List.mem_cons_self
    obtain ⟨h3, h4⟩ := show_all (ds := ds) fun x hx => h x (List.mem_cons_of_mem _ hx)
    exact ⟨by rw [PyData.showableAll, h1, h3]; rfl, by rw [PyData.intsShortAll, h2, h4]; rfl⟩
theorem depth_all {m : Nat} : ∀ {ds : List PyData}, (∀ d ∈ ds, d.depth ≤ m) → PyData.depthAll ds ≤ m
  | [], _ => Nat.zero_le _
  | d :: ds, h => by
    have h1 := h d List.mem_cons_self
    have h2 := depth_all (ds := ds) fun x hx => h x (List.mem_cons_of_mem _ hx)
    show max d.depth (PyData.depthAll ds) ≤ m
    omega
/-- what can be told, and is small -/
structure Tell (m k : Nat) (d : PyData) : Prop where
  s : d.showable = true
  i : d.intsShort 13 = true
  w : d.weight ≤ m
  d : d.depth ≤ k
theorem Tell.str {z : Str} (h : z.length ≤ 1000) : Tell 1000 0 (.str z) := ⟨rfl, rfl, h, Nat.zero_le _⟩
theorem Tell.int {i : Int} (h0 : 0 ≤ i) (h1 : i ≤ 100) : Tell 1000 0 (.int i) := ⟨(s_int h0 h1).1, (s_int h0 h1).2, Nat.le_trans (w_int h0 h1) (by decide), Nat.zero_le _⟩
theorem Tell.list {n m k : Nat} {ds : List PyData} (h : ∀ d ∈ ds, Tell m k d) (hn : ds.length ≤ n) : Tell (n * (m + 1)) (k + 1) (.list ds) := by
  obtain ⟨a, b⟩ := show_all fun d hd => ⟨(h d hd).s, (h d hd).i⟩
  refine ⟨a, b, Nat.le_trans (w_all fun d hd => (h d hd).w) (Nat.mul_le_mul_right _ hn), ?_⟩
  show PyData.depthAll ds + 1 ≤ k + 1
  have := depth_all fun d hd => (h d hd).d
  omega
theorem Tell.tuple {n m k : Nat} {ds : List PyData} (h : ∀ d ∈ ds, Tell m k d) (hn : ds.length ≤ n) : Tell (n * (m + 1)) (k + 1) (.tuple ds) := by
  have t := Tell.list h hn
  exact ⟨t.s, t.i, t.w, t.d⟩
theorem Tell.mono {m k m' k' : Nat} {d : PyData} (h : Tell m k d) (hm : m ≤ m') (hk : k ≤ k') : Tell m' k' d := ⟨h.s, h.i, Nat.le_trans h.w hm, Nat.le_trans h.d hk⟩
theorem tell_strs {ys : List Str} (h : ∀ y ∈ ys, nmS y = true) (hn : ys.length ≤ 5) : Tell 200000 9 (.list (ys.map PyData.str)) := by
  refine (Tell.list (n := 5) (m := 1000) (k := 0) (fun d hd => ?_) (by rw [List.length_map]; exact hn)).mono (by decide) (by decide)
  obtain ⟨y, hy, rfl⟩ := List.mem_map.mp hd
  have := (name_short (h y hy)).2
  exact .str (by omega)
theorem tell_flat {v : V} (h : FlatSh v) : Tell 1000 0 (dV v) := by
  rcases h with rfl | ⟨z, rfl, hz, _⟩
  · exact ⟨rfl, rfl, Nat.zero_le _, Nat.zero_le _⟩
  · exact .str hz.1
theorem tell_row {r : FRow} (hn : FlatSh r.n) (h1 : 1 ≤ r.lo) (h2 : r.lo ≤ r.hi) (h3 : r.hi ≤ 4) (ht : ∀ x ∈ r.ts, FlatSh x) (hl : r.ts.length ≤ 20) : Tell 84000 8 (rowDL r) := by
  refine (Tell.tuple (n := 4) (m := 20020) (k := 1) (fun d hd => ?_) (by show 4 ≤ 4; decide)).mono (by decide) (by decide)
  simp only [List.mem_cons, List.not_mem_nil, or_false] at hd
  rcases hd with rfl | rfl | rfl | rfl
  · exact (tell_flat hn).mono (by decide) (by decide)
  · exact (Tell.int (by omega) (by omega)).mono (by decide) (by decide)
  · exact (Tell.int (by omega) (by omega)).mono (by decide) (by decide)
  · refine (Tell.list (n := 20) (m := 1000) (k := 0) (fun d hd => ?_) (by rw [List.length_map]; exact hl)).mono (by decide) (by decide)
    obtain ⟨x, hx, rfl⟩ := List.mem_map.mp hd
    exact tell_flat (ht x hx)
theorem tell_share {d : PyData} (h : ShD d) : Tell 5000 8 d := by
  obtain ⟨o, u, x, y, rfl, h1, h2, ⟨x0, x1⟩, y0, y1⟩ := h
  refine (Tell.tuple (n := 4) (m := 1000) (k := 0) (fun d hd => ?_) (by show 4 ≤ 4; decide)).mono (by decide) (by decide)
  simp only [List.mem_cons, List.not_mem_nil, or_false] at hd
  rcases hd with rfl | rfl | rfl | rfl
  · exact .str h1.1
  · exact .str h2.1
  · exact .int x0 x1
  · exact .int y0 y1
/-- the drawn stock as data, with what repr asks of it -/
theorem drawn_tells {s t la zs : List Str} {rs : List FRow} {shd : List PyData} {S1 S2 F S3 S4 : Addr} (D : DrawnOk s t la zs rs) (tsl : ∀ r ∈ rs, r.ts.length ≤ 20) (sd : ∀ d ∈ shd, ShD d) (sl : shd.length ≤ 3) (lay : PyData.canLayAll0 (drD s t la rs shd) = true) :
    PyData.showableAll (drD s t la rs shd) = true ∧ PyData.showableAll ((drK S1 S2 F S3 S4).map fun p => keyD p.1) = true ∧ PyData.depthAll (drD s t la rs shd) ≤ 10 ∧ (dictTxt (drK S1 S2 F S3 S4) (drD s t la rs shd)).length ≤ sizeLine := by
  have nm : ∀ {ys : List Str}, (∀ z ∈ ys, z ∈ s ++ (t ++ (la ++ zs))) → ∀ z ∈ ys, nmS z = true := fun h z hz => D.nm z (h z hz)
  have t1 := tell_strs (nm (ys := s) fun z hz => List.mem_append.mpr (.inl hz)) D.ls.2
  have t2 := tell_strs (nm (ys := t) fun z hz => List.mem_append.mpr (.inr (List.mem_append.mpr (.inl hz)))) (Nat.le_succ_of_le D.lt.2)
  have t3 := tell_strs (nm (ys := la) fun z hz => List.mem_append.mpr (.inr (List.mem_append.mpr (.inr (List.mem_append.mpr (.inl hz)))))) (Nat.le_succ_of_le D.ll.2)
  have t4 : Tell 600000 9 (.list (rs.map rowDL)) := by
    refine (Tell.list (n := 6) (m := 84000) (k := 8) (fun d hd => ?_) (by rw [List.length_map]; exact D.lr.2)).mono (by decide) (by decide)
    obtain ⟨r, hr, rfl⟩ := List.mem_map.mp hd
    obtain ⟨p1, p2, p3, p4, p5, p6⟩ := D.rowsR r hr
    exact tell_row p1 p3 p4 p5 p2 (tsl r hr)
  have t5 : Tell 20000 9 (.list shd) := (Tell.list (n := 3) (m := 5000) (k := 8) (fun d hd => tell_share (sd d hd)) sl).mono (by decide) (by decide)
  have w1 := (tell_strs (nm (ys := s) fun z hz => List.mem_append.mpr (.inl hz)) D.ls.2)
  have ws : ∀ {ys : List Str}, (∀ z ∈ ys, nmS z = true) → ys.length ≤ 5 → (PyData.list (ys.map PyData.str)).weight ≤ 5005 := fun {ys} h hn => by
    refine Nat.le_trans (w_all (m := 1000) fun d hd => ?_) (Nat.le_trans (Nat.mul_le_mul_right _ (by rw [List.length_map]; exact hn)) (by decide))
    obtain ⟨y, hy, rfl⟩ := List.mem_map.mp hd
    have := (name_short (h y hy)).2
    show y.length ≤ 1000
    omega
  have u1 := ws (nm (ys := s) fun z hz => List.mem_append.mpr (.inl hz)) D.ls.2
  have u2 := ws (nm (ys := t) fun z hz => List.mem_append.mpr (.inr (List.mem_append.mpr (.inl hz)))) (Nat.le_succ_of_le D.lt.2)
  have u3 := ws (nm (ys := la) fun z hz => List.mem_append.mpr (.inr (List.mem_append.mpr (.inr (List.mem_append.mpr (.inl hz)))))) (Nat.le_succ_of_le D.ll.2)
  obtain ⟨sh, it⟩ := show_all (ds := drD s t la rs shd) fun d hd => by
    simp only [drD, List.mem_cons, List.not_mem_nil, or_false] at hd
    rcases hd with rfl | rfl | rfl | rfl | rfl
    · exact ⟨t1.s, t1.i⟩
    · exact ⟨t2.s, t2.i⟩
    · exact ⟨t4.s, t4.i⟩
    · exact ⟨t3.s, t3.i⟩
    · exact ⟨t5.s, t5.i⟩
  refine ⟨sh, rfl, Nat.le_succ_of_le (depth_all (m := 9) fun d hd => ?_), ?_⟩
  · simp only [drD, List.mem_cons, List.not_mem_nil, or_false] at hd
    rcases hd with rfl | rfl | rfl | rfl | rfl
    · exact t1.d
    · exact t2.d
    · exact t4.d
    · exact t3.d
    · exact t5.d
  · refine PyData.shown_fits (B := 13) (by decide) (by decide) ?_ ?_
    · have ls := PyData.leavesShortAll_of_canLay0 13 _ lay it
      simp only [drD, PyData.leavesShortAll, Bool.and_eq_true] at ls
      obtain ⟨a1, a2, a3, a4, a5, _⟩ := ls
      show PyData.leavesShortKv 13 [(.str "stuffs", _), (.str "states", _), (.str "forms", _), (.str "lands", _), (.str "shares", _)] = true
      simp only [PyData.leavesShortKv, a1, a2, a3, a4, a5, Bool.and_true]
      decide +kernel
    · show (6 + (PyData.list (s.map PyData.str)).weight + 2 + (6 + (PyData.list (t.map PyData.str)).weight + 2 + (5 + (PyData.list (rs.map rowDL)).weight + 2 + (5 + (PyData.list (la.map PyData.str)).weight + 2 + (6 + (PyData.list shd).weight + 2 + 0))))) ≤ 2 ^ 20
      have v4 := t4.w
      have v5 := t5.w
      omega
end K02

/-! k02, the law, part g: its def. -/
namespace K02
open PySem L2 PySem.Spec PyProof.Rows K02T
abbrev sSIter : Stmt := inClass sStock 3
abbrev sLaw : Stmt := top 49
abbrev lwN : List Str := ["_law_script", "_law_bag_here", "_law_stock_here", "_law_kept", "_law_over", "_law_rows", "_law_names_here", "_law_thing", "_law_able", "_law_again", "_law_odd", "_law_row", "_law_name", "_law_word"]
/-- iter(stock) -/
def spSIter (CS : Addr) : Sp := fun vs H Q _ => ∃ x s t l rs, vs = [.ref x] ∧ StkF H CS x s t l rs ∧ ∀ it a, H a = some (.tup (allNames s t l rs)) → (∀ m o, H m = some o → m < it) → Q (.ref it) (upd H it (TIt a it 0))
section
variable {P : Program} {w : World} {K : PySem.W.Frag} {mg : Str → Option Value} {base : Heap}
theorem scSIter : FnScope ["self"] ["self"] (defScope sSIter) := ⟨rfl, rfl, rfl, by decide +kernel, rfl, by decide +kernel, by decide +kernel⟩
theorem ok_siter {f CS : Addr} {fd : FuncData} (F : Fun K "__iter__" "Stock.__iter__" sSIter f fd) (hiter : mg "iter" = none) (T : StockC K CS) : FnOk P w K mg base CX0 1 f fd ["self"] (spSIter CS) := by
  refine F.ok scSIter (fun vs H Q E h => ?_) (fun cdv A outer s H vs Q E hr h => ?_)
  · obtain ⟨x, s, t, l, rs, rfl, _⟩ := h
    rfl
  · obtain ⟨x, s, t, l, rs, rfl, S, k⟩ := h
    obtain ⟨dx, a1, a2, a3, a4, a5, a6, a7, fs, kvs, h0, h1, h2, h3, h4, h5, h6, h7, h8, h9⟩ := S.ex
    refine ⟨_, pss_one (ps_ret (pe_callB call_iterT (by rfl) hiter (by decide +kernel) (pa_cons (pe_fld (pv 0) rfl) pa_nil))), ?_⟩
    exact ⟨_, rfl, x, CS, dx, _, _, rfl, h0, T.cl, T.n7, rfl, a7, _, rfl, SqT.of h9, fun it _ big => k it a7 h9 big⟩
/-- names of the built-ins that the law and Stock use besides -/
structure Nm2 (mg : Str → Option Value) : Prop where
  repr : mg "repr" = none
  iter : mg "iter" = none
  any : mg "any" = none
  min : mg "min" = none
  sum : mg "sum" = none
/-- the defs that the law calls -/
structure LDefs (P : Program) (w : World) (K : PySem.W.Frag) (mg : Str → Option Value) (base : Heap) (CS CB CN CT CU : Addr) : Prop where
  bag : ∃ f fd, Df K mg "_law_bag" sBag ["_law_script"] f fd ∧ FnOk P w K mg base CX0 1 f fd ["_law_script"] (spBag K)
  stock : ∃ f fd, Df K mg "_law_stock" sLStock ["_law_bag_here", "_law_most"] f fd ∧ FnOk P w K mg base CX0 4 f fd ["_law_bag_here", "_law_most"] spLStock
  of : ∃ f fd, Df K mg "_law_stock_of" sStockOf ["_law_stock_here"] f fd ∧ FnOk P w K mg base CX0 8 f fd ["_law_stock_here"] (spStockOf CS)
  unk : ∃ f fd, Df K mg "_law_unknown" sUnknown ["_law_over", "_law_thing"] f fd ∧ FnOk P w K mg base CX0 7 f fd ["_law_over", "_law_thing"] (spUnknown CS)
  ranks : ∃ f fd, Df K mg "_law_ranks" sRanks ["_law_stock_here"] f fd ∧ FnOk P w K mg base CX0 1 f fd ["_law_stock_here"] spRanks
  other : ∃ f fd, Df K mg "_law_other" sOther ["_law_bag_here", "_law_stock_here"] f fd ∧ FnOk P w K mg base CX0 8 f fd ["_law_bag_here", "_law_stock_here"] (spOther CS)
  odd : ∃ f fd, Df K mg "_law_odd_name" sOdd ["_law_bag_here"] f fd ∧ FnOk P w K mg base CX0 3 f fd ["_law_bag_here"] spOdd
  isn : ∃ f fd, Df K mg "is_name" sIsName ["thing"] f fd ∧ FnOk P w K mg base CX0 1 f fd ["thing"] (spTest nmD)
  spoilt : ∃ f fd, Df K mg "_law_spoilt" sSpoilt ["_law_bag_here", "_law_stock_here"] f fd ∧ FnOk P w K mg base CX0 9 f fd ["_law_bag_here", "_law_stock_here"] spSpoilt
  two : ∃ f fd, Df K mg "_law_two_faults" sTwo ["_law_bag_here", "_law_stock_here"] f fd ∧ FnOk P w K mg base CX0 9 f fd ["_law_bag_here", "_law_stock_here"] spSpoilt
  init : ∃ f fd, Mk K CS f ∧ Binds K fd ["self", "stuffs", "states", "lands", "forms"] [] ∧ FnOk P w K mg base (L2.CX P w) 6 f fd ["self", "stuffs", "states", "lands", "forms"] (spSInit CS CB CN CT CU)
  get : ∃ f fd, Meth K CS "__getitem__" f ∧ PySem.W.fnIn K f = true ∧ Binds K fd ["self", "at"] [] ∧ FnOk P w K mg base (L2.CX P w) 5 f fd ["self", "at"] (spSGet CS CU)
  cont : ∃ f fd, Meth K CS "__contains__" f ∧ Binds K fd ["self", "x"] [] ∧ FnOk P w K mg base CX0 1 f fd ["self", "x"] (spSCont CS)
  iter : ∃ f fd, ItT K CS f ∧ Binds K fd ["self"] [] ∧ FnOk P w K mg base CX0 1 f fd ["self"] (spSIter CS)
  eq : ∃ f fd, Meth K CS "__eq__" f ∧ Binds K fd ["self", "other"] [] ∧ FnOk P w K mg base CX0 1 f fd ["self", "other"] (spSEq CS)
  usable : ∃ f fd, Meth K CS "usable" f ∧ Binds K fd ["self"] [] ∧ FnOk P w K mg base CX0 1 f fd ["self"] (spUsable CS)
theorem StkF.dr {G G' : Hp} {CS x b l : Addr} {s t la : List V} {rs : List FRow} (h : StkF G CS x s t la rs) (B : BagL G b l) (k : But b G G') : StkF G' CS x s t la rs := by
  obtain ⟨ns, a, r, m, c, hb, hl, _⟩ := B
  obtain ⟨dx, a1, a2, a3, a4, a5, a6, a7, fs, kvs, h0, h1, h2, h3, h4, h5, h6, h7, h8, h9⟩ := h.ex
  have tu : ∀ {p : Addr} {xs : List V}, G p = some (.tup xs) → G' p = some (.tup xs) := fun {p xs} e => k p _ e (ne_of e hb (by intro z; cases z))
  have n5 : a5 ≠ b := fun e => by
    rw [e, hb] at h6
    injection h6 with h6
    injection h6 with h6
    rw [← h6] at h7
    cases h7 with
    | cons e1 e2 e3 e4 => rw [hl] at e2; cases e2
  have n6 : a6 ≠ b := fun e => by rw [e, hb] at h8; injection h8 with h8; injection h8 with h8; cases h8
  refine ⟨⟨dx, a1, a2, a3, a4, a5, a6, a7, fs, kvs, k _ _ h0 (ne_of h0 hb (by intro z; cases z)), tu h1, tu h2, tu h3, tu h4, h5.mono fun p xs e => tu e, k _ _ h6 n5, h7.mono fun p xs e => tu e, k _ _ h8 n6, tu h9⟩, h.nm, h.ts⟩
/-- what stands behind the first rows of the law -/
structure LS (b l A CS x Rw Nm : Addr) (s t la : List Str) (rs : List FRow) (xs fs shs : List V) (shd : List PyData) (S1 S2 S3 Fa S4 : Addr) (G : Hp) : Prop where
  B : BagL G b l
  Ab : A ≠ b
  hA : G A = some (.dK (drK S1 S2 Fa S3 S4))
  h1 : G S1 = some (.lst (s.map V.str))
  h2 : G S2 = some (.lst (t.map V.str))
  h3 : G S3 = some (.lst (la.map V.str))
  hF : G Fa = some (.lst xs)
  rows : RowsL G xs rs
  h4 : G S4 = some (.lst shs)
  r4 : Rps G shs shd
  st : StkF G CS x (s.map V.str) (t.map V.str) (la.map V.str) rs
  hR : G Rw = some (.tup fs)
  rt : RowsT G fs rs
  hN : G Nm = some (.lst (allNames (s.map V.str) (t.map V.str) (la.map V.str) rs))
section
variable {b l A CS x Rw Nm : Addr} {s t la : List Str} {rs : List FRow} {xs fs shs : List V} {shd : List PyData} {S1 S2 S3 Fa S4 : Addr} {G G' : Hp}
theorem LS.same (o : LS b l A CS x Rw Nm s t la rs xs fs shs shd S1 S2 S3 Fa S4 G) (k : Same G G') : LS b l A CS x Rw Nm s t la rs xs fs shs shd S1 S2 S3 Fa S4 G' :=
  ⟨o.B.same k, o.Ab, k _ _ o.hA, k _ _ o.h1, k _ _ o.h2, k _ _ o.h3, k _ _ o.hF, o.rows.same k, k _ _ o.h4, o.r4.mono (Sq.of k), o.st.same k, k _ _ o.hR, o.rt.mono (Tk.of k), k _ _ o.hN⟩
theorem LS.dr (o : LS b l A CS x Rw Nm s t la rs xs fs shs shd S1 S2 S3 Fa S4 G) (d : Dr b l G G') : LS b l A CS x Rw Nm s t la rs xs fs shs shd S1 S2 S3 Fa S4 G' := by
  have sq := d.sq o.B
  exact ⟨d.bag, o.Ab, d.but _ _ o.hA o.Ab, sq.2 _ _ o.h1, sq.2 _ _ o.h2, sq.2 _ _ o.h3, sq.2 _ _ o.hF, o.rows.sq sq, sq.2 _ _ o.h4, o.r4.mono sq, o.st.dr o.B d.but, sq.1 _ _ o.hR, o.rt.mono sq.1, sq.2 _ _ o.hN⟩
end
/-- where the law stands -/
def LP (a b l A CS x Rw Nm : Addr) (txt : Str) (s t la : List Str) (rs : List FRow) (xs fs shs : List V) (shd : List PyData) (S1 S2 S3 Fa S4 : Addr) (C : Option V → Option V → Option V → Hp → Prop) : L2.St → Hp → Prop := fun σ G =>
  ∃ o7 o8 o9 o10, σ = [some (.ref a), some (.ref b), some (.ref A), some (.str txt), some (.ref x), some (.ref Rw), some (.ref Nm), o7, o8, o9, o10, none, none, none] ∧ LS b l A CS x Rw Nm s t la rs xs fs shs shd S1 S2 S3 Fa S4 G ∧ C o8 o9 o10 G
theorem DrawnOk.flatN {s t l zs : List Str} {rs : List FRow} (D : DrawnOk s t l zs rs) {y : V} (h : y ∈ allNames (s.map V.str) (t.map V.str) (l.map V.str) rs) : FlatSh y := by
  rw [D.all] at h
  obtain ⟨z, hz, rfl⟩ := List.mem_map.mp h
  exact .inr ⟨z, rfl, nm_sh (D.nm z hz), (name_short (D.nm z hz)).1⟩
def spLaw (K : PySem.W.Frag) : Sp := fun vs H Q _ => ∃ (a : Addr) (ns : List Int), vs = [.ref a] ∧ SqL K H a (ns.map V.int) ∧ ns.length ≤ 63 ∧ ∀ H', Q (.bl true) H'
theorem scLaw : FnScope lwN ["_law_script"] (defScope sLaw) := ⟨rfl, rfl, rfl, by decide +kernel, rfl, by decide +kernel, by decide +kernel⟩
abbrev tRow4 (K : PySem.W.Frag) : TE := tTup (tCons (tAtT K 11 0) (tCons (tAtT K 11 1) (tCons (tAtT K 11 2) (tCons (tCB (rTupOf K) (tCons (tAt K 11 3) tNil)) tNil))))
theorem ok_law {f CS CB CN CT CU : Addr} {fd : FuncData} (F : Fun K "law" "law" sLaw f fd) (N : Nms mg) (N2 : Nm2 mg) (G : Glb K mg) (T : StockC K CS) (TI : StockI K CS) (gS : mg "Stock" = some (.ref CS)) (LD : LDefs P w K mg base CS CB CN CT CU) (room : Room 10 callerA) :
    AtTop P w K mg base f fd "_law_script" (spLaw K) := by
  obtain ⟨fb, fdb, DB, GB⟩ := LD.bag
  obtain ⟨fst, fdst, DST, GST⟩ := LD.stock
  obtain ⟨fof, fdof, DOF, GOF⟩ := LD.of
  obtain ⟨fuk, fduk, DUK, GUK⟩ := LD.unk
  obtain ⟨frk, fdrk, DRK, GRK⟩ := LD.ranks
  obtain ⟨fot, fdot, DOT, GOT⟩ := LD.other
  obtain ⟨fod, fdod, DOD, GOD⟩ := LD.odd
  obtain ⟨fin, fdin, DIN, GIN⟩ := LD.isn
  obtain ⟨fsp, fdsp, DSP, GSP⟩ := LD.spoilt
  obtain ⟨ftw, fdtw, DTW, GTW⟩ := LD.two
  obtain ⟨fmk, fdmk, MT, bMK, GMK⟩ := LD.init
  obtain ⟨fgt, fdgt, MG, hfG, bGT, GGT⟩ := LD.get
  obtain ⟨fco, fdco, MC, bCO, GCO⟩ := LD.cont
  obtain ⟨fit, fdit, IT, bIT, GIT⟩ := LD.iter
  obtain ⟨feq, fdeq, ME, bEQ, GEQ⟩ := LD.eq
  obtain ⟨fus, fdus, MU, bUS, GUS⟩ := LD.usable
  obtain ⟨aR, gR, sR⟩ := G.reserved
  refine top_fn F scLaw room fun cdv s0 H a Q E hr h => ?_
  obtain ⟨a', ns, e', hscr, hns, k⟩ := h
  cases e'
  have nd := scLaw.nd
  have hu := hu_of hr
  have r1 := hr.mono (show 1 ≤ 9 by decide)
  have r2 := hr.mono (show 2 ≤ 9 by decide)
  have r3 := hr.mono (show 3 ≤ 9 by decide)
  have r4 := hr.mono (show 4 ≤ 9 by decide)
  have r6 := hr.mono (show 6 ≤ 9 by decide)
  have r7 := hr.mono (show 7 ≤ 9 by decide)
  have r8 := hr.mono (show 8 ≤ 9 by decide)
  have hu64 := hr.units
  refine ⟨_, pss_cons (ps_set (i := 1) nd rfl (Or.inl rfl) (pe_call GB r1 rfl DB.g DB.F.kp DB.b .nil pass0 (pa_cons (pv 0) pa_nil)))
    (pss_cons (ps_set (i := 2) nd rfl (Or.inl rfl) (pe_call GST r4 rfl DST.g DST.F.kp DST.b .nil pass0 (pa_cons (pv 1) (pa_cons pe_int pa_nil))))
    (pss_cons (ps_set (i := 3) nd rfl (Or.inl rfl) (pe_callB (call_reprD (by rfl) (Nat.lt_of_le_of_lt (Nat.add_le_add_left (by decide : 40 ≤ 64) _) hu64)) (by rfl) N2.repr (by decide +kernel) (pa_cons (pv 2) pa_nil)))
    (pss_cons (ps_set (i := 4) nd rfl (Or.inr rfl) (pe_call GOF r8 rfl DOF.g DOF.F.kp DOF.b .nil pass0 (pa_cons (pv 2) pa_nil)))
    (pss_cons (ps_set (i := 5) nd rfl (Or.inl rfl) (pe_callTy call_tupOf (by rfl) N.tuple (by decide +kernel) (pa_cons
        (pe_lc (own := [("_law_row", 11)]) (g := gName 11) (tt := tYes) (te := tRow4 K) rfl nd (pi_list (pe_dget hu (pv 2) pe_str (fun _ _ => rfl))) (blkOk_by (N := lwN) (sc := defScope sLaw) (by decide +kernel)) (fun _ _ _ _ _ => pg_name (i := 11) nd rfl (Or.inl rfl)) (fun _ _ _ _ _ => pts_nil)
          (fun _ _ _ _ _ => pe_tup (pa_cons (pe_ix ix_tup (pv 11) pe_int (fun _ _ => rfl)) (pa_cons (pe_ix ix_tup (pv 11) pe_int (fun _ _ => rfl)) (pa_cons (pe_ix ix_tup (pv 11) pe_int (fun _ _ => rfl)) (pa_cons (pe_callTy call_tupOf (by rfl) N.tuple (by decide +kernel) (pa_cons (pe_ix ix_seq (pv 11) pe_int (fun _ _ => rfl)) pa_nil)) pa_nil)))))) pa_nil)))
    (C8.pss_cut (ps_set (i := 6) nd rfl (Or.inl rfl) (pe_op op_cat (pe_op op_cat (pe_op op_cat (pe_dget hu (pv 2) pe_str (fun _ _ => rfl)) (pe_dget hu (pv 2) pe_str (fun _ _ => rfl))) (pe_dget hu (pv 2) pe_str (fun _ _ => rfl)))
        (pe_lc (own := [("_law_row", 11)]) (g := gName 11) (tt := tYes) (te := tAtT K 11 0) rfl nd (pi_tup (pv 5)) (blkOk_by (N := lwN) (sc := defScope sLaw) (by decide +kernel)) (fun _ _ _ _ _ => pg_name (i := 11) nd rfl (Or.inl rfl)) (fun _ _ _ _ _ => pts_nil)
          (fun _ _ _ _ _ => pe_ix ix_tup (pv 11) pe_int (fun _ _ => rfl)))))
    (C8.pss_cut (ps_if (PW.pt (pw_or (pt_cmpR (op_neD hr.units) (pe_fld (pv 4) rfl) (pe_callTy call_tupOf (by rfl) N.tuple (by decide +kernel) (pa_cons (pe_dget hu (pv 2) pe_str (fun _ _ => rfl)) pa_nil)) (nomark _))
        (pw_or1 (pt_cmpR (op_neD hr.units) (pe_fld (pv 4) rfl) (pe_callTy call_tupOf (by rfl) N.tuple (by decide +kernel) (pa_cons (pe_dget hu (pv 2) pe_str (fun _ _ => rfl)) pa_nil)) (nomark _))))) (pss_one (ps_ret pe_bl)) pss_nil)
    (C8.pss_cut (ps_if (PW.pt (pw_or (pt_cmpR (op_neD hr.units) (pe_fld (pv 4) rfl) (pe_callTy call_tupOf (by rfl) N.tuple (by decide +kernel) (pa_cons (pe_dget hu (pv 2) pe_str (fun _ _ => rfl)) pa_nil)) (nomark _))
        (pw_or1 (pt_cmpR (op_neD hr.units) (pe_fld (pv 4) rfl) (pv 5) (nomark _))))) (pss_one (ps_ret pe_bl)) pss_nil)
    (C8.pss_cut (ps_if (PW.pt (pw_or (pt_cmpR (op_neD hr.units) (pe_callTy (call_listT rfl IT GIT bIT (EI := E0) pass0 (hr.mono (show 3 ≤ 9 by decide))) (by rfl) N.list (by decide +kernel) (pa_cons (pv 4) pa_nil)) (pv 6) (nomark _))
        (pw_or1 (pt_not (pt_val (pe_callB (cr_all rfl) (by rfl) N.all (by decide +kernel) (pa_cons
          (pe_lc (own := [("_law_name", 12)]) (g := gName 12) (tt := tYes) (te := tOp (rOwnIn CS (spSCont CS) E0) (tVar 12) (tVar 4)) rfl nd (pi_list (pv 6)) (blkOk_by (N := lwN) (sc := defScope sLaw) (by decide +kernel)) (fun _ _ _ _ _ => pg_name (i := 12) nd rfl (Or.inl rfl)) (fun _ _ _ _ _ => pts_nil)
            (fun _ _ _ _ _ => pe_cmpR (op_ownIn MC GCO r1 bCO pass0) (pv 12) (pv 4) rfl)) pa_nil))))))) (pss_one (ps_ret pe_bl)) pss_nil)
    (C8.pss_cut (ps_if (PW.pt (pw_or (pt_cmpR (op_ownIn (E := E0) MC GCO r1 bCO pass0) pe_str (pv 4) rfl) (pw_or (pt_cmpR (op_ownIn (E := E0) MC GCO r1 bCO pass0) pe_str (pv 4) rfl)
        (pw_or1 (pt_cmpR (op_ownIn (E := E0) MC GCO r1 bCO pass0) (pe_op op_add_str (pe_slice sl_str (pe_ix ix_list (pv 6) pe_int (fun _ _ => rfl)) po_none (po_some pe_int)) pe_str) (pv 4) rfl))))) (pss_one (ps_ret pe_bl)) pss_nil)
    (C8.pss_cut (ps_if (pt_not (pt_val (pe_callB (cr_all rfl) (by rfl) N.all (by decide +kernel) (pa_cons
          (pe_lc (own := [("_law_row", 11)]) (g := gName 11) (tt := tYes) (te := tOp (rEqD K) (tOwnIxS CS (spSGet CS CU) (WE (fun _ _ _ _ => False)) (tVar 4) (tAtT K 11 0)) (tSl (rSlT K) (tVar 11) (tPart (tC (.int 1))) tNoPart)) rfl nd (pi_tup (pv 5)) (blkOk_by (N := lwN) (sc := defScope sLaw) (by decide +kernel)) (fun _ _ _ _ _ => pg_name (i := 11) nd rfl (Or.inl rfl)) (fun _ _ _ _ _ => pts_nil)
            (fun _ _ _ _ _ => pe_cmpR (op_eqD hr.units) (pe_ownIxS MG hfG GGT (hr.mono (show 6 ≤ 9 by decide)) bGT (fun σ => passAt takes0 σ) (pv 4) (pe_ix ix_tup (pv 11) pe_int (fun _ _ => rfl)) (fun _ _ => rfl)) (pe_slice sl_tup (pv 11) (po_some pe_int) po_none) (nomark _))) pa_nil)))) (pss_one (ps_ret pe_bl)) pss_nil)
    (C8.pss_cut (ps_for PassesOwn.never rfl (pi_list (pe_lst (pa_cons (pe_ix ix_seq (pe_dget hu (pv 2) pe_str (fun _ _ => rfl)) pe_int (fun _ _ => rfl)) (pa_cons pe_str (pa_cons pe_str (pa_cons (pe_ix ix_seq (pe_dget hu (pv 2) pe_str (fun _ _ => rfl)) pe_int (fun _ _ => rfl)) pa_nil)))))) (pg_name (i := 7) nd rfl (Or.inl rfl))
        (pss_one (ps_if (pt_not (pt_val (pe_call GUK r7 rfl DUK.g DUK.F.kp DUK.b .nil pass0 (pa_cons (pv 4) (pa_cons (pv 7) pa_nil))))) (pss_one (ps_ret pe_bl)) pss_nil)))
    (pss_cons (ps_set (i := 8) nd rfl (Or.inr rfl) (pe_call GRK r1 rfl DRK.g DRK.F.kp DRK.b .nil pass0 (pa_cons (pv 2) pa_nil)))
    (C8.pss_cut (ps_if (pt_cmpR (op_neD hr.units) (pe_meth0 (pv 4) T.cl MU GUS r1 bUS .nil pass0) (pe_callTy call_tupOf (by rfl) N.tuple (by decide +kernel) (pa_cons
          (pe_lc (own := [("_law_row", 11)]) (g := gName 11) (tt := tB (tDIn (tAtT K 11 0) (tVar 8))) (te := tAtT K 11 0) rfl nd (pi_tup (pv 5)) (blkOk_by (N := lwN) (sc := defScope sLaw) (by decide +kernel)) (fun _ _ _ _ _ => pg_name (i := 11) nd rfl (Or.inl rfl))
            (fun _ _ _ _ _ => pts_one (pt_cmp (pc_din hu (pe_ix ix_tup (pv 11) pe_int (fun _ _ => rfl)) (pv 8)))) (fun _ _ _ _ _ => pe_ix ix_tup (pv 11) pe_int (fun _ _ => rfl))) pa_nil)) (nomark _)) (pss_one (ps_ret pe_bl)) pss_nil)
    (C8.pss_cut (ps_set (i := 9) nd rfl (Or.inl rfl) (pe_makeS MT GMK r7 rfl gS bMK (fun σ => passAt takes0 σ) (pa_cons (pe_callTy call_tupOf (by rfl) N.tuple (by decide +kernel) (pa_cons (pe_dget hu (pv 2) pe_str (fun _ _ => rfl)) pa_nil)) (pa_cons (pe_callTy call_list_of (by rfl) N.list (by decide +kernel) (pa_cons (pe_dget hu (pv 2) pe_str (fun _ _ => rfl)) pa_nil))
          (pa_cons (pe_callTy call_tupOf (by rfl) N.tuple (by decide +kernel) (pa_cons (pe_dget hu (pv 2) pe_str (fun _ _ => rfl)) pa_nil)) (pa_cons
            (pe_lc (own := [("_law_row", 11)]) (g := gName 11) (tt := tYes) (te := tCB (rLstOf K) (tCons (tVar 11) tNil)) rfl nd (pi_tup (pv 5)) (blkOk_by (N := lwN) (sc := defScope sLaw) (by decide +kernel)) (fun _ _ _ _ _ => pg_name (i := 11) nd rfl (Or.inl rfl)) (fun _ _ _ _ _ => pts_nil)
              (fun _ _ _ _ _ => pe_callTy call_lstOf (by rfl) N.list (by decide +kernel) (pa_cons (pv 11) pa_nil))) pa_nil))))))
    (C8.pss_cut (ps_if (PW.pt (pw_or (pt_not (pt_cmpR (op_stEq (E := E0) TI ME GEQ r1 bEQ pass0) (pv 4) (pv 9) (nomark _))) (pw_or (pt_cmpR (op_stEq (E := E0) TI ME GEQ r1 bEQ pass0) (pv 4) (pe_call GOT r8 rfl DOT.g DOT.F.kp DOT.b .nil pass0 (pa_cons (pv 1) (pa_cons (pv 2) pa_nil))) (nomark _))
        (pw_or1 (pt_cmpR (op_stEq (E := E0) TI ME GEQ r1 bEQ pass0) (pv 4) (pv 5) (nomark _)))))) (pss_one (ps_ret pe_bl)) pss_nil)
    (C8.pss_cut (ps_if (PW.pt (pw_or (pt_cmpR (op_neD hr.units) (pe_meth0 (pv 9) T.cl MU GUS r1 bUS .nil pass0) (pe_meth0 (pv 4) T.cl MU GUS r1 bUS .nil pass0) (nomark _)) (pw_or1 (pt_not (pt_val (pe_callB (cr_all rfl) (by rfl) N.all (by decide +kernel) (pa_cons
          (pe_lc (own := [("_law_name", 12)]) (g := gName 12) (tt := tYes) rfl nd (pi_list (pv 6)) (blkOk_by (N := lwN) (sc := defScope sLaw) (by decide +kernel)) (fun _ _ _ _ _ => pg_name (i := 12) nd rfl (Or.inl rfl)) (fun _ _ _ _ _ => pts_nil)
            (fun _ _ _ _ _ => pe_call GIN r1 rfl DIN.g DIN.F.kp DIN.b .nil pass0 (pa_cons (pv 12) pa_nil))) pa_nil))))))) (pss_one (ps_ret pe_bl)) pss_nil)
    (pss_cons (ps_set (i := 10) nd rfl (Or.inl rfl) (pe_call GOD r3 rfl DOD.g DOD.F.kp DOD.b .nil pass0 (pa_cons (pv 1) pa_nil)))
    (C8.pss_cut (ps_if (PW.pt (pw_or (pt_val (pe_call GIN r1 rfl DIN.g DIN.F.kp DIN.b .nil pass0 (pa_cons (pv 10) pa_nil))) (pw_or (pt_val (pe_callB (cr_any rfl) (by rfl) N2.any (by decide +kernel) (pa_cons
          (pe_lc (own := [("_law_word", 13)]) (g := gName 13) (tt := tYes) rfl nd (pi_tup (pe_glob (v := .ref aR) rfl gR rfl)) (blkOk_by (N := lwN) (sc := defScope sLaw) (by decide +kernel)) (fun _ _ _ _ _ => pg_name (i := 13) nd rfl (Or.inl rfl)) (fun _ _ _ _ _ => pts_nil)
            (fun _ _ _ _ _ => pe_call GIN r1 rfl DIN.g DIN.F.kp DIN.b .nil pass0 (pa_cons (pv 13) pa_nil))) pa_nil)))
        (pw_or1 (pt_cmpR op_ne (pe_callB call_len (by rfl) N.len PySem.boot_len (pa_cons (pe_glob (v := .ref aR) rfl gR rfl) pa_nil)) pe_int (nomark _)))))) (pss_one (ps_ret pe_bl)) pss_nil)
    (pss_one (ps_ret (pe_and (pe_call GSP hr rfl DSP.g DSP.F.kp DSP.b .nil pass0 (pa_cons (pv 1) (pa_cons (pv 2) pa_nil))) (pe_and (pe_call GTW hr rfl DTW.g DTW.F.kp DTW.b .nil pass0 (pa_cons (pv 1) (pa_cons (pv 2) pa_nil)))
        (pe_one (pe_cmpR op_eq (pe_callB (call_reprD (by rfl) (Nat.lt_of_le_of_lt (Nat.add_le_add_left (by decide : 40 ≤ 64) _) hu64)) (by rfl) N2.repr (by decide +kernel) (pa_cons (pv 2) pa_nil)) (pv 3) (nomark _))))))))))))))))))))))))), ?_⟩
  refine ⟨_, rfl, a, ns, rfl, hscr, hns, fun b l H1 b0 l0 B1 s1 => ?_⟩
  refine ⟨_, rfl, b, l, rfl, B1, fun A s t la zs rs H2 d2 dw => ?_⟩
  obtain ⟨S1, S2, S3, Fa, S4, xs, shs, shd, hA, h1, h2, h3, hF, rows, h4, r4', shok⟩ := dw.full
  have D := dw.ok
  have few := dw.few
  have short := dw.sh
  have tsl := dw.tsl
  have Ab : A ≠ b := fun e => by
    obtain ⟨_, _, _, _, _, hb, _⟩ := d2.bag
    rw [e, hb] at hA
    injection hA with hA
    injection hA with hA
    injection hA with e1 _
    injection e1 with e1 _
    exact absurd e1 (by decide)
  have rowsN : ∀ r ∈ rs, FlatSh r.n ∧ ∀ y ∈ r.ts, FlatSh y := fun r hr => ⟨(D.rowsR r hr).1, (D.rowsR r hr).2.1⟩
  have strs' : ∀ {ys : List Str}, (∀ z ∈ ys, z ∈ s ++ (t ++ (la ++ zs))) → ∀ z ∈ ys, Sh z := fun h z hz => nm_sh (D.nm z (h z hz))
  have shS := strs' (ys := s) fun z hz => List.mem_append.mpr (.inl hz)
  have shT := strs' (ys := t) fun z hz => List.mem_append.mpr (.inr (List.mem_append.mpr (.inl hz)))
  have shL := strs' (ys := la) fun z hz => List.mem_append.mpr (.inr (List.mem_append.mpr (.inr (List.mem_append.mpr (.inl hz)))))
  have data : ∀ {G : Hp}, G S1 = some (.lst (s.map V.str)) → G S2 = some (.lst (t.map V.str)) → G S3 = some (.lst (la.map V.str)) → G Fa = some (.lst xs) → RowsL G xs rs → G S4 = some (.lst shs) → Rps G shs shd → Rps G ((drK S1 S2 Fa S3 S4).map (·.2)) (drD s t la rs shd) := fun {G} q1 q2 q3 q4 q5 q6 q7 =>
    .cons (.lst q1 (strs_rps shS)) (.cons (.lst q2 (strs_rps shT)) (.cons (.lst q4 (q5.rps rowsN)) (.cons (.lst q3 (strs_rps shL)) (.cons (.lst q6 q7) .nil))))
  have dr2 := data h1 h2 h3 hF rows h4 r4'
  obtain ⟨t1, t2, t3, t4⟩ := drawn_tells (S1 := S1) (S2 := S2) (F := Fa) (S3 := S3) (S4 := S4) D tsl shok.1 shok.2 dr2.lay
  refine ⟨_, rfl, A, drK S1 S2 Fa S3 S4, drD s t la rs shd, rfl, hA, dr2.dp, t1, t2, dr2.lay, t3, t4, fun H3 s3 => ?_⟩
  generalize htxt : dictTxt (drK S1 S2 Fa S3 S4) (drD s t la rs shd) = txt
  refine ⟨_, rfl, A, s, t, la, zs, rs, rfl, dw.sq s3, fun x H4 s4 st => ?_⟩
  have s34 := s3.trans s4
  have hF4 := s34 _ _ hF
  have rows4 := rows.same s34
  have hA4 := s34 _ _ hA
  refine ⟨_, rfl, A, _, rfl, DGet.k (k := Sum.inr "forms") hA4, Fa, rfl, ⟨_, SqL.of hF4⟩, fun D1 nD => ?_⟩
  refine lc_it (walk_list (K := K) (a := Fa) (xs := xs)) (fun i G => Same H4 G ∧ ∃ fs, G D1 = some (.lst fs) ∧ RowsT G fs (rs.take i)) ⟨same_new Same.rfl' nD, [], upd_same, .nil⟩ (fun i G _ h => SqL.of (h.1 _ _ hF4)) ?_ ?_
  · rintro i y G6 G5 hi ⟨s5, fs, hD, rt⟩ ⟨rfl, hy⟩
    obtain ⟨r, q, tt, hr', rfl, hq, ht⟩ := rows4.nth hy
    have hq5 := s5 _ _ hq
    have ht5 := s5 _ _ ht
    have lf := rt.len
    rw [List.length_take] at lf
    have lr := D.lr.2
    refine ⟨rfl, yesT ⟨_, rfl, q, _, 0, _, rfl, rfl, SqT.of hq5, rfl, _, rfl, q, _, 1, _, rfl, rfl, SqT.of hq5, rfl, _, rfl, q, _, 2, _, rfl, rfl, SqT.of hq5, rfl, _, rfl, SqD.ix (.inr hq5) rfl ⟨tt, _, rfl, .inl ⟨SqL.of ht5, fun u nu => ?_⟩⟩⟩⟩
    have s6 := same_new (o := .tup r.ts) (Same.rfl' (H := G5)) nu
    have hu' : upd G5 u (.tup r.ts) u = some (.tup r.ts) := upd_same
    generalize upd G5 u (.tup r.ts) = G6 at s6 hu' ⊢
    refine ⟨by show 4 ≤ sizeLine; decide, fun v nv => ?_⟩
    have s7 := same_new (o := .tup [r.n, .int r.lo, .int r.hi, .ref u]) (Same.rfl' (H := G6)) nv
    have hv : upd G6 v (.tup [r.n, .int r.lo, .int r.hi, .ref u]) v = some (.tup [r.n, .int r.lo, .int r.hi, .ref u]) := upd_same
    have hu7 := s7 _ _ hu'
    generalize upd G6 v (.tup [r.n, .int r.lo, .int r.hi, .ref u]) = G7 at s7 hv hu7 ⊢
    have s57 := s6.trans s7
    have tk : Tk G7 (upd G7 D1 (.lst (fs ++ [.ref v]))) := fun p us e => by rw [upd_ne (ne_of e (s57 _ _ hD) (by intro z; cases z))]; exact e
    refine ⟨fs, s57 _ _ hD, small1000 (by omega), same_put (s5.trans s57) nD, fs ++ [.ref v], upd_same, ?_⟩
    have et : rs.take (i + 1) = rs.take i ++ [r] := by rw [List.take_add_one, hr']; rfl
    rw [et]
    exact ((rt.mono (Tk.of s57)).mono tk).snoc (tk _ _ hv) (tk _ _ hu7)
  rintro G5 ⟨s5, fs, hD, rt⟩
  rw [rows.len, List.take_length] at rt
  refine ⟨D1, _, rfl, .inl ⟨SqL.of hD, fun Rw nRw => ?_⟩⟩
  have s6 := same_new (o := .tup fs) (Same.rfl' (H := G5)) nRw
  have hRw : upd G5 Rw (.tup fs) Rw = some (.tup fs) := upd_same
  have rt6 := rt.mono (Tk.of s6)
  have sH6 := s34.trans (s5.trans s6)
  have st6 := st.same (s5.trans s6)
  generalize upd G5 Rw (.tup fs) = G6 at s6 hRw rt6 sH6 st6 ⊢
  clear rt s6 nRw hD s5 nD
  have bag6 : BagL G6 b l := d2.bag.same sH6
  have ls6 : s.length ≤ 3 := few.1
  have lt6 : t.length ≤ 3 := few.2.1
  have ll6 : la.length ≤ 3 := few.2.2.1
  have lr6 : rs.length ≤ 5 := few.2.2.2
  have lfs := rt6.len
  have S1A := DGet.k (k := Sum.inr "stuffs") (sH6 _ _ hA)
  have S2A := DGet.k (k := Sum.inr "states") (sH6 _ _ hA)
  refine ⟨fun σ G => ∃ Nm, LP a b l A CS x Rw Nm txt s t la rs xs fs shs shd S1 S2 S3 Fa S4 (fun _ _ _ _ => True) σ G, ?_, ?_⟩
  · refine ⟨_, rfl, A, _, rfl, S1A, _, rfl, A, _, rfl, S2A, S1, S2, _, _, rfl, rfl, sH6 _ _ h1, sH6 _ _ h2, Nat.le_of_lt (small1000 (by rw [List.length_map, List.length_map]; omega)), fun X1 n1 => ?_⟩
    have s7 := same_new (o := .lst (s.map V.str ++ t.map V.str)) (Same.rfl' (H := G6)) n1
    have hX1 : upd G6 X1 (.lst (s.map V.str ++ t.map V.str)) X1 = some (.lst (s.map V.str ++ t.map V.str)) := upd_same
    generalize upd G6 X1 (.lst (s.map V.str ++ t.map V.str)) = G7 at s7 hX1 ⊢
    have sH7 := sH6.trans s7
    refine ⟨_, rfl, A, _, rfl, DGet.k (k := Sum.inr "lands") (sH7 _ _ hA), X1, S3, _, _, rfl, rfl, hX1, sH7 _ _ h3, Nat.le_of_lt (small1000 (by rw [List.length_append, List.length_map, List.length_map, List.length_map]; omega)), fun X2 n2 => ?_⟩
    have s8 := same_new (o := .lst (s.map V.str ++ t.map V.str ++ la.map V.str)) (Same.rfl' (H := G7)) n2
    have hX2 : upd G7 X2 (.lst (s.map V.str ++ t.map V.str ++ la.map V.str)) X2 = some (.lst (s.map V.str ++ t.map V.str ++ la.map V.str)) := upd_same
    generalize upd G7 X2 (.lst (s.map V.str ++ t.map V.str ++ la.map V.str)) = G8 at s8 hX2 ⊢
    have s68 := s7.trans s8
    have hRw8 := s68 _ _ hRw
    have rt8 := rt6.mono (Tk.of s68)
    refine ⟨_, rfl, Rw, rfl, ⟨_, SqT.of hRw8⟩, fun D2 nD2 => ?_⟩
    refine lc_it (walk_tup (K := K) (a := Rw) (xs := fs)) (fun i G => Same G8 G ∧ G D2 = some (.lst ((rs.take i).map FRow.n))) ⟨same_new Same.rfl' nD2, upd_same⟩ (fun i G _ h => SqT.of (h.1 _ _ hRw8)) ?_ ?_
    · rintro i y Gb Ga hi ⟨s9, hD⟩ ⟨rfl, hy⟩
      obtain ⟨r, q, tt, hr', rfl, hq, ht⟩ := rt8.nth hy
      refine ⟨rfl, yesT ⟨_, rfl, q, _, 0, _, rfl, rfl, SqT.of (s9 _ _ hq), rfl, _, hD, small1000 (by rw [List.length_map, List.length_take]; omega), same_put s9 nD2, ?_⟩⟩
      rw [upd_same, List.take_add_one, hr', List.map_append]
      rfl
    rintro Ga ⟨s9, hD⟩
    have hD' : Ga D2 = some (.lst (rs.map FRow.n)) := by
      rw [hD, lfs, List.take_length]
    refine ⟨X2, D2, _, _, rfl, rfl, s9 _ _ hX2, hD', Nat.le_of_lt (small1000 (by rw [List.length_append, List.length_append, List.length_map, List.length_map, List.length_map, List.length_map]; omega)), fun Nm nNm => ?_⟩
    have s10 := same_new (o := .lst (s.map V.str ++ t.map V.str ++ la.map V.str ++ rs.map FRow.n)) (Same.rfl' (H := Ga)) nNm
    have s6a := s68.trans (s9.trans s10)
    have hNm : upd Ga Nm (.lst (s.map V.str ++ t.map V.str ++ la.map V.str ++ rs.map FRow.n)) Nm = some (.lst (allNames (s.map V.str) (t.map V.str) (la.map V.str) rs)) := by
      rw [upd_same, List.append_assoc, List.append_assoc]
    have sHa := sH6.trans s6a
    exact ⟨Nm, _, _, _, _, rfl, ⟨bag6.same s6a, Ab, sHa _ _ hA, sHa _ _ h1, sHa _ _ h2, sHa _ _ h3, sHa _ _ hF, rows.same sHa, sHa _ _ h4, r4'.mono (Sq.of sHa), st6.same s6a, s6a _ _ hRw, rt6.mono (Tk.of s6a), hNm⟩, trivial⟩
  clear hA4 hF4 rows4 S1A S2A st6 sH6 rt6 hRw bag6 G6 s34 st
  rintro σ1 G0 ⟨Nm, o7, o8, o9, o10, rfl, o, -⟩
  -- facts that no heap changes
  have nmR : ∀ r ∈ rs, NmV r.n := fun r hr => by
    have : r.n ∈ rs.map FRow.n := List.mem_map.mpr ⟨r, hr, rfl⟩
    rw [D.nr] at this
    obtain ⟨z, hz, e⟩ := List.mem_map.mp this
    exact ⟨z, e.symm, D.nm z (List.mem_append.mpr (.inr (List.mem_append.mpr (.inr (List.mem_append.mpr (.inr hz))))))⟩
  have flS : ∀ y ∈ s.map V.str, FlatSh y := fun y hy => D.flatN (List.mem_append.mpr (.inl hy))
  have flT : ∀ y ∈ t.map V.str, FlatSh y := fun y hy => D.flatN (List.mem_append.mpr (.inr (List.mem_append.mpr (.inl hy))))
  have flL : ∀ y ∈ la.map V.str, FlatSh y := fun y hy => D.flatN (List.mem_append.mpr (.inr (List.mem_append.mpr (.inr (List.mem_append.mpr (.inl hy))))))
  have flA : ∀ y ∈ allNames (s.map V.str) (t.map V.str) (la.map V.str) rs, FlatSh y := fun y hy => D.flatN hy
  have same2 : ∀ {d : PyData}, d.canLay0 = true → (!PyData.eqv d d) = false := fun {d} e => by rw [SeqAt.eqv_refl d e]; rfl
  have tupN : ∀ {G : Hp} {p : Addr} {ys : List V}, G p = some (.tup ys) → (∀ y ∈ ys, FlatSh y) → Dp K G (.ref p) (txtD ys) := fun e f => .tup (SqT.of e) (flat_dp f)
  have layT : ∀ {ys : List V}, (∀ y ∈ ys, FlatSh y) → (txtD ys).canLay0 = true := fun f => by
    simp only [txtD, PyData.canLay0]
    exact (flat_lay f).1
  -- the stuffs and the states
  refine ⟨fun σ G => LP a b l A CS x Rw Nm txt s t la rs xs fs shs shd S1 S2 S3 Fa S4 (fun _ _ _ _ => True) σ G, ?_, ?_⟩
  · obtain ⟨dx, a1, a2, a3, a4, a5, a6, a7, fs', kvs, g0, g1, g2, g3, g4, g5, g6, g7, g8, g9⟩ := o.st.ex
    refine ⟨_, rfl, x, CS, dx, _, _, rfl, g0, T.cl, T.n1, rfl, _, rfl, A, _, rfl, DGet.k (k := Sum.inr "stuffs") o.hA, S1, _, rfl, .inl ⟨SqL.of o.h1, fun u nu => ?_⟩⟩
    have s7 := same_new (o := .tup (s.map V.str)) (Same.rfl' (H := G0)) nu
    have hu7 : upd G0 u (.tup (s.map V.str)) u = some (.tup (s.map V.str)) := upd_same
    generalize upd G0 u (.tup (s.map V.str)) = G7 at s7 hu7 ⊢
    refine ⟨_, _, tupN (s7 _ _ g1) flS, tupN hu7 flS, txt_shaped flS, txt_shaped flS, _, rfl, ?_⟩
    rw [same2 (layT flS)]
    refine iteF ?_
    have o7' := o.same s7
    refine ⟨_, rfl, x, CS, dx, _, _, rfl, s7 _ _ g0, T.cl, T.n2, rfl, _, rfl, A, _, rfl, DGet.k (k := Sum.inr "states") o7'.hA, S2, _, rfl, .inl ⟨SqL.of o7'.h2, fun u2 nu2 => ?_⟩⟩
    have s8 := same_new (o := .tup (t.map V.str)) (Same.rfl' (H := G7)) nu2
    have hu8 : upd G7 u2 (.tup (t.map V.str)) u2 = some (.tup (t.map V.str)) := upd_same
    generalize upd G7 u2 (.tup (t.map V.str)) = G8 at s8 hu8 ⊢
    refine ⟨_, _, tupN (s8 _ _ (s7 _ _ g2)) flT, tupN hu8 flT, txt_shaped flT, txt_shaped flT, _, rfl, ?_⟩
    rw [same2 (layT flT)]
    exact iteF ⟨_, _, _, _, rfl, o7'.same s8, trivial⟩
  clear o o7 o8 o9 o10 G0
  rintro σ1 G0 ⟨o7, o8, o9, o10, rfl, o, -⟩
  -- the lands and the forms
  refine ⟨fun σ G => LP a b l A CS x Rw Nm txt s t la rs xs fs shs shd S1 S2 S3 Fa S4 (fun _ _ _ _ => True) σ G, ?_, ?_⟩
  · obtain ⟨dx, a1, a2, a3, a4, a5, a6, a7, fs', kvs, g0, g1, g2, g3, g4, g5, g6, g7, g8, g9⟩ := o.st.ex
    refine ⟨_, rfl, x, CS, dx, _, _, rfl, g0, T.cl, T.n3, rfl, _, rfl, A, _, rfl, DGet.k (k := Sum.inr "lands") o.hA, S3, _, rfl, .inl ⟨SqL.of o.h3, fun u nu => ?_⟩⟩
    have s7 := same_new (o := .tup (la.map V.str)) (Same.rfl' (H := G0)) nu
    have hu7 : upd G0 u (.tup (la.map V.str)) u = some (.tup (la.map V.str)) := upd_same
    generalize upd G0 u (.tup (la.map V.str)) = G7 at s7 hu7 ⊢
    refine ⟨_, _, tupN (s7 _ _ g3) flL, tupN hu7 flL, txt_shaped flL, txt_shaped flL, _, rfl, ?_⟩
    rw [same2 (layT flL)]
    refine iteF ?_
    have o7' := o.same s7
    have rl : (rowsD rs).canLay0 = true := by
      simp only [rowsD, PyData.canLay0]
      exact (rows_lay rowsN).1
    refine ⟨_, rfl, x, CS, dx, _, _, rfl, s7 _ _ g0, T.cl, T.n4, rfl, _, rfl, rowsD rs, rowsD rs, .tup (SqT.of (s7 _ _ g4)) (rows_dp (g5.mono (Tk.of s7)) rowsN), .tup (SqT.of o7'.hR) (rows_dp o7'.rt rowsN), rows_shaped rowsN, rows_shaped rowsN, _, rfl, ?_⟩
    rw [same2 rl]
    exact iteF ⟨_, _, _, _, rfl, o7', trivial⟩
  clear o o7 o8 o9 o10 G0
  rintro σ1 G0 ⟨o7, o8, o9, o10, rfl, o, -⟩
  have lA : (allNames (s.map V.str) (t.map V.str) (la.map V.str) rs).length ≤ 20 := by
    show (s.map V.str ++ (t.map V.str ++ (la.map V.str ++ rs.map FRow.n))).length ≤ 20
    rw [List.length_append, List.length_append, List.length_append, List.length_map, List.length_map, List.length_map, List.length_map]
    omega
  have alltrue : ∀ n : Nat, (List.replicate n true).all id = true := fun n => List.all_eq_true.mpr fun c hc => by rw [(List.mem_replicate.mp hc).2]; rfl
  have grow : ∀ i : Nat, (List.replicate i true).map V.bl ++ [V.bl true] = (List.replicate (i + 1) true).map V.bl := fun i => by
    rw [List.replicate_succ', List.map_append]
    rfl
  -- iteration, and every name in it
  refine ⟨fun σ G => LP a b l A CS x Rw Nm txt s t la rs xs fs shs shd S1 S2 S3 Fa S4 (fun _ _ _ _ => True) σ G, ?_, ?_⟩
  · obtain ⟨dx, a1, a2, a3, a4, a5, a6, a7, fs', kvs, g0, g1, g2, g3, g4, g5, g6, g7, g8, g9⟩ := o.st.ex
    refine ⟨_, rfl, x, dx, _, rfl, g0, fun q nq => ?_⟩
    have s7 := same_new (o := .lst []) (Same.rfl' (H := G0)) nq
    have hq0 : upd G0 q (.lst []) q = some (.lst []) := upd_same
    refine ⟨x, _, _, _, _, rfl, o.st.same s7, fun it a7' ha big => ?_⟩
    refine ⟨it, a7', _, rfl, big, rfl, ha, (fun e => by rw [e, hq0] at ha; cases ha), Nat.le_of_lt (small1000 (by omega)), fun H3 k3 hq3 => ?_⟩
    have s3 : Same G0 H3 := fun c u e => k3 c u (s7 _ _ e) (ne_of_none e nq)
    have o3 := o.same s3
    refine ⟨_, rfl, _, _, .lst (SqL.of hq3) (flat_dp flA), .lst (SqL.of o3.hN) (flat_dp flA), lst_shaped flA, lst_shaped flA, _, rfl, ?_⟩
    have layA : (PyData.list ((allNames (s.map V.str) (t.map V.str) (la.map V.str) rs).map dV)).canLay0 = true := by
      simp only [PyData.canLay0]
      exact (flat_lay flA).1
    rw [same2 layA]
    refine iteF ⟨_, rfl, Nm, rfl, ⟨_, SqL.of o3.hN⟩, fun D2 nD2 => ?_⟩
    refine lc_it (walk_list (K := K) (a := Nm) (xs := allNames (s.map V.str) (t.map V.str) (la.map V.str) rs)) (fun i G => Same H3 G ∧ G D2 = some (.lst ((List.replicate i true).map V.bl))) ⟨same_new Same.rfl' nD2, upd_same⟩ (fun i G _ h => SqL.of (h.1 _ _ o3.hN)) ?_ ?_
    · rintro i y Gb Ga hi ⟨s9, hD⟩ ⟨rfl, hy⟩
      have hm : y ∈ allNames (s.map V.str) (t.map V.str) (la.map V.str) rs := List.mem_of_getElem? hy
      have i20 : i < 20 := Nat.lt_of_lt_of_le hi lA
      obtain ⟨zy, rfl, _⟩ := o.st.nm y hm
      refine ⟨rfl, yesT ⟨_, rfl, _, rfl, x, dx, _, rfl, s9 _ _ (s3 _ _ g0), x, .str zy, _, _, _, _, rfl, o3.st.same s9, flA _ hm, _, rfl, _, hD, ?_, same_put s9 nD2, ?_⟩⟩
      · rw [List.length_map, List.length_replicate]; exact small1000 (by omega)
      · rw [upd_same, inV_mem hm, grow]
    rintro Ga ⟨s9, hD⟩
    refine ⟨D2, _, rfl, SqL.of hD, _, rfl, ?_⟩
    rw [alltrue]
    exact iteF ⟨_, _, _, _, rfl, o3.same s9, trivial⟩
  clear o o7 o8 o9 o10 G0
  rintro σ1 G0 ⟨o7, o8, o9, o10, rfl, o, -⟩
  have far : ∀ {y : Str}, (∀ z ∈ s ++ (t ++ (la ++ zs)), z ≠ y) → inV (.str y) (allNames (s.map V.str) (t.map V.str) (la.map V.str) rs) = false := fun {y} h => by
    refine Bool.eq_false_iff.mpr fun q => ?_
    have hm := inV_str q
    rw [D.all] at hm
    obtain ⟨z, hz, e⟩ := List.mem_map.mp hm
    injection e with e
    exact h z hz e
  have far12 : ∀ {y : Str}, y.length = 12 → ∀ z ∈ s ++ (t ++ (la ++ zs)), z ≠ y := fun {y} h z hz e => by
    have := short z hz
    rw [e] at this
    omega
  have mixN : ∀ z ∈ s ++ (t ++ (la ++ zs)), z ≠ "mix" := fun z hz e => by
    have := D.nm z hz
    rw [e] at this
    exact absurd this (by decide +kernel)
  have flatw : ∀ {y : Str}, y.length ≤ 20 → AllIn low7 y → FlatSh (.str y) := fun {y} h1 h2 => .inr ⟨y, rfl, (odd_sh h1 h2).1, (odd_sh h1 h2).2⟩
  -- what is not in it
  refine ⟨fun σ G => LP a b l A CS x Rw Nm txt s t la rs xs fs shs shd S1 S2 S3 Fa S4 (fun _ _ _ _ => True) σ G, ?_, ?_⟩
  · obtain ⟨dx, a1, a2, a3, a4, a5, a6, a7, fs', kvs, g0, g1, g2, g3, g4, g5, g6, g7, g8, g9⟩ := o.st.ex
    refine ⟨_, rfl, x, dx, _, rfl, g0, x, .str "mix", _, _, _, _, rfl, o.st, flatw (by decide) (low_all (by decide +kernel)), _, rfl, _, rfl, ?_⟩
    rw [far mixN]
    refine iteF ⟨_, rfl, x, dx, _, rfl, g0, x, .str z12, _, _, _, _, rfl, o.st, flatw (by decide) (low_all (by decide +kernel)), _, rfl, _, rfl, ?_⟩
    rw [far (far12 (by decide))]
    refine iteF ?_
    obtain ⟨z0, s', es⟩ : ∃ z0 s', s = z0 :: s' := by
      cases s with
      | nil => exact absurd D.ls.1 (by decide)
      | cons z0 s' => exact ⟨z0, s', rfl⟩
    have hN := o.hN
    have eN : allNames (s.map V.str) (t.map V.str) (la.map V.str) rs = .str z0 :: (s'.map V.str ++ (t.map V.str ++ (la.map V.str ++ rs.map FRow.n))) := by rw [es]; rfl
    have nz0 := D.nm z0 (by rw [es]; exact List.mem_cons_self)
    have lz0 := (name_short nz0).2
    have z1 : 1 ≤ z0.length ∧ AllIn low7 z0 := by
      have h := nz0
      unfold nmS at h
      simp only [Bool.and_eq_true, decide_eq_true_eq, List.all_eq_true] at h
      exact ⟨by omega, low_of fun c hc => h.2.1 c hc⟩
    have ct : (cutS z0 none (some (1 : Int))).cps.toList = z0.cps.toList.take 1 := cut_lo (pl := 1) z1.1
    have cl : (cutS z0 none (some (1 : Int))).length = 1 := by
      rw [← len_cps, ct, List.length_take, len_cps]
      omega
    have clow : AllIn low7 (cutS z0 none (some (1 : Int)) ++ "zzzzzzzzzzz") := allIn_app (fun c hc => by rw [ct] at hc; exact z1.2 c (List.mem_of_mem_take hc)) (low_all (by decide +kernel))
    have c12 : (cutS z0 none (some (1 : Int)) ++ "zzzzzzzzzzz").length = 12 := by rw [Str.length_append, cl]; rfl
    rw [eN] at hN
    refine ⟨_, rfl, Nm, _, 0, _, rfl, rfl, SqL.of hN, at0, _, rfl, z0, rfl, Nat.le_of_lt (small1000 (by omega)), _, _, rfl, rfl, Nat.le_of_lt (small1000 (by rw [cl]; decide)), ?_⟩
    refine ⟨_, rfl, x, dx, _, rfl, g0, x, .str (cutS z0 none (some (1 : Int)) ++ "zzzzzzzzzzz"), _, _, _, _, rfl, o.st, flatw (by omega) clow, _, rfl, _, rfl, ?_⟩
    rw [far (far12 c12)]
    exact iteF ⟨_, _, _, _, rfl, o, trivial⟩
  clear o o7 o8 o9 o10 G0
  rintro σ1 G0 ⟨o7, o8, o9, o10, rfl, o, -⟩
  have ndR : (rs.map FRow.n).Nodup := by
    rw [D.nr]
    exact nd_str (D.nd.sublist ((List.sublist_append_right _ _).trans ((List.sublist_append_right _ _).trans (List.sublist_append_right _ _))))
  have oneR : ∀ {r r' : FRow}, r ∈ rs → r' ∈ rs → r.n = r'.n → r = r' := fun {r r'} h h' e => by
    obtain ⟨i, hi⟩ := List.mem_iff_getElem?.mp h
    obtain ⟨j, hj⟩ := List.mem_iff_getElem?.mp h'
    have ei : (rs.map FRow.n)[i]? = some r.n := by rw [List.getElem?_map, hi]; rfl
    have ej : (rs.map FRow.n)[j]? = some r.n := by rw [List.getElem?_map, hj, e]; rfl
    obtain ⟨li, vi⟩ := List.getElem?_eq_some_iff.mp ei
    obtain ⟨lj, vj⟩ := List.getElem?_eq_some_iff.mp ej
    have : i = j := by
      rcases Nat.lt_trichotomy i j with h | h | h
      · exact absurd (vi.trans vj.symm) (List.pairwise_iff_getElem.mp ndR i j li lj h)
      · exact h
      · exact absurd (vj.trans vi.symm) (List.pairwise_iff_getElem.mp ndR j i lj li h)
    rw [this, hj] at hi
    cases hi
    rfl
  -- each form's row by its name
  refine ⟨fun σ G => LP a b l A CS x Rw Nm txt s t la rs xs fs shs shd S1 S2 S3 Fa S4 (fun _ _ _ _ => True) σ G, ?_, ?_⟩
  · obtain ⟨dx, a1, a2, a3, a4, a5, a6, a7, fs', kvs, g0, g1, g2, g3, g4, g5, g6, g7, g8, g9⟩ := o.st.ex
    refine ⟨_, rfl, Rw, rfl, ⟨_, SqT.of o.hR⟩, fun D2 nD2 => ?_⟩
    refine lc_it (walk_tup (K := K) (a := Rw) (xs := fs)) (fun i G => Same G0 G ∧ G D2 = some (.lst ((List.replicate i true).map V.bl))) ⟨same_new Same.rfl' nD2, upd_same⟩ (fun i G _ h => SqT.of (h.1 _ _ o.hR)) ?_ ?_
    · rintro i y Gb Ga hi ⟨s9, hD⟩ ⟨rfl, hy⟩
      obtain ⟨r, q, tt, hr', rfl, hq, ht⟩ := o.rt.nth hy
      have hm := List.mem_of_getElem? hr'
      obtain ⟨zr, er, nzr⟩ := nmR r hm
      have i20 : i < 20 := by
        have hi' : i < fs.length := hi
        omega
      have hq9 := s9 _ _ hq
      refine ⟨rfl, yesT ⟨_, rfl, _, rfl, q, _, 0, _, rfl, rfl, SqT.of hq9, rfl, x, dx, _, rfl, s9 _ _ g0, x, r.n, _, _, _, _, rfl, o.st.same s9, (nmR r hm).flat, fun zz q' ez ra => ?_, fun no => absurd rfl (no r hm)⟩⟩
      obtain ⟨r', t', hm', en', hq', ht'⟩ := ra
      obtain rfl := oneR hm hm' (ez.trans en'.symm)
      have cr : cutV [r.n, .int r.lo, .int r.hi, .ref tt] (some 1) none = [.int r.lo, .int r.hi, .ref tt] := cutV_hi (n := 1) (by show 1 ≤ 4; decide)
      refine ⟨_, rfl, _, rfl, q, _, rfl, SqT.of hq9, (by rintro ⟨h, _⟩; exact absurd h (by show ¬ HT.sIx 4 0 (some 1) = 0; decide)), fun p np => ?_⟩
      rw [cr]
      have sA := same_new (o := .tup [.int r.lo, .int r.hi, .ref tt]) (Same.rfl' (H := Ga)) np
      have hp : upd Ga p (.tup [.int r.lo, .int r.hi, .ref tt]) p = some (.tup [.int r.lo, .int r.hi, .ref tt]) := upd_same
      generalize upd Ga p (.tup [.int r.lo, .int r.hi, .ref tt]) = Gc at sA hp ⊢
      have flt := (rowsN r hm).2
      have lay1 : (PyData.tuple [.int r.lo, .int r.hi, .tuple (r.ts.map dV)]).canLay0 = true := by
        simp only [PyData.canLay0, PyData.canLayAll0, (flat_lay flt).1, Bool.and_self]
      have shp1 : SeqAt.shaped (PyData.tuple [.int r.lo, .int r.hi, .tuple (r.ts.map dV)]) = true := by
        unfold SeqAt.shaped
        have e2 : (PyData.tuple [.int r.lo, .int r.hi, .tuple (r.ts.map dV)]).depth = max 0 (max 0 (max (PyData.depthAll (r.ts.map dV) + 1) 0)) + 1 := rfl
        rw [lay1, e2, (flat_lay flt).2]
        rfl
      refine ⟨.tuple [.int r.lo, .int r.hi, .tuple (r.ts.map dV)], .tuple [.int r.lo, .int r.hi, .tuple (r.ts.map dV)], .tup (SqT.of (sA _ _ hq')) (.cons (.int _) (.cons (.int _) (.cons (.tup (SqT.of (sA _ _ ht')) (flat_dp flt)) .nil))),
        .tup (SqT.of hp) (.cons (.int _) (.cons (.int _) (.cons (.tup (SqT.of (sA _ _ (s9 _ _ ht))) (flat_dp flt)) .nil))), shp1, shp1, _, sA _ _ hD, ?_, same_put (s9.trans sA) nD2, ?_⟩
      · rw [List.length_map, List.length_replicate]; exact small1000 (by omega)
      · rw [upd_same, SeqAt.eqv_refl _ lay1, grow]
    rintro Ga ⟨s9, hD⟩
    refine ⟨D2, _, rfl, SqL.of hD, _, rfl, ?_⟩
    rw [alltrue]
    exact iteF ⟨_, _, _, _, rfl, o.same s9, trivial⟩
  clear o o7 o8 o9 o10 G0
  rintro σ1 G0 ⟨o7, o8, o9, o10, rfl, o, -⟩
  -- names that are no forms
  refine ⟨fun σ G => LP a b l A CS x Rw Nm txt s t la rs xs fs shs shd S1 S2 S3 Fa S4 (fun _ _ _ _ => True) σ G, ?_, ?_⟩
  · obtain ⟨z0, s', es⟩ : ∃ z0 s', s = z0 :: s' := by
      cases s with
      | nil => exact absurd D.ls.1 (by decide)
      | cons z0 s' => exact ⟨z0, s', rfl⟩
    obtain ⟨y0, l', el⟩ : ∃ y0 l', la = y0 :: l' := by
      cases la with
      | nil => exact absurd D.ll.1 (by decide)
      | cons y0 l' => exact ⟨y0, l', rfl⟩
    have hS1 := o.h1
    have hS3 := o.h3
    rw [es] at hS1
    rw [el] at hS3
    have notR : ∀ {y : Str}, (∀ z ∈ zs, z ≠ y) → ∀ r ∈ rs, r.n ≠ .str y := fun {y} h r hr e => by
      have : r.n ∈ rs.map FRow.n := List.mem_map.mpr ⟨r, hr, rfl⟩
      rw [D.nr, e] at this
      obtain ⟨z, hz, ez⟩ := List.mem_map.mp this
      injection ez with ez
      exact h z hz ez
    have inz : ∀ {z : Str}, z ∈ zs → z ∈ s ++ (t ++ (la ++ zs)) := fun h => List.mem_append.mpr (.inr (List.mem_append.mpr (.inr (List.mem_append.mpr (.inr h)))))
    have ndz := D.nd
    have n1 : ∀ z ∈ zs, z ≠ z0 := fun z hz e => by
      have := (List.nodup_append.mp ndz).2.2 z0 (by rw [es]; exact List.mem_cons_self) z (List.mem_append.mpr (.inr (List.mem_append.mpr (.inr hz))))
      exact this e.symm
    have n3 : ∀ z ∈ zs, z ≠ y0 := fun z hz e => by
      have h3 := (List.nodup_append.mp (List.nodup_append.mp (List.nodup_append.mp ndz).2.1).2.1).2.2 y0 (by rw [el]; exact List.mem_cons_self) z hz
      exact h3 e.symm
    refine ⟨_, rfl, A, _, rfl, DGet.k (k := Sum.inr "stuffs") o.hA, SqD.ix (.inl hS1) at0 ?_⟩
    refine ⟨_, rfl, A, _, rfl, DGet.k (k := Sum.inr "lands") o.hA, SqD.ix (.inl hS3) at0 ⟨by show 4 ≤ sizeLine; decide, fun Tl nTl => ?_⟩⟩
    have s7 := same_new (o := .lst [.str z0, .str "mix", .str z12, .str y0]) (Same.rfl' (H := G0)) nTl
    have hT7 : upd G0 Tl (.lst [.str z0, .str "mix", .str z12, .str y0]) Tl = some (.lst [.str z0, .str "mix", .str z12, .str y0]) := upd_same
    have fine : ∀ y ∈ [V.str z0, .str "mix", .str z12, .str y0], FlatSh y ∧ ∀ r ∈ rs, r.n ≠ y := fun y hy => by
      simp only [List.mem_cons, List.not_mem_nil, or_false] at hy
      rcases hy with rfl | rfl | rfl | rfl
      · exact ⟨flS _ (by rw [es]; exact List.mem_cons_self), notR n1⟩
      · exact ⟨flatw (by decide) (low_all (by decide +kernel)), notR fun z hz => mixN z (inz hz)⟩
      · exact ⟨flatw (by decide) (low_all (by decide +kernel)), notR fun z hz => far12 (by decide) z (inz hz)⟩
      · exact ⟨flL _ (by rw [el]; exact List.mem_cons_self), notR n3⟩
    generalize hl4 : [V.str z0, .str "mix", .str z12, .str y0] = l4 at hT7 fine s7 ⊢
    refine ⟨Tl, rfl, ⟨_, SqL.of hT7⟩, ?_⟩
    refine for_it (walk_list (K := K) (a := Tl) (xs := l4)) (fun i σ G => Same G0 G ∧ G Tl = some (.lst l4) ∧ ∃ o7, σ = [some (.ref a), some (.ref b), some (.ref A), some (.str txt), some (.ref x), some (.ref Rw), some (.ref Nm), o7, o8, o9, o10, none, none, none]) ⟨s7, hT7, _, rfl⟩ (fun i σ G _ h => SqL.of h.2.1) ?_ ?_
    · rintro i y σ2 Ga Gb hi ⟨s9, hT9, o7', rfl⟩ ⟨rfl, hy⟩
      obtain ⟨f1, f2⟩ := fine y (List.mem_of_getElem? hy)
      refine ⟨_, rfl, _, rfl, x, y, _, _, _, _, rfl, (o.same s9).st, f1, f2, fun Gc sc => ⟨_, rfl, ?_⟩⟩
      exact iteF ⟨s9.trans sc, sc _ _ hT9, _, rfl⟩
    · rintro σ2 Ga ⟨s9, _, o7', rfl⟩
      exact ⟨_, _, _, _, rfl, o.same s9, trivial⟩
  clear o o7 o8 o9 o10 G0
  rintro σ1 G0 ⟨o7, o8, o9, o10, rfl, o, -⟩
  -- forms that goods can have
  refine ⟨_, rfl, A, _, Fa, xs, rs, rfl, o.hA, rfl, o.hF, o.rows, D.rows, fun pk kvr G1 s1' hpk snd full => ?_⟩
  have o1 := o.same s1'
  clear o s1'
  have flU : ∀ y ∈ (rs.filter (useB rs)).map FRow.n, FlatSh y := fun y hy => by
    obtain ⟨r, hr', rfl⟩ := List.mem_map.mp hy
    exact (nmR r (List.mem_filter.mp hr').1).flat
  have useL : ∀ i : Nat, (((rs.take i).filter (useB rs)).map FRow.n).length ≤ 5 := fun i => by
    rw [List.length_map]
    have h1 := List.length_filter_le (useB rs) (rs.take i)
    rw [List.length_take] at h1
    omega
  refine ⟨fun σ G => LP a b l A CS x Rw Nm txt s t la rs xs fs shs shd S1 S2 S3 Fa S4 (fun _ _ _ _ => True) σ G, ?_, ?_⟩
  · obtain ⟨dx, a1, a2, a3, a4, a5, a6, a7, fs', kvs, g0, g1, g2, g3, g4, g5, g6, g7, g8, g9⟩ := o1.st.ex
    refine ⟨_, rfl, x, dx, _, rfl, g0, rfl, x, _, _, _, rs, rfl, o1.st, by omega, fun pu G2 s2 hpu => ?_⟩
    have o2 := o1.same s2
    have hpk2 := s2 _ _ hpk
    refine ⟨_, rfl, Rw, rfl, ⟨_, SqT.of o2.hR⟩, fun D2 nD2 => ?_⟩
    refine lc_it (walk_tup (K := K) (a := Rw) (xs := fs)) (fun i G => Same G2 G ∧ G D2 = some (.lst (((rs.take i).filter (useB rs)).map FRow.n))) ⟨same_new Same.rfl' nD2, upd_same⟩ (fun i G _ h => SqT.of (h.1 _ _ o2.hR)) ?_ ?_
    · rintro i y Gb Ga hi ⟨s9, hD⟩ ⟨rfl, hy⟩
      obtain ⟨r, q, tt, hr', rfl, hq, ht⟩ := o2.rt.nth hy
      have hm := List.mem_of_getElem? hr'
      obtain ⟨zr, er, nzr⟩ := nmR r hm
      have hq9 := s9 _ _ hq
      rw [er] at hq9
      refine ⟨rfl, ⟨_, rfl, q, _, 0, _, rfl, rfl, SqT.of hq9, atI_nat (j := 0) rfl, _, rfl, pk, _, rfl, DGet.k (k := Sum.inr zr) (s9 _ _ hpk2), _, rfl, ?_⟩⟩
      have tk : (valV kvr (Sum.inr zr)).isSome = useB rs r := by
        rw [← snd.told full r, er]
        rfl
      have ul := useL i
      rw [tk, List.take_add_one, hr']
      cases u : useB rs r with
      | false =>
        refine iteF ⟨s9, ?_⟩
        rw [List.filter_append, show (some r).toList = [r] from rfl, List.filter_cons_of_neg (by rw [u]; exact Bool.false_ne_true), List.filter_nil, List.append_nil]
        exact hD
      | true =>
        refine iteT ⟨_, rfl, q, _, 0, _, rfl, rfl, SqT.of hq9, atI_nat (j := 0) rfl, _, hD, small1000 (by omega), same_put s9 nD2, ?_⟩
        rw [upd_same, List.filter_append, show (some r).toList = [r] from rfl, List.filter_cons_of_pos u, List.filter_nil, List.map_append, List.map_cons, er]
        rfl
    rintro Ga ⟨s9, hD⟩
    rw [lfs, List.take_length] at hD
    refine ⟨D2, _, rfl, .inl ⟨SqL.of hD, fun u nu => ?_⟩⟩
    have s10 := same_new (o := .tup ((rs.filter (useB rs)).map FRow.n)) (Same.rfl' (H := Ga)) nu
    have hu9 : upd Ga u (.tup ((rs.filter (useB rs)).map FRow.n)) u = some (.tup ((rs.filter (useB rs)).map FRow.n)) := upd_same
    generalize upd Ga u (.tup ((rs.filter (useB rs)).map FRow.n)) = Gc at s10 hu9 ⊢
    refine ⟨_, _, tupN (s10 _ _ (s9 _ _ hpu)) flU, tupN hu9 flU, txt_shaped flU, txt_shaped flU, _, rfl, ?_⟩
    rw [same2 (layT flU)]
    exact iteF ⟨_, _, _, _, rfl, o2.same (s9.trans s10), trivial⟩
  clear o1 o7 o8 o9 o10 G0 hpk snd full kvr
  rintro σ1 G0 ⟨o7, o8, o9, o10, rfl, o, -⟩
  -- the same stock once more
  refine ⟨fun σ G => LP a b l A CS x Rw Nm txt s t la rs xs fs shs shd S1 S2 S3 Fa S4 (fun _ o9 _ G => ∃ y, o9 = some (.ref y) ∧ StkF G CS y (s.map V.str) (t.map V.str) (la.map V.str) rs) σ G, ?_, ?_⟩
  · refine ⟨_, rfl, A, _, rfl, DGet.k (k := Sum.inr "stuffs") o.hA, S1, _, rfl, .inl ⟨SqL.of o.h1, fun u1 nu1 => ?_⟩⟩
    have s1' := same_new (o := .tup (s.map V.str)) (Same.rfl' (H := G0)) nu1
    have e1 : upd G0 u1 (.tup (s.map V.str)) u1 = some (.tup (s.map V.str)) := upd_same
    generalize upd G0 u1 (.tup (s.map V.str)) = G1 at s1' e1 ⊢
    have o1 := o.same s1'
    refine ⟨_, rfl, A, _, rfl, DGet.k (k := Sum.inr "states") o1.hA, S2, _, rfl, .inl (SqL.of o1.h2), fun u2 nu2 => ?_⟩
    have s2' := same_new (o := .lst (t.map V.str)) (Same.rfl' (H := G1)) nu2
    have e2 : upd G1 u2 (.lst (t.map V.str)) u2 = some (.lst (t.map V.str)) := upd_same
    generalize upd G1 u2 (.lst (t.map V.str)) = G2 at s2' e2 ⊢
    have o2 := o1.same s2'
    refine ⟨_, rfl, A, _, rfl, DGet.k (k := Sum.inr "lands") o2.hA, S3, _, rfl, .inl ⟨SqL.of o2.h3, fun u3 nu3 => ?_⟩⟩
    have s3' := same_new (o := .tup (la.map V.str)) (Same.rfl' (H := G2)) nu3
    have e3 : upd G2 u3 (.tup (la.map V.str)) u3 = some (.tup (la.map V.str)) := upd_same
    generalize upd G2 u3 (.tup (la.map V.str)) = G3 at s3' e3 ⊢
    have o3 := o2.same s3'
    refine ⟨_, rfl, Rw, rfl, ⟨_, SqT.of o3.hR⟩, fun D2 nD2 => ?_⟩
    refine lc_it (walk_tup (K := K) (a := Rw) (xs := fs)) (fun i G => Same G3 G ∧ ∃ vs, G D2 = some (.lst vs) ∧ RowsV (wo D2 D2 G) vs (rs.take i)) ⟨same_new Same.rfl' nD2, [], upd_same, .nil⟩ (fun i G _ h => SqT.of (h.1 _ _ o3.hR)) ?_ ?_
    · rintro i y Gb Ga hi ⟨s9, vs, hD, rv⟩ ⟨rfl, hy⟩
      obtain ⟨r, q, tt, hr', rfl, hq, ht⟩ := o3.rt.nth hy
      have lv := rv.len
      rw [List.length_take] at lv
      refine ⟨rfl, yesT ⟨_, rfl, q, _, rfl, .inr (SqT.of (s9 _ _ hq)), fun W nW => ?_⟩⟩
      have sW := same_new (o := .lst [r.n, .int r.lo, .int r.hi, .ref tt]) (Same.rfl' (H := Ga)) nW
      have hW : upd Ga W (.lst [r.n, .int r.lo, .int r.hi, .ref tt]) W = some (.lst [r.n, .int r.lo, .int r.hi, .ref tt]) := upd_same
      have WD : W ≠ D2 := Ne.symm (ne_of_none hD nW)
      generalize upd Ga W (.lst [r.n, .int r.lo, .int r.hi, .ref tt]) = Gc at sW hW ⊢
      refine ⟨vs, sW _ _ hD, small1000 (by omega), same_put (s9.trans sW) nD2, vs ++ [.ref W], upd_same, ?_⟩
      have et : rs.take (i + 1) = rs.take i ++ [r] := by rw [List.take_add_one, hr']; rfl
      rw [et]
      have tD : tt ≠ D2 := ne_of (s9 _ _ ht) hD (by intro z; cases z)
      exact RowsV.snoc ⟨W, tt, rfl, .inl (wo_get ((upd_ne WD).trans hW) WD WD), .inr (wo_get ((upd_ne tD).trans (sW _ _ (s9 _ _ ht))) tD tD)⟩ (rv.sq (wo_to fun c u n1 _ e _ => ⟨n1, by rw [upd_ne n1]; exact sW _ _ e⟩))
    rintro Ga ⟨s9, vs, hD, rv⟩
    rw [lfs, List.take_length] at rv
    have rv' : RowsV Ga vs rs := rv.sq (wo_out fun c u _ _ e _ => e)
    intro y dy ny ndy ney
    obtain ⟨ds, rds, al⟩ := rv'.right D.rowsR
    have oa := o3.same s9
    exact mk_stock D ⟨u1, rfl, .inr (s9 _ _ (s3' _ _ (s2' _ _ e1)))⟩ ⟨u2, rfl, .inl (s9 _ _ (s3' _ _ e2))⟩ ⟨u3, rfl, .inr (s9 _ _ e3)⟩ ⟨D2, rfl, hD⟩ (.lst hD rds) (fun e1 l1 e2 l2 e3 l3 => D.partsR (by rw [← rds.length, rv'.len]) al e1 l1 e2 l2 e3 l3) rv' ny ndy ney
      (fun H' s5 st => ⟨rfl, _, _, _, _, rfl, oa.same s5, y, rfl, st⟩)
  clear o o7 o8 o9 o10 G0
  rintro σ1 G0 ⟨o7, o8, o9, o10, rfl, o, y, rfl, sty⟩
  have eqTrue : eqSt (s.map V.str) (t.map V.str) (la.map V.str) rs (s.map V.str) (t.map V.str) (la.map V.str) rs = true := by
    unfold eqSt
    have rl : (rowsD rs).canLay0 = true := by
      simp only [rowsD, PyData.canLay0]
      exact (rows_lay rowsN).1
    rw [SeqAt.eqv_refl _ (layT flS), SeqAt.eqv_refl _ (layT flT), SeqAt.eqv_refl _ (layT flL), SeqAt.eqv_refl _ rl]
    rfl
  have drawn : ∀ {G : Hp}, LS b l A CS x Rw Nm s t la rs xs fs shs shd S1 S2 S3 Fa S4 G → Drawn G A s t la zs rs := fun o => ⟨⟨S1, S2, S3, Fa, S4, xs, shs, shd, o.hA, o.h1, o.h2, o.h3, o.hF, o.rows, o.h4, o.r4, shok⟩, D, short, few, tsl⟩
  -- equal to the same, to no other one, to no tuple
  refine ⟨fun σ G => LP a b l A CS x Rw Nm txt s t la rs xs fs shs shd S1 S2 S3 Fa S4 (fun _ o9 _ G => ∃ y, o9 = some (.ref y) ∧ StkF G CS y (s.map V.str) (t.map V.str) (la.map V.str) rs) σ G, ?_, ?_⟩
  · obtain ⟨dx, a1, a2, a3, a4, a5, a6, a7, fs', kvs, g0, _⟩ := o.st.ex
    obtain ⟨dy, b1, b2, b3, b4, b5, b6, b7, fs'', kvs', y0, _⟩ := sty.ex
    refine ⟨_, rfl, _, rfl, x, dx, _, y, rfl, rfl, g0, .inl ⟨dy, _, y0⟩, x, y, _, _, _, _, rfl, o.st, .inl ⟨_, _, _, _, sty, _, rfl, ?_⟩⟩
    rw [eqTrue]
    refine iteF ?_
    refine ⟨_, rfl, _, rfl, _, rfl, b, l, A, s, t, la, zs, rs, rfl, o.B, o.Ab, drawn o, fun w' s2 t2 l2 rs2 G1 d1 stw dif => ?_⟩
    have o1 := o.dr d1
    have sty1 := sty.dr o.B d1.but
    obtain ⟨dx', a1', a2', a3', a4', a5', a6', a7', fs3, kvs3, g0', _⟩ := o1.st.ex
    obtain ⟨dw', c1, c2, c3, c4, c5, c6, c7, fs4, kvs4, w0, _⟩ := stw.ex
    refine ⟨x, dx', _, w', rfl, rfl, g0', .inl ⟨dw', _, w0⟩, x, w', _, _, _, _, rfl, o1.st, .inl ⟨_, _, _, _, stw, _, rfl, ?_⟩⟩
    rw [dif]
    refine iteF ⟨_, rfl, _, rfl, x, dx', _, Rw, rfl, rfl, g0', .inr ⟨fs, SqT.of o1.hR⟩, x, Rw, _, _, _, _, rfl, o1.st, .inr ⟨⟨fs, o1.hR⟩, _, rfl, ?_⟩⟩
    exact iteF ⟨_, _, _, _, rfl, o1, y, rfl, sty1⟩
  clear o o7 o8 o10 sty y G0
  rintro σ1 G0 ⟨o7, o8, o9, o10, rfl, o, y, rfl, sty⟩
  have flU2 : ∀ y ∈ (rs.filter (useB rs)).map FRow.n, FlatSh y := fun y hy => by
    obtain ⟨r, hr', rfl⟩ := List.mem_map.mp hy
    exact (nmR r (List.mem_filter.mp hr').1).flat
  refine ⟨fun σ G => LP a b l A CS x Rw Nm txt s t la rs xs fs shs shd S1 S2 S3 Fa S4 (fun _ _ _ _ => True) σ G, ?_, ?_⟩
  · obtain ⟨dy, b1, b2, b3, b4, b5, b6, b7, fs'', kvs', y0, _⟩ := sty.ex
    refine ⟨_, rfl, y, dy, _, rfl, y0, rfl, y, _, _, _, rs, rfl, sty, by omega, fun p1 G1 s1' h1' => ?_⟩
    have o1 := o.same s1'
    obtain ⟨dx, a1, a2, a3, a4, a5, a6, a7, fs', kvs, g0, _⟩ := o1.st.ex
    refine ⟨_, rfl, x, dx, _, rfl, g0, rfl, x, _, _, _, rs, rfl, o1.st, by omega, fun p2 G2 s2' h2' => ?_⟩
    refine ⟨_, _, tupN (s2' _ _ h1') flU2, tupN h2' flU2, txt_shaped flU2, txt_shaped flU2, _, rfl, ?_⟩
    rw [same2 (layT flU2)]
    have o2 := o1.same s2'
    refine iteF ⟨_, rfl, Nm, rfl, ⟨_, SqL.of o2.hN⟩, fun D2 nD2 => ?_⟩
    refine lc_it (walk_list (K := K) (a := Nm) (xs := allNames (s.map V.str) (t.map V.str) (la.map V.str) rs)) (fun i G => Same G2 G ∧ G D2 = some (.lst ((List.replicate i true).map V.bl))) ⟨same_new Same.rfl' nD2, upd_same⟩ (fun i G _ h => SqL.of (h.1 _ _ o2.hN)) ?_ ?_
    · rintro i yy Gb Ga hi ⟨s9, hD⟩ ⟨rfl, hy⟩
      have hm : yy ∈ allNames (s.map V.str) (t.map V.str) (la.map V.str) rs := List.mem_of_getElem? hy
      have i20 : i < 20 := Nat.lt_of_lt_of_le hi lA
      obtain ⟨zy, rfl, nzy, szy⟩ := o.st.nm yy hm
      refine ⟨rfl, yesT ⟨_, rfl, .str zy, .str zy, rfl, .str zy szy, fun Gc sc => ⟨_, sc _ _ hD, ?_, same_put (s9.trans sc) nD2, ?_⟩⟩⟩
      · rw [List.length_map, List.length_replicate]; exact small1000 (by omega)
      · rw [upd_same, show nmD (.str zy) = true from nzy, grow]
    rintro Ga ⟨s9, hD⟩
    refine ⟨D2, _, rfl, SqL.of hD, _, rfl, ?_⟩
    rw [alltrue]
    exact iteF ⟨_, _, _, _, rfl, o2.same s9, trivial⟩
  clear o o7 o8 o10 sty y G0
  rintro σ1 G0 ⟨o7, o8, o9, o10, rfl, o, -⟩
  -- no names
  refine ⟨_, rfl, b, l, rfl, o.B, fun v d G1 d1 ov => ?_⟩
  have o1 := o.dr d1
  clear o G0 d1
  have resN : ∀ z ∈ reserved, nmS z = false ∧ Sh z := by
    have h : ∀ z ∈ reserved, nmS z = false ∧ z.length ≤ 1000 ∧ PyData.strOk z = true := by decide +kernel
    exact fun z hz => ⟨(h z hz).1, (h z hz).2.1, (h z hz).2.2⟩
  have lres : resV.length = 18 := by decide +kernel
  refine ⟨fun σ G => LP a b l A CS x Rw Nm txt s t la rs xs fs shs shd S1 S2 S3 Fa S4 (fun _ _ _ _ => True) σ G, ?_, ?_⟩
  · refine ⟨_, rfl, v, d, rfl, ov.rp, fun G2 s2' => ⟨_, rfl, ?_⟩⟩
    rw [ov.no]
    have o2 := o1.same s2'
    refine iteF ⟨aR, rfl, ⟨resV, sR G2⟩, fun D2 nD2 => ?_⟩
    refine lc_it (walk_tup (K := K) (a := aR) (xs := resV)) (fun i G => Same G2 G ∧ G D2 = some (.lst ((List.replicate i false).map V.bl))) ⟨same_new Same.rfl' nD2, upd_same⟩ (fun i G _ h => sR G) ?_ ?_
    · rintro i yy Gb Ga hi ⟨s9, hD⟩ ⟨rfl, hy⟩
      have hm : yy ∈ resV := List.mem_of_getElem? hy
      have i18 : i < 18 := Nat.lt_of_lt_of_eq hi lres
      obtain ⟨zy, hz, rfl⟩ := List.mem_map.mp hm
      obtain ⟨nz, sz⟩ := resN zy hz
      refine ⟨rfl, yesT ⟨_, rfl, .str zy, .str zy, rfl, .str zy sz, fun Gc sc => ⟨_, sc _ _ hD, ?_, same_put (s9.trans sc) nD2, ?_⟩⟩⟩
      · rw [List.length_map, List.length_replicate]; exact small1000 (by omega)
      · rw [upd_same, show nmD (.str zy) = false from nz, List.replicate_succ', List.map_append]
        rfl
    rintro Ga ⟨s9, hD⟩
    refine ⟨D2, _, rfl, SqL.of hD, _, rfl, ?_⟩
    have nany : ∀ n : Nat, (List.replicate n false).any id = false := fun n => List.any_eq_false.mpr fun c hc => by rw [(List.mem_replicate.mp hc).2]; exact Bool.false_ne_true
    rw [nany]
    refine iteF ⟨.ref aR, 18, rfl, .inr ⟨resV, sR Ga, lres⟩, rfl, _, rfl, ?_⟩
    exact iteF ⟨_, _, _, _, rfl, o2.same s9, trivial⟩
  clear o1 o7 o8 o9 o10 G1 ov v d
  rintro σ1 G0 ⟨o7, o8, o9, o10, rfl, o, -⟩
  refine ⟨_, rfl, _, rfl, b, l, A, s, t, la, zs, rs, rfl, o.B, o.Ab, drawn o, fun G1 d1 => ⟨_, rfl, iteT ?_⟩⟩
  have o1 := o.dr d1
  refine ⟨_, rfl, _, rfl, b, l, A, s, t, la, zs, rs, rfl, o1.B, o1.Ab, drawn o1, fun G2 d2 => ⟨_, rfl, iteT ?_⟩⟩
  have o2 := o1.dr d2
  have dr2 := data o2.h1 o2.h2 o2.h3 o2.hF o2.rows o2.h4 o2.r4
  refine ⟨_, rfl, A, drK S1 S2 Fa S3 S4, drD s t la rs shd, rfl, o2.hA, dr2.dp, t1, t2, dr2.lay, t3, t4, fun G3 s3' => ?_⟩
  rw [htxt]
  refine ⟨_, rfl, rfl, ?_⟩
  rw [show decide (V.str txt = V.str txt) = true from decide_eq_true rfl]
  exact k G3
end
end K02

/-! k02, the law, part w: all defs together. -/
namespace K02
open PySem L2 PySem.Spec PyProof.Rows
/-- all defs of the text, as they stand behind the top -/
structure Defs (K : PySem.W.Frag) (mg : Str → Option Value) : Prop where
  disnumber : ∃ f fd, Df K mg "is_number" sIsNum ["thing"] f fd
  dislist : ∃ f fd, Df K mg "is_list" sIsList ["thing"] f fd
  dislisting : ∃ f fd, Df K mg "is_listing" sIsListing ["thing", "least", "most"] f fd
  disname : ∃ f fd, Df K mg "is_name" sIsName ["thing"] f fd
  disformrow : ∃ f fd, Df K mg "is_form_row" sIsRow ["row"] f fd
  dcheckparts : ∃ f fd, Df K mg "check_parts" sCheckParts ["stuffs", "states", "lands", "forms"] f fd
  dchecknames : ∃ f fd, Df K mg "check_names" sCheckNames ["names"] f fd
  dchecktakes : ∃ f fd, Df K mg "check_takes" sCheckTakes ["forms"] f fd
  dLbag : ∃ f fd, Df K mg "_law_bag" sBag ["_law_script"] f fd
  dLpick : ∃ f fd, Df K mg "_law_pick" sPick ["_law_bag_here", "_law_many"] f fd
  dLchoice : ∃ f fd, Df K mg "_law_choice" sChoice ["_law_bag_here", "_law_things"] f fd
  dLonein : ∃ f fd, Df K mg "_law_one_in" sOneIn ["_law_bag_here", "_law_many"] f fd
  dLsome : ∃ f fd, Df K mg "_law_some" sSome ["_law_bag_here", "_law_things"] f fd
  dLshuffled : ∃ f fd, Df K mg "_law_shuffled" sShuf ["_law_bag_here", "_law_things"] f fd
  dLinteger : ∃ f fd, Df K mg "_law_integer" sInteger ["_law_thing"] f fd
  dLletters : ∃ f fd, Df K mg "_law_letters" sLetters ["_law_bag_here", "_law_many"] f fd
  dLapart : ∃ f fd, Df K mg "_law_apart" sApart ["_law_bag_here", "_law_many", "_law_signs", "_law_most", "_law_tail"] f fd
  dLnames : ∃ f fd, Df K mg "_law_names" sNames ["_law_bag_here", "_law_many"] f fd
  dLstock : ∃ f fd, Df K mg "_law_stock" sLStock ["_law_bag_here", "_law_most"] f fd
  dLstockof : ∃ f fd, Df K mg "_law_stock_of" sStockOf ["_law_stock_here"] f fd
  dLranks : ∃ f fd, Df K mg "_law_ranks" sRanks ["_law_stock_here"] f fd
  dLrightname : ∃ f fd, Df K mg "_law_right_name" sRName ["_law_thing"] f fd
  dLrightrow : ∃ f fd, Df K mg "_law_right_row" sRRow ["_law_row"] f fd
  dLdue : ∃ f fd, Df K mg "_law_due" sDue ["_law_told"] f fd
  dLmet : ∃ f fd, Df K mg "_law_met" sMet ["_law_told"] f fd
  dLoddname : ∃ f fd, Df K mg "_law_odd_name" sOdd ["_law_bag_here"] f fd
  dLspoil : ∃ f fd, Df K mg "_law_spoil" sSpoil ["_law_bag_here", "_law_told"] f fd
  dLspoilt : ∃ f fd, Df K mg "_law_spoilt" sSpoilt ["_law_bag_here", "_law_stock_here"] f fd
  dLtwofaults : ∃ f fd, Df K mg "_law_two_faults" sTwo ["_law_bag_here", "_law_stock_here"] f fd
  dLunknown : ∃ f fd, Df K mg "_law_unknown" sUnknown ["_law_over", "_law_thing"] f fd
  dLother : ∃ f fd, Df K mg "_law_other" sOther ["_law_bag_here", "_law_stock_here"] f fd
  dlaw : ∃ f fd, Df K mg "law" sLaw ["_law_script"] f fd
/-- the class of stocks with its methods -/
structure StockK (K : PySem.W.Frag) (mg : Str → Option Value) (CS : Addr) : Prop where
  gS : mg "Stock" = some (.ref CS)
  sc : StockC K CS
  si : StockI K CS
  makes : PySem.W.makesIn K CS = true
  kc : PySem.W.keepIn K (.ref CS) = true
  nolen : PySem.W.findIn K (.ref CS) "__len__" = some none
  nohint : PySem.W.findIn K (.ref CS) "__length_hint__" = some none
  msSInit : ∃ f fd, Meth K CS "__init__" f ∧ Fun K "__init__" "Stock.__init__" sSInit f fd ∧ Binds K fd ["self", "stuffs", "states", "lands", "forms"] []
  msSGet : ∃ f fd, Meth K CS "__getitem__" f ∧ Fun K "__getitem__" "Stock.__getitem__" sSGet f fd ∧ Binds K fd ["self", "at"] [] ∧ PySem.W.fnIn K f = true
  msSCont : ∃ f fd, Meth K CS "__contains__" f ∧ Fun K "__contains__" "Stock.__contains__" sSCont f fd ∧ Binds K fd ["self", "x"] []
  msSIter : ∃ f fd, Meth K CS "__iter__" f ∧ Fun K "__iter__" "Stock.__iter__" sSIter f fd ∧ Binds K fd ["self"] []
  msSEq : ∃ f fd, Meth K CS "__eq__" f ∧ Fun K "__eq__" "Stock.__eq__" sSEq f fd ∧ Binds K fd ["self", "other"] []
  msUsable : ∃ f fd, Meth K CS "usable" f ∧ Fun K "usable" "Stock.usable" sUsable f fd ∧ Binds K fd ["self"] []
/-- the texts of the errors -/
structure Txts (P : Program) (K : PySem.W.Frag) (mg : Str → Option Value) (CB CN CT CU : Addr) : Prop where
  tCB : ∃ f, K02X.ErrTxt P K mg CB f "BadStock" "BadStock.__init__" "part" "no such part of a stock: "
  tCN : ∃ f, K02R.ErrTxt P K mg CN f "BadName" "BadName.__init__" "name" "no name: "
  tCT : ∃ f, K02R.ErrTxt P K mg CT f "Twice" "Twice.__init__" "name" "the name has come already: "
  tCU : ∃ f, K02R.ErrTxt P K mg CU f "Unknown" "Unknown.__init__" "name" "not known: "
/-- all that the top leaves and the law leans on -/
structure LeftK (P : Program) (w : World) (K : PySem.W.Frag) (mg : Str → Option Value) : Prop where
  defs : Defs K mg
  nms : Nms mg
  nm2 : Nm2 mg
  glb : Glb K mg
  gls : GlbS mg
  top : (P.main.scope.names.lookup ("super" : Str)).isSome = false
  cls : ∃ CS CF CB CN CT CU, StockK K mg CS ∧ Ex5 K mg CF CB CN CT CU ∧ UnkIs K mg CF CN CU ∧ Txts P K mg CB CN CT CU
theorem all_of {P : Program} {w : World} {K : PySem.W.Frag} {mg : Str → Option Value} (L : LeftK P w K mg) {fa : Addr} (hfa : mg "law" = some (.ref fa)) (room : Room 10 callerA) : ∃ fd, Df K mg "law" sLaw ["_law_script"] fa fd ∧ ∀ base, AtTop P w K mg base fa fd "_law_script" (spLaw K) := by
  have D := L.defs
  have N := L.nms
  have N2 := L.nm2
  have G := L.glb
  obtain ⟨CS, CF, CB, CN, CT, CU, SK, ER, UI, TX⟩ := L.cls
  obtain ⟨fB, TB⟩ := TX.tCB
  obtain ⟨fN, TN⟩ := TX.tCN
  obtain ⟨fT, TT⟩ := TX.tCT
  obtain ⟨fU, TU⟩ := TX.tCU
  obtain ⟨fdisnumber, edisnumber, disnumber⟩ := D.disnumber
  obtain ⟨fdislist, edislist, dislist⟩ := D.dislist
  obtain ⟨fdislisting, edislisting, dislisting⟩ := D.dislisting
  obtain ⟨fdisname, edisname, disname⟩ := D.disname
  obtain ⟨fdisformrow, edisformrow, disformrow⟩ := D.disformrow
  obtain ⟨fdcheckparts, edcheckparts, dcheckparts⟩ := D.dcheckparts
  obtain ⟨fdchecknames, edchecknames, dchecknames⟩ := D.dchecknames
  obtain ⟨fdchecktakes, edchecktakes, dchecktakes⟩ := D.dchecktakes
  obtain ⟨fdLbag, edLbag, dLbag⟩ := D.dLbag
  obtain ⟨fdLpick, edLpick, dLpick⟩ := D.dLpick
  obtain ⟨fdLchoice, edLchoice, dLchoice⟩ := D.dLchoice
  obtain ⟨fdLonein, edLonein, dLonein⟩ := D.dLonein
  obtain ⟨fdLsome, edLsome, dLsome⟩ := D.dLsome
  obtain ⟨fdLshuffled, edLshuffled, dLshuffled⟩ := D.dLshuffled
  obtain ⟨fdLinteger, edLinteger, dLinteger⟩ := D.dLinteger
  obtain ⟨fdLletters, edLletters, dLletters⟩ := D.dLletters
  obtain ⟨fdLapart, edLapart, dLapart⟩ := D.dLapart
  obtain ⟨fdLnames, edLnames, dLnames⟩ := D.dLnames
  obtain ⟨fdLstock, edLstock, dLstock⟩ := D.dLstock
  obtain ⟨fdLstockof, edLstockof, dLstockof⟩ := D.dLstockof
  obtain ⟨fdLranks, edLranks, dLranks⟩ := D.dLranks
  obtain ⟨fdLrightname, edLrightname, dLrightname⟩ := D.dLrightname
  obtain ⟨fdLrightrow, edLrightrow, dLrightrow⟩ := D.dLrightrow
  obtain ⟨fdLdue, edLdue, dLdue⟩ := D.dLdue
  obtain ⟨fdLmet, edLmet, dLmet⟩ := D.dLmet
  obtain ⟨fdLoddname, edLoddname, dLoddname⟩ := D.dLoddname
  obtain ⟨fdLspoil, edLspoil, dLspoil⟩ := D.dLspoil
  obtain ⟨fdLspoilt, edLspoilt, dLspoilt⟩ := D.dLspoilt
  obtain ⟨fdLtwofaults, edLtwofaults, dLtwofaults⟩ := D.dLtwofaults
  obtain ⟨fdLunknown, edLunknown, dLunknown⟩ := D.dLunknown
  obtain ⟨fdLother, edLother, dLother⟩ := D.dLother
  obtain ⟨fdlaw, edlaw, dlaw⟩ := D.dlaw
  obtain ⟨fsSInit, esSInit, MsSInit, FsSInit, bsSInit⟩ := SK.msSInit
  obtain ⟨fsSGet, esSGet, MsSGet, FsSGet, bsSGet, hfG⟩ := SK.msSGet
  obtain ⟨fsSCont, esSCont, MsSCont, FsSCont, bsSCont⟩ := SK.msSCont
  obtain ⟨fsSIter, esSIter, MsSIter, FsSIter, bsSIter⟩ := SK.msSIter
  obtain ⟨fsSEq, esSEq, MsSEq, FsSEq, bsSEq⟩ := SK.msSEq
  obtain ⟨fsUsable, esUsable, MsUsable, FsUsable, bsUsable⟩ := SK.msUsable
  have e := hfa.symm.trans dlaw.g
  cases e
  refine ⟨edlaw, dlaw, fun base => ?_⟩
  have Pick : FnOk P w K mg base CX0 1 fdLpick edLpick ["_law_bag_here", "_law_many"] spPick := ok_pick dLpick.F N.int N.len
  have OneIn : FnOk P w K mg base CX0 2 fdLonein edLonein _ spOneIn := ok_onein dLonein.F dLpick.F dLpick.b dLpick.g N
  have Choice : FnOk P w K mg base CX0 2 fdLchoice edLchoice _ (spChoice K) := ok_choice dLchoice.F dLpick.F dLpick.b dLpick.g N
  have Bag : FnOk P w K mg base CX0 1 fdLbag edLbag _ (spBag K) := ok_bag dLbag.F N
  have IsNum : FnOk P w K mg base CX0 1 fdisnumber edisnumber _ spNum := ok_isnum disnumber.F N
  have Integer : FnOk P w K mg base CX0 1 fdLinteger edLinteger _ spNum := ok_integer dLinteger.F N
  have Letters := ok_letters (P := P) (w := w) (base := base) dLletters.F N dLpick Pick
  have Some' := ok_some (P := P) (w := w) (base := base) dLsome.F N dLpick Pick
  have Shuf := ok_shuf (P := P) (w := w) (base := base) dLshuffled.F N dLpick Pick
  have Apart := ok_apart (P := P) (w := w) (base := base) dLapart.F N dLpick Pick
  have Names := ok_names (P := P) (w := w) (base := base) dLnames.F dLapart Apart
  have LStock := ok_lstock (P := P) (w := w) (base := base) dLstock.F N N2.sum dLpick Pick dLonein OneIn dLchoice Choice dLsome Some' dLshuffled Shuf dLnames Names
  have IsName : FnOk P w K mg base CX0 1 fdisname edisname _ (spTest nmD) := ok_isname disname.F N G
  have IsList : FnOk P w K mg base CX0 1 fdislist edislist _ (spTest dL) := ok_islist dislist.F N
  have IsListing := ok_islisting (P := P) (w := w) (base := base) dislisting.F N dislist IsList
  have IsRow := ok_isrow (P := P) (w := w) (base := base) disformrow.F N L.gls.parts dislisting IsListing disnumber IsNum dislist IsList
  have CheckParts := ok_checkparts (P := P) (w := w) (base := base) dcheckparts.F N L.gls L.top TB dislisting IsListing disformrow IsRow
  have CheckNames := ok_checknames (P := P) (w := w) (base := base) dchecknames.F N L.top TN TT disname IsName
  have CheckTakes := ok_checktakes (P := P) (w := w) (base := base) dchecktakes.F N L.top TU TT
  have Init : FnOk P w K mg base (L2.CX P w) 6 fsSInit esSInit ["self", "stuffs", "states", "lands", "forms"] (spSInit CS CB CN CT CU) := ok_sinit FsSInit N SK.sc dcheckparts CheckParts dchecknames CheckNames dchecktakes CheckTakes
  have Get : FnOk P w K mg base (L2.CX P w) 5 fsSGet esSGet ["self", "at"] (spSGet CS CU) := ok_sget FsSGet N SK.sc L.top TU
  have Cont : FnOk P w K mg base CX0 1 fsSCont esSCont ["self", "x"] (spSCont CS) := ok_scont FsSCont N SK.sc
  have Iter : FnOk P w K mg base CX0 1 fsSIter esSIter ["self"] (spSIter CS) := ok_siter FsSIter N2.iter SK.sc
  have Eq' : FnOk P w K mg base CX0 1 fsSEq esSEq ["self", "other"] (spSEq CS) := ok_seq FsSEq N SK.sc SK.si SK.gS
  have Usable : FnOk P w K mg base CX0 1 fsUsable esUsable ["self"] (spUsable CS) := ok_usable FsUsable N N2.any SK.sc
  have MT : Mk K CS fsSInit := ⟨SK.makes, MsSInit.at_, MsSInit.fn, SK.kc⟩
  have StockOf := ok_stockof (P := P) (w := w) (base := base) dLstockof.F N MT SK.gS bsSInit Init
  have RName : FnOk P w K mg base CX0 1 fdLrightname edLrightname _ (spTest nmD) := ok_rname dLrightname.F N
  have RRow : FnOk P w K mg base CX0 2 fdLrightrow edLrightrow _ (spTest rowD) := ok_rrow dLrightrow.F N dLinteger Integer
  have Due := ok_due (P := P) (w := w) (base := base) dLdue.F N dLrightrow RRow dLrightname RName
  have Met := ok_met (P := P) (w := w) (base := base) dLmet.F ER TB TN TT TU MT SK.gS bsSInit Init
  have Unk := ok_unknown (P := P) (w := w) (base := base) dLunknown.F N UI TU MsSGet hfG bsSGet Get
  have Ranks := ok_ranks (P := P) (w := w) (base := base) dLranks.F N N2.min
  have Odd := ok_odd (P := P) (w := w) (base := base) dLoddname.F dLpick Pick dLletters Letters dLchoice Choice
  have Spoil : ∀ n, n ≤ 50 → FnOk P w K mg base CX0 4 fdLspoil edLspoil ["_law_bag_here", "_law_told"] (spSpoil n) := fun n hn => ok_spoil hn dLspoil.F N dLpick Pick dLchoice Choice dLoddname Odd
  have Spoilt := ok_spoilt (P := P) (w := w) (base := base) dLspoilt.F N dLspoil Spoil dLdue Due dLmet Met
  have Two := ok_two (P := P) (w := w) (base := base) dLtwofaults.F N dLpick Pick dLchoice Choice dLoddname Odd dLdue Due dLmet Met
  have Other := ok_other (P := P) (w := w) (base := base) dLother.F N dLpick Pick MT SK.gS bsSInit Init
  exact ok_law dlaw.F N N2 G SK.sc SK.si SK.gS ⟨⟨_, _, dLbag, Bag⟩, ⟨_, _, dLstock, LStock⟩, ⟨_, _, dLstockof, StockOf⟩, ⟨_, _, dLunknown, Unk⟩, ⟨_, _, dLranks, Ranks⟩, ⟨_, _, dLother, Other⟩, ⟨_, _, dLoddname, Odd⟩, ⟨_, _, disname, IsName⟩, ⟨_, _, dLspoilt, Spoilt⟩, ⟨_, _, dLtwofaults, Two⟩,
    ⟨_, _, MT, bsSInit, Init⟩, ⟨_, _, MsSGet, hfG, bsSGet, Get⟩, ⟨_, _, MsSCont, bsSCont, Cont⟩, ⟨_, _, ⟨MsSIter.at_, MsSIter.fn, SK.nolen, SK.nohint⟩, bsSIter, Iter⟩, ⟨_, _, MsSEq, bsSEq, Eq'⟩, ⟨_, _, MsUsable, bsUsable, Usable⟩⟩ room
theorem fin_of {P : Program} {w : World} {K : PySem.W.Frag} {mg : Str → Option Value} {fa : Addr} (hfa : mg "law" = some (.ref fa)) (L : LeftK P w K mg) :
    ∃ fd : FuncData, (∀ (s : Shared) (u : Value), BindsTo s fd ⟨[u], []⟩ [("_law_script", u)]) ∧ ∀ base : Heap, K.In base → base.Ns mainGlobals mg → AtTop P w K mg base fa fd "_law_script" (spLaw K) := by
  obtain ⟨fd, D, G⟩ := all_of L hfa ⟨rfl, by decide, by decide⟩
  refine ⟨fd, fun s u => ?_, fun base _ _ => G base⟩
  obtain ⟨oc, od, kV, doc, pm, an, cdv, ct, osl, rfl, lk, hcd⟩ := D.F.ex
  exact .of_eq rfl
theorem walk {l : PySem.W.OpenLaw} {q : Program} {loose : List Str} {XP : (Str → Option Value) → Heap → Prop} {YP : World → Heap → Prop} {d : DefRec} {K : Params → PySem.W.Frag} (hn : l.most = some 63) (hdf : d.params.defaults = []) (hd : d.name = "law")
    (hY : ∀ (w : World) (h : Heap), YP w h → (K w.params).In h) (F : ∀ (w : World) (mg : Str → Option Value) (h : Heap), (K w.params).In h → h.Ns mainGlobals mg → LeftK l.prog w (K w.params) mg) :
    PySem.W.WalkO q loose XP YP l.row.toRowW d [] (fun f vs => PySem.call f vs) :=
  top_walk (n := 63) (x := "_law_script") (sp := fun w => spLaw (K w.params)) hn (by decide) hdf hY
    (fun w mg fa h KX G hmg => fin_of (by rw [← hd]; exact hmg) (F w mg h KX G)) fun _ _ a ns hl _ hS => ⟨a, ns, rfl, hS, hl, fun _ => rfl⟩
end K02

/-! k02, the law, part y: what the top has left, fact by fact. -/
namespace K02
open PySem L2 PySem.Spec PyProof.Rows
section
variable {K : PySem.W.Frag} {mg : Str → Option Value} {h : Heap} {f : Addr} {oc : Value} {od an : Option Addr} {osl : Array (Option Value)} {kV doc pm cdv ct : Value}
theorem df_of {name : Str} {st : Stmt} {ps : List Str} (X : K.In h) (G : h.Ns mainGlobals mg) (a : PySem.W.nsIn K mainGlobals name = some (some (.ref f)))
    (l : K.lookup f = some ⟨oc, od, .func (PySem.W.fnOf name name (defArgs st) (defBody st) (defScope st) .none kV doc pm an cdv ct), osl⟩) (c : PySem.W.codeIn K cdv name = true) (k : PySem.W.keepIn K (.ref f) = true)
    (hb : ∀ (kV doc pm : Value) (an : Option Addr) (cdv ct : Value) (us : List Value), us.length = ps.length → bindArgs (PySem.W.fnOf name name (defArgs st) (defBody st) (defScope st) .none kV doc pm an cdv ct) ⟨us, []⟩ = pure (ps.zip us)) : ∃ f fd, Df K mg name st ps f fd :=
  ⟨f, _, fun_mk l c k, (fun_mk l c k).binds hb, PySem.W.mg_of X G a⟩
theorem mkdisnumber (X : K.In h) (G : h.Ns mainGlobals mg) (a : PySem.W.nsIn K mainGlobals "is_number" = some (some (.ref f))) (l : K.lookup f = some ⟨oc, od, .func (PySem.W.fnOf "is_number" "is_number" (defArgs sIsNum) (defBody sIsNum) (defScope sIsNum) .none kV doc pm an cdv ct), osl⟩) (c : PySem.W.codeIn K cdv "is_number" = true) (k : PySem.W.keepIn K (.ref f) = true) : ∃ f fd, Df K mg "is_number" sIsNum ["thing"] f fd :=
  df_of X G a l c k fun _ _ _ _ _ _ us hl => match us, hl with | [_], _ => rfl
theorem mkdislist (X : K.In h) (G : h.Ns mainGlobals mg) (a : PySem.W.nsIn K mainGlobals "is_list" = some (some (.ref f))) (l : K.lookup f = some ⟨oc, od, .func (PySem.W.fnOf "is_list" "is_list" (defArgs sIsList) (defBody sIsList) (defScope sIsList) .none kV doc pm an cdv ct), osl⟩) (c : PySem.W.codeIn K cdv "is_list" = true) (k : PySem.W.keepIn K (.ref f) = true) : ∃ f fd, Df K mg "is_list" sIsList ["thing"] f fd :=
  df_of X G a l c k fun _ _ _ _ _ _ us hl => match us, hl with | [_], _ => rfl
theorem mkdislisting (X : K.In h) (G : h.Ns mainGlobals mg) (a : PySem.W.nsIn K mainGlobals "is_listing" = some (some (.ref f))) (l : K.lookup f = some ⟨oc, od, .func (PySem.W.fnOf "is_listing" "is_listing" (defArgs sIsListing) (defBody sIsListing) (defScope sIsListing) .none kV doc pm an cdv ct), osl⟩) (c : PySem.W.codeIn K cdv "is_listing" = true) (k : PySem.W.keepIn K (.ref f) = true) : ∃ f fd, Df K mg "is_listing" sIsListing ["thing", "least", "most"] f fd :=
  df_of X G a l c k fun _ _ _ _ _ _ us hl => match us, hl with | [_, _, _], _ => rfl
theorem mkdisname (X : K.In h) (G : h.Ns mainGlobals mg) (a : PySem.W.nsIn K mainGlobals "is_name" = some (some (.ref f))) (l : K.lookup f = some ⟨oc, od, .func (PySem.W.fnOf "is_name" "is_name" (defArgs sIsName) (defBody sIsName) (defScope sIsName) .none kV doc pm an cdv ct), osl⟩) (c : PySem.W.codeIn K cdv "is_name" = true) (k : PySem.W.keepIn K (.ref f) = true) : ∃ f fd, Df K mg "is_name" sIsName ["thing"] f fd :=
  df_of X G a l c k fun _ _ _ _ _ _ us hl => match us, hl with | [_], _ => rfl
theorem mkdisformrow (X : K.In h) (G : h.Ns mainGlobals mg) (a : PySem.W.nsIn K mainGlobals "is_form_row" = some (some (.ref f))) (l : K.lookup f = some ⟨oc, od, .func (PySem.W.fnOf "is_form_row" "is_form_row" (defArgs sIsRow) (defBody sIsRow) (defScope sIsRow) .none kV doc pm an cdv ct), osl⟩) (c : PySem.W.codeIn K cdv "is_form_row" = true) (k : PySem.W.keepIn K (.ref f) = true) : ∃ f fd, Df K mg "is_form_row" sIsRow ["row"] f fd :=
  df_of X G a l c k fun _ _ _ _ _ _ us hl => match us, hl with | [_], _ => rfl
theorem mkdcheckparts (X : K.In h) (G : h.Ns mainGlobals mg) (a : PySem.W.nsIn K mainGlobals "check_parts" = some (some (.ref f))) (l : K.lookup f = some ⟨oc, od, .func (PySem.W.fnOf "check_parts" "check_parts" (defArgs sCheckParts) (defBody sCheckParts) (defScope sCheckParts) .none kV doc pm an cdv ct), osl⟩) (c : PySem.W.codeIn K cdv "check_parts" = true) (k : PySem.W.keepIn K (.ref f) = true) : ∃ f fd, Df K mg "check_parts" sCheckParts ["stuffs", "states", "lands", "forms"] f fd :=
  df_of X G a l c k fun _ _ _ _ _ _ us hl => match us, hl with | [_, _, _, _], _ => rfl
theorem mkdchecknames (X : K.In h) (G : h.Ns mainGlobals mg) (a : PySem.W.nsIn K mainGlobals "check_names" = some (some (.ref f))) (l : K.lookup f = some ⟨oc, od, .func (PySem.W.fnOf "check_names" "check_names" (defArgs sCheckNames) (defBody sCheckNames) (defScope sCheckNames) .none kV doc pm an cdv ct), osl⟩) (c : PySem.W.codeIn K cdv "check_names" = true) (k : PySem.W.keepIn K (.ref f) = true) : ∃ f fd, Df K mg "check_names" sCheckNames ["names"] f fd :=
  df_of X G a l c k fun _ _ _ _ _ _ us hl => match us, hl with | [_], _ => rfl
theorem mkdchecktakes (X : K.In h) (G : h.Ns mainGlobals mg) (a : PySem.W.nsIn K mainGlobals "check_takes" = some (some (.ref f))) (l : K.lookup f = some ⟨oc, od, .func (PySem.W.fnOf "check_takes" "check_takes" (defArgs sCheckTakes) (defBody sCheckTakes) (defScope sCheckTakes) .none kV doc pm an cdv ct), osl⟩) (c : PySem.W.codeIn K cdv "check_takes" = true) (k : PySem.W.keepIn K (.ref f) = true) : ∃ f fd, Df K mg "check_takes" sCheckTakes ["forms"] f fd :=
  df_of X G a l c k fun _ _ _ _ _ _ us hl => match us, hl with | [_], _ => rfl
theorem mkdLbag (X : K.In h) (G : h.Ns mainGlobals mg) (a : PySem.W.nsIn K mainGlobals "_law_bag" = some (some (.ref f))) (l : K.lookup f = some ⟨oc, od, .func (PySem.W.fnOf "_law_bag" "_law_bag" (defArgs sBag) (defBody sBag) (defScope sBag) .none kV doc pm an cdv ct), osl⟩) (c : PySem.W.codeIn K cdv "_law_bag" = true) (k : PySem.W.keepIn K (.ref f) = true) : ∃ f fd, Df K mg "_law_bag" sBag ["_law_script"] f fd :=
  df_of X G a l c k fun _ _ _ _ _ _ us hl => match us, hl with | [_], _ => rfl
theorem mkdLpick (X : K.In h) (G : h.Ns mainGlobals mg) (a : PySem.W.nsIn K mainGlobals "_law_pick" = some (some (.ref f))) (l : K.lookup f = some ⟨oc, od, .func (PySem.W.fnOf "_law_pick" "_law_pick" (defArgs sPick) (defBody sPick) (defScope sPick) .none kV doc pm an cdv ct), osl⟩) (c : PySem.W.codeIn K cdv "_law_pick" = true) (k : PySem.W.keepIn K (.ref f) = true) : ∃ f fd, Df K mg "_law_pick" sPick ["_law_bag_here", "_law_many"] f fd :=
  df_of X G a l c k fun _ _ _ _ _ _ us hl => match us, hl with | [_, _], _ => rfl
theorem mkdLchoice (X : K.In h) (G : h.Ns mainGlobals mg) (a : PySem.W.nsIn K mainGlobals "_law_choice" = some (some (.ref f))) (l : K.lookup f = some ⟨oc, od, .func (PySem.W.fnOf "_law_choice" "_law_choice" (defArgs sChoice) (defBody sChoice) (defScope sChoice) .none kV doc pm an cdv ct), osl⟩) (c : PySem.W.codeIn K cdv "_law_choice" = true) (k : PySem.W.keepIn K (.ref f) = true) : ∃ f fd, Df K mg "_law_choice" sChoice ["_law_bag_here", "_law_things"] f fd :=
  df_of X G a l c k fun _ _ _ _ _ _ us hl => match us, hl with | [_, _], _ => rfl
theorem mkdLonein (X : K.In h) (G : h.Ns mainGlobals mg) (a : PySem.W.nsIn K mainGlobals "_law_one_in" = some (some (.ref f))) (l : K.lookup f = some ⟨oc, od, .func (PySem.W.fnOf "_law_one_in" "_law_one_in" (defArgs sOneIn) (defBody sOneIn) (defScope sOneIn) .none kV doc pm an cdv ct), osl⟩) (c : PySem.W.codeIn K cdv "_law_one_in" = true) (k : PySem.W.keepIn K (.ref f) = true) : ∃ f fd, Df K mg "_law_one_in" sOneIn ["_law_bag_here", "_law_many"] f fd :=
  df_of X G a l c k fun _ _ _ _ _ _ us hl => match us, hl with | [_, _], _ => rfl
theorem mkdLsome (X : K.In h) (G : h.Ns mainGlobals mg) (a : PySem.W.nsIn K mainGlobals "_law_some" = some (some (.ref f))) (l : K.lookup f = some ⟨oc, od, .func (PySem.W.fnOf "_law_some" "_law_some" (defArgs sSome) (defBody sSome) (defScope sSome) .none kV doc pm an cdv ct), osl⟩) (c : PySem.W.codeIn K cdv "_law_some" = true) (k : PySem.W.keepIn K (.ref f) = true) : ∃ f fd, Df K mg "_law_some" sSome ["_law_bag_here", "_law_things"] f fd :=
  df_of X G a l c k fun _ _ _ _ _ _ us hl => match us, hl with | [_, _], _ => rfl
theorem mkdLshuffled (X : K.In h) (G : h.Ns mainGlobals mg) (a : PySem.W.nsIn K mainGlobals "_law_shuffled" = some (some (.ref f))) (l : K.lookup f = some ⟨oc, od, .func (PySem.W.fnOf "_law_shuffled" "_law_shuffled" (defArgs sShuf) (defBody sShuf) (defScope sShuf) .none kV doc pm an cdv ct), osl⟩) (c : PySem.W.codeIn K cdv "_law_shuffled" = true) (k : PySem.W.keepIn K (.ref f) = true) : ∃ f fd, Df K mg "_law_shuffled" sShuf ["_law_bag_here", "_law_things"] f fd :=
  df_of X G a l c k fun _ _ _ _ _ _ us hl => match us, hl with | [_, _], _ => rfl
theorem mkdLinteger (X : K.In h) (G : h.Ns mainGlobals mg) (a : PySem.W.nsIn K mainGlobals "_law_integer" = some (some (.ref f))) (l : K.lookup f = some ⟨oc, od, .func (PySem.W.fnOf "_law_integer" "_law_integer" (defArgs sInteger) (defBody sInteger) (defScope sInteger) .none kV doc pm an cdv ct), osl⟩) (c : PySem.W.codeIn K cdv "_law_integer" = true) (k : PySem.W.keepIn K (.ref f) = true) : ∃ f fd, Df K mg "_law_integer" sInteger ["_law_thing"] f fd :=
  df_of X G a l c k fun _ _ _ _ _ _ us hl => match us, hl with | [_], _ => rfl
theorem mkdLletters (X : K.In h) (G : h.Ns mainGlobals mg) (a : PySem.W.nsIn K mainGlobals "_law_letters" = some (some (.ref f))) (l : K.lookup f = some ⟨oc, od, .func (PySem.W.fnOf "_law_letters" "_law_letters" (defArgs sLetters) (defBody sLetters) (defScope sLetters) .none kV doc pm an cdv ct), osl⟩) (c : PySem.W.codeIn K cdv "_law_letters" = true) (k : PySem.W.keepIn K (.ref f) = true) : ∃ f fd, Df K mg "_law_letters" sLetters ["_law_bag_here", "_law_many"] f fd :=
  df_of X G a l c k fun _ _ _ _ _ _ us hl => match us, hl with | [_, _], _ => rfl
theorem mkdLapart (X : K.In h) (G : h.Ns mainGlobals mg) (a : PySem.W.nsIn K mainGlobals "_law_apart" = some (some (.ref f))) (l : K.lookup f = some ⟨oc, od, .func (PySem.W.fnOf "_law_apart" "_law_apart" (defArgs sApart) (defBody sApart) (defScope sApart) .none kV doc pm an cdv ct), osl⟩) (c : PySem.W.codeIn K cdv "_law_apart" = true) (k : PySem.W.keepIn K (.ref f) = true) : ∃ f fd, Df K mg "_law_apart" sApart ["_law_bag_here", "_law_many", "_law_signs", "_law_most", "_law_tail"] f fd :=
  df_of X G a l c k fun _ _ _ _ _ _ us hl => match us, hl with | [_, _, _, _, _], _ => rfl
theorem mkdLnames (X : K.In h) (G : h.Ns mainGlobals mg) (a : PySem.W.nsIn K mainGlobals "_law_names" = some (some (.ref f))) (l : K.lookup f = some ⟨oc, od, .func (PySem.W.fnOf "_law_names" "_law_names" (defArgs sNames) (defBody sNames) (defScope sNames) .none kV doc pm an cdv ct), osl⟩) (c : PySem.W.codeIn K cdv "_law_names" = true) (k : PySem.W.keepIn K (.ref f) = true) : ∃ f fd, Df K mg "_law_names" sNames ["_law_bag_here", "_law_many"] f fd :=
  df_of X G a l c k fun _ _ _ _ _ _ us hl => match us, hl with | [_, _], _ => rfl
theorem mkdLstock (X : K.In h) (G : h.Ns mainGlobals mg) (a : PySem.W.nsIn K mainGlobals "_law_stock" = some (some (.ref f))) (l : K.lookup f = some ⟨oc, od, .func (PySem.W.fnOf "_law_stock" "_law_stock" (defArgs sLStock) (defBody sLStock) (defScope sLStock) .none kV doc pm an cdv ct), osl⟩) (c : PySem.W.codeIn K cdv "_law_stock" = true) (k : PySem.W.keepIn K (.ref f) = true) : ∃ f fd, Df K mg "_law_stock" sLStock ["_law_bag_here", "_law_most"] f fd :=
  df_of X G a l c k fun _ _ _ _ _ _ us hl => match us, hl with | [_, _], _ => rfl
theorem mkdLstockof (X : K.In h) (G : h.Ns mainGlobals mg) (a : PySem.W.nsIn K mainGlobals "_law_stock_of" = some (some (.ref f))) (l : K.lookup f = some ⟨oc, od, .func (PySem.W.fnOf "_law_stock_of" "_law_stock_of" (defArgs sStockOf) (defBody sStockOf) (defScope sStockOf) .none kV doc pm an cdv ct), osl⟩) (c : PySem.W.codeIn K cdv "_law_stock_of" = true) (k : PySem.W.keepIn K (.ref f) = true) : ∃ f fd, Df K mg "_law_stock_of" sStockOf ["_law_stock_here"] f fd :=
  df_of X G a l c k fun _ _ _ _ _ _ us hl => match us, hl with | [_], _ => rfl
theorem mkdLranks (X : K.In h) (G : h.Ns mainGlobals mg) (a : PySem.W.nsIn K mainGlobals "_law_ranks" = some (some (.ref f))) (l : K.lookup f = some ⟨oc, od, .func (PySem.W.fnOf "_law_ranks" "_law_ranks" (defArgs sRanks) (defBody sRanks) (defScope sRanks) .none kV doc pm an cdv ct), osl⟩) (c : PySem.W.codeIn K cdv "_law_ranks" = true) (k : PySem.W.keepIn K (.ref f) = true) : ∃ f fd, Df K mg "_law_ranks" sRanks ["_law_stock_here"] f fd :=
  df_of X G a l c k fun _ _ _ _ _ _ us hl => match us, hl with | [_], _ => rfl
theorem mkdLrightname (X : K.In h) (G : h.Ns mainGlobals mg) (a : PySem.W.nsIn K mainGlobals "_law_right_name" = some (some (.ref f))) (l : K.lookup f = some ⟨oc, od, .func (PySem.W.fnOf "_law_right_name" "_law_right_name" (defArgs sRName) (defBody sRName) (defScope sRName) .none kV doc pm an cdv ct), osl⟩) (c : PySem.W.codeIn K cdv "_law_right_name" = true) (k : PySem.W.keepIn K (.ref f) = true) : ∃ f fd, Df K mg "_law_right_name" sRName ["_law_thing"] f fd :=
  df_of X G a l c k fun _ _ _ _ _ _ us hl => match us, hl with | [_], _ => rfl
theorem mkdLrightrow (X : K.In h) (G : h.Ns mainGlobals mg) (a : PySem.W.nsIn K mainGlobals "_law_right_row" = some (some (.ref f))) (l : K.lookup f = some ⟨oc, od, .func (PySem.W.fnOf "_law_right_row" "_law_right_row" (defArgs sRRow) (defBody sRRow) (defScope sRRow) .none kV doc pm an cdv ct), osl⟩) (c : PySem.W.codeIn K cdv "_law_right_row" = true) (k : PySem.W.keepIn K (.ref f) = true) : ∃ f fd, Df K mg "_law_right_row" sRRow ["_law_row"] f fd :=
  df_of X G a l c k fun _ _ _ _ _ _ us hl => match us, hl with | [_], _ => rfl
theorem mkdLdue (X : K.In h) (G : h.Ns mainGlobals mg) (a : PySem.W.nsIn K mainGlobals "_law_due" = some (some (.ref f))) (l : K.lookup f = some ⟨oc, od, .func (PySem.W.fnOf "_law_due" "_law_due" (defArgs sDue) (defBody sDue) (defScope sDue) .none kV doc pm an cdv ct), osl⟩) (c : PySem.W.codeIn K cdv "_law_due" = true) (k : PySem.W.keepIn K (.ref f) = true) : ∃ f fd, Df K mg "_law_due" sDue ["_law_told"] f fd :=
  df_of X G a l c k fun _ _ _ _ _ _ us hl => match us, hl with | [_], _ => rfl
theorem mkdLmet (X : K.In h) (G : h.Ns mainGlobals mg) (a : PySem.W.nsIn K mainGlobals "_law_met" = some (some (.ref f))) (l : K.lookup f = some ⟨oc, od, .func (PySem.W.fnOf "_law_met" "_law_met" (defArgs sMet) (defBody sMet) (defScope sMet) .none kV doc pm an cdv ct), osl⟩) (c : PySem.W.codeIn K cdv "_law_met" = true) (k : PySem.W.keepIn K (.ref f) = true) : ∃ f fd, Df K mg "_law_met" sMet ["_law_told"] f fd :=
  df_of X G a l c k fun _ _ _ _ _ _ us hl => match us, hl with | [_], _ => rfl
theorem mkdLoddname (X : K.In h) (G : h.Ns mainGlobals mg) (a : PySem.W.nsIn K mainGlobals "_law_odd_name" = some (some (.ref f))) (l : K.lookup f = some ⟨oc, od, .func (PySem.W.fnOf "_law_odd_name" "_law_odd_name" (defArgs sOdd) (defBody sOdd) (defScope sOdd) .none kV doc pm an cdv ct), osl⟩) (c : PySem.W.codeIn K cdv "_law_odd_name" = true) (k : PySem.W.keepIn K (.ref f) = true) : ∃ f fd, Df K mg "_law_odd_name" sOdd ["_law_bag_here"] f fd :=
  df_of X G a l c k fun _ _ _ _ _ _ us hl => match us, hl with | [_], _ => rfl
theorem mkdLspoil (X : K.In h) (G : h.Ns mainGlobals mg) (a : PySem.W.nsIn K mainGlobals "_law_spoil" = some (some (.ref f))) (l : K.lookup f = some ⟨oc, od, .func (PySem.W.fnOf "_law_spoil" "_law_spoil" (defArgs sSpoil) (defBody sSpoil) (defScope sSpoil) .none kV doc pm an cdv ct), osl⟩) (c : PySem.W.codeIn K cdv "_law_spoil" = true) (k : PySem.W.keepIn K (.ref f) = true) : ∃ f fd, Df K mg "_law_spoil" sSpoil ["_law_bag_here", "_law_told"] f fd :=
  df_of X G a l c k fun _ _ _ _ _ _ us hl => match us, hl with | [_, _], _ => rfl
theorem mkdLspoilt (X : K.In h) (G : h.Ns mainGlobals mg) (a : PySem.W.nsIn K mainGlobals "_law_spoilt" = some (some (.ref f))) (l : K.lookup f = some ⟨oc, od, .func (PySem.W.fnOf "_law_spoilt" "_law_spoilt" (defArgs sSpoilt) (defBody sSpoilt) (defScope sSpoilt) .none kV doc pm an cdv ct), osl⟩) (c : PySem.W.codeIn K cdv "_law_spoilt" = true) (k : PySem.W.keepIn K (.ref f) = true) : ∃ f fd, Df K mg "_law_spoilt" sSpoilt ["_law_bag_here", "_law_stock_here"] f fd :=
  df_of X G a l c k fun _ _ _ _ _ _ us hl => match us, hl with | [_, _], _ => rfl
theorem mkdLtwofaults (X : K.In h) (G : h.Ns mainGlobals mg) (a : PySem.W.nsIn K mainGlobals "_law_two_faults" = some (some (.ref f))) (l : K.lookup f = some ⟨oc, od, .func (PySem.W.fnOf "_law_two_faults" "_law_two_faults" (defArgs sTwo) (defBody sTwo) (defScope sTwo) .none kV doc pm an cdv ct), osl⟩) (c : PySem.W.codeIn K cdv "_law_two_faults" = true) (k : PySem.W.keepIn K (.ref f) = true) : ∃ f fd, Df K mg "_law_two_faults" sTwo ["_law_bag_here", "_law_stock_here"] f fd :=
  df_of X G a l c k fun _ _ _ _ _ _ us hl => match us, hl with | [_, _], _ => rfl
theorem mkdLunknown (X : K.In h) (G : h.Ns mainGlobals mg) (a : PySem.W.nsIn K mainGlobals "_law_unknown" = some (some (.ref f))) (l : K.lookup f = some ⟨oc, od, .func (PySem.W.fnOf "_law_unknown" "_law_unknown" (defArgs sUnknown) (defBody sUnknown) (defScope sUnknown) .none kV doc pm an cdv ct), osl⟩) (c : PySem.W.codeIn K cdv "_law_unknown" = true) (k : PySem.W.keepIn K (.ref f) = true) : ∃ f fd, Df K mg "_law_unknown" sUnknown ["_law_over", "_law_thing"] f fd :=
  df_of X G a l c k fun _ _ _ _ _ _ us hl => match us, hl with | [_, _], _ => rfl
theorem mkdLother (X : K.In h) (G : h.Ns mainGlobals mg) (a : PySem.W.nsIn K mainGlobals "_law_other" = some (some (.ref f))) (l : K.lookup f = some ⟨oc, od, .func (PySem.W.fnOf "_law_other" "_law_other" (defArgs sOther) (defBody sOther) (defScope sOther) .none kV doc pm an cdv ct), osl⟩) (c : PySem.W.codeIn K cdv "_law_other" = true) (k : PySem.W.keepIn K (.ref f) = true) : ∃ f fd, Df K mg "_law_other" sOther ["_law_bag_here", "_law_stock_here"] f fd :=
  df_of X G a l c k fun _ _ _ _ _ _ us hl => match us, hl with | [_, _], _ => rfl
theorem mkdlaw (X : K.In h) (G : h.Ns mainGlobals mg) (a : PySem.W.nsIn K mainGlobals "law" = some (some (.ref f))) (l : K.lookup f = some ⟨oc, od, .func (PySem.W.fnOf "law" "law" (defArgs sLaw) (defBody sLaw) (defScope sLaw) .none kV doc pm an cdv ct), osl⟩) (c : PySem.W.codeIn K cdv "law" = true) (k : PySem.W.keepIn K (.ref f) = true) : ∃ f fd, Df K mg "law" sLaw ["_law_script"] f fd :=
  df_of X G a l c k fun _ _ _ _ _ _ us hl => match us, hl with | [_], _ => rfl
theorem mksSInit {CT : Addr} (a : PySem.W.findIn K (.ref CT) "__init__" = some (some (.ref f))) (i : PySem.W.isFn K (.ref f) = true) (l : K.lookup f = some ⟨oc, od, .func (PySem.W.fnOf "__init__" "Stock.__init__" (defArgs sSInit) (defBody sSInit) (defScope sSInit) .none kV doc pm an cdv ct), osl⟩) (c : PySem.W.codeIn K cdv "Stock.__init__" = true) (k : PySem.W.keepIn K (.ref f) = true) :
    ∃ f fd, Meth K CT "__init__" f ∧ Fun K "__init__" "Stock.__init__" sSInit f fd ∧ Binds K fd ["self", "stuffs", "states", "lands", "forms"] [] :=
  ⟨f, _, ⟨a, i, k⟩, fun_mk l c k, (fun_mk l c k).binds fun _ _ _ _ _ _ us hl => match us, hl with | [_, _, _, _, _], _ => rfl⟩
theorem mksSGet {CT : Addr} (a : PySem.W.findIn K (.ref CT) "__getitem__" = some (some (.ref f))) (i : PySem.W.isFn K (.ref f) = true) (l : K.lookup f = some ⟨oc, od, .func (PySem.W.fnOf "__getitem__" "Stock.__getitem__" (defArgs sSGet) (defBody sSGet) (defScope sSGet) .none kV doc pm an cdv ct), osl⟩) (c : PySem.W.codeIn K cdv "Stock.__getitem__" = true) (k : PySem.W.keepIn K (.ref f) = true) (gg : PySem.W.fnIn K f = true) :
    ∃ f fd, Meth K CT "__getitem__" f ∧ Fun K "__getitem__" "Stock.__getitem__" sSGet f fd ∧ Binds K fd ["self", "at"] [] ∧ PySem.W.fnIn K f = true :=
  ⟨f, _, ⟨a, i, k⟩, fun_mk l c k, (fun_mk l c k).binds fun _ _ _ _ _ _ us hl => match us, hl with | [_, _], _ => rfl, gg⟩
theorem mksSCont {CT : Addr} (a : PySem.W.findIn K (.ref CT) "__contains__" = some (some (.ref f))) (i : PySem.W.isFn K (.ref f) = true) (l : K.lookup f = some ⟨oc, od, .func (PySem.W.fnOf "__contains__" "Stock.__contains__" (defArgs sSCont) (defBody sSCont) (defScope sSCont) .none kV doc pm an cdv ct), osl⟩) (c : PySem.W.codeIn K cdv "Stock.__contains__" = true) (k : PySem.W.keepIn K (.ref f) = true) :
    ∃ f fd, Meth K CT "__contains__" f ∧ Fun K "__contains__" "Stock.__contains__" sSCont f fd ∧ Binds K fd ["self", "x"] [] :=
  ⟨f, _, ⟨a, i, k⟩, fun_mk l c k, (fun_mk l c k).binds fun _ _ _ _ _ _ us hl => match us, hl with | [_, _], _ => rfl⟩
theorem mksSIter {CT : Addr} (a : PySem.W.findIn K (.ref CT) "__iter__" = some (some (.ref f))) (i : PySem.W.isFn K (.ref f) = true) (l : K.lookup f = some ⟨oc, od, .func (PySem.W.fnOf "__iter__" "Stock.__iter__" (defArgs sSIter) (defBody sSIter) (defScope sSIter) .none kV doc pm an cdv ct), osl⟩) (c : PySem.W.codeIn K cdv "Stock.__iter__" = true) (k : PySem.W.keepIn K (.ref f) = true) :
    ∃ f fd, Meth K CT "__iter__" f ∧ Fun K "__iter__" "Stock.__iter__" sSIter f fd ∧ Binds K fd ["self"] [] :=
  ⟨f, _, ⟨a, i, k⟩, fun_mk l c k, (fun_mk l c k).binds fun _ _ _ _ _ _ us hl => match us, hl with | [_], _ => rfl⟩
theorem mksSEq {CT : Addr} (a : PySem.W.findIn K (.ref CT) "__eq__" = some (some (.ref f))) (i : PySem.W.isFn K (.ref f) = true) (l : K.lookup f = some ⟨oc, od, .func (PySem.W.fnOf "__eq__" "Stock.__eq__" (defArgs sSEq) (defBody sSEq) (defScope sSEq) .none kV doc pm an cdv ct), osl⟩) (c : PySem.W.codeIn K cdv "Stock.__eq__" = true) (k : PySem.W.keepIn K (.ref f) = true) :
    ∃ f fd, Meth K CT "__eq__" f ∧ Fun K "__eq__" "Stock.__eq__" sSEq f fd ∧ Binds K fd ["self", "other"] [] :=
  ⟨f, _, ⟨a, i, k⟩, fun_mk l c k, (fun_mk l c k).binds fun _ _ _ _ _ _ us hl => match us, hl with | [_, _], _ => rfl⟩
theorem mksUsable {CT : Addr} (a : PySem.W.findIn K (.ref CT) "usable" = some (some (.ref f))) (i : PySem.W.isFn K (.ref f) = true) (l : K.lookup f = some ⟨oc, od, .func (PySem.W.fnOf "usable" "Stock.usable" (defArgs sUsable) (defBody sUsable) (defScope sUsable) .none kV doc pm an cdv ct), osl⟩) (c : PySem.W.codeIn K cdv "Stock.usable" = true) (k : PySem.W.keepIn K (.ref f) = true) :
    ∃ f fd, Meth K CT "usable" f ∧ Fun K "usable" "Stock.usable" sUsable f fd ∧ Binds K fd ["self"] [] :=
  ⟨f, _, ⟨a, i, k⟩, fun_mk l c k, (fun_mk l c k).binds fun _ _ _ _ _ _ us hl => match us, hl with | [_], _ => rfl⟩
end
section
variable {K : PySem.W.Frag} {mg : Str → Option Value} {h : Heap} {a : Addr} {dd : Option Addr} {its : Array Value} {n : Nat} {sl : Array (Option Value)}
theorem tup_k {xs : List V} (l : K.lookup a = some ⟨.type "tuple", dd, .seq its n, sl⟩) (z : its.size ≤ sizeLine) (v : Vals xs its.toList) : ∀ H, SqT K H a xs := fun H => .inr ⟨_, its, n, l, rfl, rfl, z, v⟩
theorem vals_of {us : List Value} {zs : List Str} (h : us.map (fun u => match u with | .str z _ => some z | _ => none) = zs.map some) : Vals (zs.map V.str) us := by
  induction us generalizing zs with
  | nil => cases zs with | nil => exact .nil | cons z zs => cases h
  | cons u us ih =>
    cases zs with
    | nil => cases h
    | cons z zs =>
      rw [List.map_cons, List.map_cons] at h
      obtain ⟨h1, h2⟩ := List.cons.inj h
      refine .cons ?_ (ih h2)
      cases u <;> first | (cases h1; done) | (obtain rfl := Option.some.inj h1; exact ⟨_, rfl⟩)
theorem mk_cls {C : Addr} {nm q : Str} {N : Addr} {bs bm : List Value} {sn : List Str} {sub : List Value} {ab : Bool} {col : Option Bool} {dd : Option Addr} {k0 k1 k2 k3 k5 : Option Value} (l : K.lookup C = some (excClassObj nm q C N bs bm true sn sub ab col dd k0 k1 k2 k3 k5 "ValueError.__new__")) (r : PySem.HandSPX.refsVE bm = true) :
    ∃ nm q N bs bm sn sub ab col dd k0 k1 k2 k3 k5, K.lookup C = some (excClassObj nm q C N bs bm true sn sub ab col dd k0 k1 k2 k3 k5 "ValueError.__new__") ∧ PySem.HandSPX.refsVE bm = true := ⟨nm, q, N, bs, bm, sn, sub, ab, col, dd, k0, k1, k2, k3, k5, l, r⟩
theorem mk_exm {C D : Addr} (h1 : PySem.W.subIn K (.ref D) (.type "BaseException") = some true) (h2 : PySem.W.isClsIn K D = true) (h3 : PySem.W.typeIn K (.ref D) = some (.type "type")) (h4 : PySem.W.subIn K (.ref C) (.ref D) = some true) : PySem.W.exmOne K (.ref C) (.ref D) = some true := by
  have e1 : (PySem.W.subIn K (.ref D) (.type "BaseException") == some true) = true := by rw [h1] <;> rfl
  have e2 : ((PySem.W.clsIn K D).isSome && PySem.W.typeIn K (.ref D) == some (.type "type")) = true := by
    have h2' : (PySem.W.clsIn K D).isSome = true := h2
    rw [h2', h3] <;> rfl
  show (if (PySem.W.subIn K (.ref D) (.type "BaseException") == some true) = true then (if ((PySem.W.clsIn K D).isSome && PySem.W.typeIn K (.ref D) == some (.type "type")) = true then PySem.W.subIn K (.ref C) (.ref D) else none) else none) = some true
  rw [if_pos e1, if_pos e2]
  exact h4
theorem mk_isC {D : Addr} (y1 : PySem.W.isClsIn K D = true) (y2 : PySem.W.findIn K (.ref D) "__getattribute__" = some (some (.builtin "BaseException.__getattribute__"))) (y3 : PySem.W.findIn K (.ref D) "__getattr__" = some none) (y4 : PySem.W.subIn K (.ref D) (.type "BaseException") = some true)
    (y5 : PySem.W.findIn K (.ref D) "__class__" = some (some (.builtin "object.__class__"))) (y6 : PySem.W.specialIn K (.builtin "object.__class__") "__get__" = some (some (.builtin "getset_descriptor.__get__"))) (y7 : PySem.W.takesIn K (.builtin "object.__class__") = some true) (y8 : PySem.W.mroIn K D (.type "object") = some true) : IsC K D :=
  ⟨y1, y2, y3, y4, y5, y6, y7, y8⟩
theorem mk_fnX {P : Program} {fI C cda cc : Addr} {f qual msg : Str} {oc : Value} {od : Option Addr} {doc pm : Value} {an : Option Addr} {ct : Value} {osl : Array (Option Value)} {p1 p2 a1 a2 a3 a4 a5 a6 a7 a8 a9 b1 b2 b3 b4 : Pos}
    {ccl : Value} {cdd : Option Addr} {vs : Array Value} {ccs : Array (Option Value)} {file : Str} {tf : Tok} {cl : Value} {cld : Option Addr} {csl : Array (Option Value)}
    (l : K.lookup fI = some ⟨oc, od, .func (PySem.W.ksFn "__init__" qual (K02X.eA f p1 p2) (K02X.eB f msg a1 a2 a3 a4 a5 a6 a7 a8 a9 b1 b2 b3 b4) (K02X.eS f) .none .none doc pm an (.ref cda) ct cc), osl⟩) (c : PySem.W.codeIn K (.ref cda) qual = true)
    (k : K.lookup cda = some ⟨ccl, cdd, .fields vs, ccs⟩) (v : vs[2]? = some (.str file tf)) (p : ((P.main.file : Str) == file) = true) (lc : K.lookup cc = some ⟨cl, cld, .cell (some (.ref C)), csl⟩) (e : (a3.endLine == a8.line) = true) :
    ∃ (oc : Value) (od : Option Addr) (doc pm : Value) (an : Option Addr) (cda cc : Addr) (ct : Value) (osl : Array (Option Value)) (p1 p2 a1 a2 a3 a4 a5 a6 a7 a8 a9 b1 b2 b3 b4 : Pos)
    (ccl : Value) (cdd : Option Addr) (vs : Array Value) (ccs : Array (Option Value)) (file : Str) (tf : Tok) (cl : Value) (cld : Option Addr) (csl : Array (Option Value)),
    K.lookup fI = some ⟨oc, od, .func (PySem.W.ksFn "__init__" qual (K02X.eA f p1 p2) (K02X.eB f msg a1 a2 a3 a4 a5 a6 a7 a8 a9 b1 b2 b3 b4) (K02X.eS f) .none .none doc pm an (.ref cda) ct cc), osl⟩ ∧ PySem.W.codeIn K (.ref cda) qual = true ∧
    K.lookup cda = some ⟨ccl, cdd, .fields vs, ccs⟩ ∧ vs[2]? = some (.str file tf) ∧ ((P.main.file : Str) == file) = true ∧ K.lookup cc = some ⟨cl, cld, .cell (some (.ref C)), csl⟩ ∧ (a3.endLine == a8.line) = true :=
  ⟨oc, od, doc, pm, an, cda, cc, ct, osl, p1, p2, a1, a2, a3, a4, a5, a6, a7, a8, a9, b1, b2, b3, b4, ccl, cdd, vs, ccs, file, tf, cl, cld, csl, l, c, k, v, p, lc, e⟩
theorem mk_fnR {P : Program} {fI C cda cc : Addr} {f qual msg : Str} {oc : Value} {od : Option Addr} {doc pm : Value} {an : Option Addr} {ct : Value} {osl : Array (Option Value)} {p1 p2 a1 a2 a3 a4 a5 a6 a7 a8 a9 b1 b2 b3 b4 : Pos}
    {ccl : Value} {cdd : Option Addr} {vs : Array Value} {ccs : Array (Option Value)} {file : Str} {tf : Tok} {cl : Value} {cld : Option Addr} {csl : Array (Option Value)}
    (l : K.lookup fI = some ⟨oc, od, .func (PySem.W.ksFn "__init__" qual (K02R.eA f p1 p2) (K02R.eB f msg a1 a2 a3 a4 a5 a6 a7 a8 a9 b1 b2 b3 b4) (K02R.eS f) .none .none doc pm an (.ref cda) ct cc), osl⟩) (c : PySem.W.codeIn K (.ref cda) qual = true)
    (k : K.lookup cda = some ⟨ccl, cdd, .fields vs, ccs⟩) (v : vs[2]? = some (.str file tf)) (p : ((P.main.file : Str) == file) = true) (lc : K.lookup cc = some ⟨cl, cld, .cell (some (.ref C)), csl⟩) (e : (a3.endLine == a8.line) = true) :
    ∃ (oc : Value) (od : Option Addr) (doc pm : Value) (an : Option Addr) (cda cc : Addr) (ct : Value) (osl : Array (Option Value)) (p1 p2 a1 a2 a3 a4 a5 a6 a7 a8 a9 b1 b2 b3 b4 : Pos)
    (ccl : Value) (cdd : Option Addr) (vs : Array Value) (ccs : Array (Option Value)) (file : Str) (tf : Tok) (cl : Value) (cld : Option Addr) (csl : Array (Option Value)),
    K.lookup fI = some ⟨oc, od, .func (PySem.W.ksFn "__init__" qual (K02R.eA f p1 p2) (K02R.eB f msg a1 a2 a3 a4 a5 a6 a7 a8 a9 b1 b2 b3 b4) (K02R.eS f) .none .none doc pm an (.ref cda) ct cc), osl⟩ ∧ PySem.W.codeIn K (.ref cda) qual = true ∧
    K.lookup cda = some ⟨ccl, cdd, .fields vs, ccs⟩ ∧ vs[2]? = some (.str file tf) ∧ ((P.main.file : Str) == file) = true ∧ K.lookup cc = some ⟨cl, cld, .cell (some (.ref C)), csl⟩ ∧ (a3.endLine == a8.line) = true :=
  ⟨oc, od, doc, pm, an, cda, cc, ct, osl, p1, p2, a1, a2, a3, a4, a5, a6, a7, a8, a9, b1, b2, b3, b4, ccl, cdd, vs, ccs, file, tf, cl, cld, csl, l, c, k, v, p, lc, e⟩
theorem mk_exn {C D : Addr} (h1 : PySem.W.subIn K (.ref D) (.type "BaseException") = some true) (h2 : PySem.W.isClsIn K D = true) (h3 : PySem.W.typeIn K (.ref D) = some (.type "type")) (h4 : PySem.W.subIn K (.ref C) (.ref D) = some false) : PySem.W.exmOne K (.ref C) (.ref D) = some false := by
  have e1 : (PySem.W.subIn K (.ref D) (.type "BaseException") == some true) = true := by rw [h1] <;> rfl
  have e2 : ((PySem.W.clsIn K D).isSome && PySem.W.typeIn K (.ref D) == some (.type "type")) = true := by
    have h2' : (PySem.W.clsIn K D).isSome = true := h2
    rw [h2', h3] <;> rfl
  show (if (PySem.W.subIn K (.ref D) (.type "BaseException") == some true) = true then (if ((PySem.W.clsIn K D).isSome && PySem.W.typeIn K (.ref D) == some (.type "type")) = true then PySem.W.subIn K (.ref C) (.ref D) else none) else none) = some false
  rw [if_pos e1, if_pos e2]
  exact h4
end
theorem mk_left {P : Program} {w : World} {K : PySem.W.Frag} {mg : Str → Option Value} {CS CF CB CN CT CU : Addr} (defs : Defs K mg) (nms : Nms mg) (nm2 : Nm2 mg) (glb : Glb K mg) (gls : GlbS mg) (top : (P.main.scope.names.lookup ("super" : Str)).isSome = false) (sk : StockK K mg CS) (er : Ex5 K mg CF CB CN CT CU) (ui : UnkIs K mg CF CN CU) (tx : Txts P K mg CB CN CT CU) : LeftK P w K mg :=
  ⟨defs, nms, nm2, glb, gls, top, CS, CF, CB, CN, CT, CU, sk, er, ui, tx⟩
end K02

open PySem PySem.W PyProof.Rows
set_option maxRecDepth 100000 in
set_option maxHeartbeats 0 in
theorem PySem.Challenge.cw_fallsunder_k02_stocks_judged_holds : PySem.Challenge.rw_fallsunder_k02_stocks_judged.Holds := by
  w_on; o_law; k_head; (case hw => w_witness2)
  k_fill
  refine K02.walk (l := PySem.Challenge.rw_fallsunder_k02_stocks_judged) rfl rfl rfl (fun w h Y => PySem.W.kIn_of Y) ?F0
  case F0 =>
    intro w mg h KX G
    refine' K02.mk_left ?Q1 ?Q2 ?Q3 ?Q4 ?Q5 ?Q6 ?Q7 ?Q8 ?Q9 ?Q10
    case Q1 =>
      refine' ⟨?disnumber, ?dislist, ?dislisting, ?disname, ?disformrow, ?dcheckparts, ?dchecknames, ?dchecktakes, ?dLbag, ?dLpick, ?dLchoice, ?dLonein, ?dLsome, ?dLshuffled, ?dLinteger, ?dLletters, ?dLapart, ?dLnames, ?dLstock, ?dLstockof, ?dLranks, ?dLrightname, ?dLrightrow, ?dLdue, ?dLmet, ?dLoddname, ?dLspoil, ?dLspoilt, ?dLtwofaults, ?dLunknown, ?dLother, ?dlaw⟩
      case disnumber => (refine' K02.mkdisnumber KX G ?a ?l ?c ?k; (case a => k_is); (case l => k_is); (case c => k_is); (case k => k_is))
      case dislist => (refine' K02.mkdislist KX G ?a ?l ?c ?k; (case a => k_is); (case l => k_is); (case c => k_is); (case k => k_is))
      case dislisting => (refine' K02.mkdislisting KX G ?a ?l ?c ?k; (case a => k_is); (case l => k_is); (case c => k_is); (case k => k_is))
      case disname => (refine' K02.mkdisname KX G ?a ?l ?c ?k; (case a => k_is); (case l => k_is); (case c => k_is); (case k => k_is))
      case disformrow => (refine' K02.mkdisformrow KX G ?a ?l ?c ?k; (case a => k_is); (case l => k_is); (case c => k_is); (case k => k_is))
      case dcheckparts => (refine' K02.mkdcheckparts KX G ?a ?l ?c ?k; (case a => k_is); (case l => k_is); (case c => k_is); (case k => k_is))
      case dchecknames => (refine' K02.mkdchecknames KX G ?a ?l ?c ?k; (case a => k_is); (case l => k_is); (case c => k_is); (case k => k_is))
      case dchecktakes => (refine' K02.mkdchecktakes KX G ?a ?l ?c ?k; (case a => k_is); (case l => k_is); (case c => k_is); (case k => k_is))
      case dLbag => (refine' K02.mkdLbag KX G ?a ?l ?c ?k; (case a => k_is); (case l => k_is); (case c => k_is); (case k => k_is))
      case dLpick => (refine' K02.mkdLpick KX G ?a ?l ?c ?k; (case a => k_is); (case l => k_is); (case c => k_is); (case k => k_is))
      case dLchoice => (refine' K02.mkdLchoice KX G ?a ?l ?c ?k; (case a => k_is); (case l => k_is); (case c => k_is); (case k => k_is))
      case dLonein => (refine' K02.mkdLonein KX G ?a ?l ?c ?k; (case a => k_is); (case l => k_is); (case c => k_is); (case k => k_is))
      case dLsome => (refine' K02.mkdLsome KX G ?a ?l ?c ?k; (case a => k_is); (case l => k_is); (case c => k_is); (case k => k_is))
      case dLshuffled => (refine' K02.mkdLshuffled KX G ?a ?l ?c ?k; (case a => k_is); (case l => k_is); (case c => k_is); (case k => k_is))
      case dLinteger => (refine' K02.mkdLinteger KX G ?a ?l ?c ?k; (case a => k_is); (case l => k_is); (case c => k_is); (case k => k_is))
      case dLletters => (refine' K02.mkdLletters KX G ?a ?l ?c ?k; (case a => k_is); (case l => k_is); (case c => k_is); (case k => k_is))
      case dLapart => (refine' K02.mkdLapart KX G ?a ?l ?c ?k; (case a => k_is); (case l => k_is); (case c => k_is); (case k => k_is))
      case dLnames => (refine' K02.mkdLnames KX G ?a ?l ?c ?k; (case a => k_is); (case l => k_is); (case c => k_is); (case k => k_is))
      case dLstock => (refine' K02.mkdLstock KX G ?a ?l ?c ?k; (case a => k_is); (case l => k_is); (case c => k_is); (case k => k_is))
      case dLstockof => (refine' K02.mkdLstockof KX G ?a ?l ?c ?k; (case a => k_is); (case l => k_is); (case c => k_is); (case k => k_is))
      case dLranks => (refine' K02.mkdLranks KX G ?a ?l ?c ?k; (case a => k_is); (case l => k_is); (case c => k_is); (case k => k_is))
      case dLrightname => (refine' K02.mkdLrightname KX G ?a ?l ?c ?k; (case a => k_is); (case l => k_is); (case c => k_is); (case k => k_is))
      case dLrightrow => (refine' K02.mkdLrightrow KX G ?a ?l ?c ?k; (case a => k_is); (case l => k_is); (case c => k_is); (case k => k_is))
      case dLdue => (refine' K02.mkdLdue KX G ?a ?l ?c ?k; (case a => k_is); (case l => k_is); (case c => k_is); (case k => k_is))
      case dLmet => (refine' K02.mkdLmet KX G ?a ?l ?c ?k; (case a => k_is); (case l => k_is); (case c => k_is); (case k => k_is))
      case dLoddname => (refine' K02.mkdLoddname KX G ?a ?l ?c ?k; (case a => k_is); (case l => k_is); (case c => k_is); (case k => k_is))
      case dLspoil => (refine' K02.mkdLspoil KX G ?a ?l ?c ?k; (case a => k_is); (case l => k_is); (case c => k_is); (case k => k_is))
      case dLspoilt => (refine' K02.mkdLspoilt KX G ?a ?l ?c ?k; (case a => k_is); (case l => k_is); (case c => k_is); (case k => k_is))
      case dLtwofaults => (refine' K02.mkdLtwofaults KX G ?a ?l ?c ?k; (case a => k_is); (case l => k_is); (case c => k_is); (case k => k_is))
      case dLunknown => (refine' K02.mkdLunknown KX G ?a ?l ?c ?k; (case a => k_is); (case l => k_is); (case c => k_is); (case k => k_is))
      case dLother => (refine' K02.mkdLother KX G ?a ?l ?c ?k; (case a => k_is); (case l => k_is); (case c => k_is); (case k => k_is))
      case dlaw => (refine' K02.mkdlaw KX G ?a ?l ?c ?k; (case a => k_is); (case l => k_is); (case c => k_is); (case k => k_is))
    case Q2 =>
      refine' ⟨?nint, ?nlen, ?nisi, ?nbool, ?nstr, ?ntuple, ?nlist, ?nrange, ?nmax, ?nall, ?nsorted, ?nreversed, ?nenumerate⟩
      case nint => (refine' PySem.W.mg_none_of KX G ?z; (case z => k_is))
      case nlen => (refine' PySem.W.mg_none_of KX G ?z; (case z => k_is))
      case nisi => (refine' PySem.W.mg_none_of KX G ?z; (case z => k_is))
      case nbool => (refine' PySem.W.mg_none_of KX G ?z; (case z => k_is))
      case nstr => (refine' PySem.W.mg_none_of KX G ?z; (case z => k_is))
      case ntuple => (refine' PySem.W.mg_none_of KX G ?z; (case z => k_is))
      case nlist => (refine' PySem.W.mg_none_of KX G ?z; (case z => k_is))
      case nrange => (refine' PySem.W.mg_none_of KX G ?z; (case z => k_is))
      case nmax => (refine' PySem.W.mg_none_of KX G ?z; (case z => k_is))
      case nall => (refine' PySem.W.mg_none_of KX G ?z; (case z => k_is))
      case nsorted => (refine' PySem.W.mg_none_of KX G ?z; (case z => k_is))
      case nreversed => (refine' PySem.W.mg_none_of KX G ?z; (case z => k_is))
      case nenumerate => (refine' PySem.W.mg_none_of KX G ?z; (case z => k_is))
    case Q3 =>
      refine' ⟨?nrepr, ?niter, ?nany, ?nmin, ?nsum⟩
      case nrepr => (refine' PySem.W.mg_none_of KX G ?z; (case z => k_is))
      case niter => (refine' PySem.W.mg_none_of KX G ?z; (case z => k_is))
      case nany => (refine' PySem.W.mg_none_of KX G ?z; (case z => k_is))
      case nmin => (refine' PySem.W.mg_none_of KX G ?z; (case z => k_is))
      case nsum => (refine' PySem.W.mg_none_of KX G ?z; (case z => k_is))
    case Q4 =>
      refine' ⟨?letters, ?longest, ?reserved⟩
      case letters => (refine' ⟨_, PySem.W.mg_of KX G ?a, ?r⟩; (case a => k_is); (case r => exact ⟨_, rfl⟩))
      case longest => (refine' ⟨_, PySem.W.mg_of KX G ?a, ?r⟩; (case a => k_is); (case r => exact ⟨_, rfl⟩))
      case reserved => (refine' ⟨_, PySem.W.mg_of KX G ?a, K02.tup_k ?l ?z ?v⟩; (case a => k_is); (case l => k_is); (case z => decide); (case v => exact K02.vals_of rfl))
    case Q5 =>
      refine' ⟨?stuffs, ?states, ?lands, ?forms, ?parts⟩
      case stuffs => (refine' ⟨_, PySem.W.mg_of KX G ?a, ?r⟩; (case a => k_is); (case r => exact ⟨_, rfl⟩))
      case states => (refine' ⟨_, PySem.W.mg_of KX G ?a, ?r⟩; (case a => k_is); (case r => exact ⟨_, rfl⟩))
      case lands => (refine' ⟨_, PySem.W.mg_of KX G ?a, ?r⟩; (case a => k_is); (case r => exact ⟨_, rfl⟩))
      case forms => (refine' ⟨_, PySem.W.mg_of KX G ?a, ?r⟩; (case a => k_is); (case r => exact ⟨_, rfl⟩))
      case parts => (refine' ⟨_, PySem.W.mg_of KX G ?a, ?r⟩; (case a => k_is); (case r => exact ⟨_, rfl⟩))
    case Q6 => first | rfl | decide +kernel
    case Q7 =>
      refine' ⟨?gS, ?sc, ?si, ?makes, ?kc, ?nolen, ?nohint, ?zsSInit, ?zsSGet, ?zsSCont, ?zsSIter, ?zsSEq, ?zsUsable⟩
      case gS => (refine' PySem.W.mg_of KX G ?a; (case a => k_is))
      case sc => (refine' ⟨⟨?pg, ?hd, ?po, ?sa⟩, ?n1, ?n2, ?n3, ?n4, ?n5, ?n6, ?n7⟩; (case pg => k_is); (case hd => k_is); (case po => k_is); (case sa => k_is); (case n1 => (show PySem.W.findIn _ _ _ = _; k_is)); (case n2 => (show PySem.W.findIn _ _ _ = _; k_is)); (case n3 => (show PySem.W.findIn _ _ _ = _; k_is)); (case n4 => (show PySem.W.findIn _ _ _ = _; k_is)); (case n5 => (show PySem.W.findIn _ _ _ = _; k_is)); (case n6 => (show PySem.W.findIn _ _ _ = _; k_is)); (case n7 => (show PySem.W.findIn _ _ _ = _; k_is)))
      case si => (refine' ⟨?w1, ?w2, ?w3, ?w4, ?w5, ?w6⟩; (case w1 => k_is); (case w2 => k_is); (case w3 => k_is); (case w4 => k_is); (case w5 => kit_is); (case w6 => k_is))
      case makes => k_is
      case kc => k_is
      case nolen => k_is
      case nohint => k_is
      case zsSInit => (refine' K02.mksSInit ?a ?i ?l ?c ?k; (case a => k_is); (case i => k_is); (case l => k_is); (case c => k_is); (case k => k_is))
      case zsSGet => (refine' K02.mksSGet ?a ?i ?l ?c ?k ?gg; (case a => k_is); (case i => k_is); (case l => k_is); (case c => k_is); (case k => k_is); (case gg => k_is))
      case zsSCont => (refine' K02.mksSCont ?a ?i ?l ?c ?k; (case a => k_is); (case i => k_is); (case l => k_is); (case c => k_is); (case k => k_is))
      case zsSIter => (refine' K02.mksSIter ?a ?i ?l ?c ?k; (case a => k_is); (case i => k_is); (case l => k_is); (case c => k_is); (case k => k_is))
      case zsSEq => (refine' K02.mksSEq ?a ?i ?l ?c ?k; (case a => k_is); (case i => k_is); (case l => k_is); (case c => k_is); (case k => k_is))
      case zsUsable => (refine' K02.mksUsable ?a ?i ?l ?c ?k; (case a => k_is); (case i => k_is); (case l => k_is); (case c => k_is); (case k => k_is))
    case Q8 =>
      refine' ⟨?gF, ?gB, ?gN, ?gT, ?gU, ?nb, ?tb, ?tn, ?ub, ?un, ?ut⟩
      case gF => (refine' PySem.W.mg_of KX G ?a; (case a => k_is))
      case gB => (refine' PySem.W.mg_of KX G ?a; (case a => k_is))
      case gN => (refine' PySem.W.mg_of KX G ?a; (case a => k_is))
      case gT => (refine' PySem.W.mg_of KX G ?a; (case a => k_is))
      case gU => (refine' PySem.W.mg_of KX G ?a; (case a => k_is))
      case nb => (refine' K02.mk_exn ?p1 ?p2 ?p3 ?p4; (case p1 => k_is); (case p2 => k_is); (case p3 => k_is); (case p4 => k_is))
      case tb => (refine' K02.mk_exn ?p1 ?p2 ?p3 ?p4; (case p1 => k_is); (case p2 => k_is); (case p3 => k_is); (case p4 => k_is))
      case tn => (refine' K02.mk_exn ?p1 ?p2 ?p3 ?p4; (case p1 => k_is); (case p2 => k_is); (case p3 => k_is); (case p4 => k_is))
      case ub => (refine' K02.mk_exn ?p1 ?p2 ?p3 ?p4; (case p1 => k_is); (case p2 => k_is); (case p3 => k_is); (case p4 => k_is))
      case un => (refine' K02.mk_exn ?p1 ?p2 ?p3 ?p4; (case p1 => k_is); (case p2 => k_is); (case p3 => k_is); (case p4 => k_is))
      case ut => (refine' K02.mk_exn ?p1 ?p2 ?p3 ?p4; (case p1 => k_is); (case p2 => k_is); (case p3 => k_is); (case p4 => k_is))
    case Q9 =>
      refine' ⟨?gF, ?gN, ?gU, ?gV, ?isF, ?isV, ?isN, ?ic⟩
      case gF => (refine' PySem.W.mg_of KX G ?a; (case a => k_is))
      case gN => (refine' PySem.W.mg_of KX G ?a; (case a => k_is))
      case gU => (refine' PySem.W.mg_of KX G ?a; (case a => k_is))
      case gV => (refine' PySem.W.mg_none_of KX G ?z; (case z => k_is))
      case isF => kit_is
      case isV => kit_is
      case isN => kit_is
      case ic => (refine' K02.mk_isC ?y1 ?y2 ?y3 ?y4 ?y5 ?y6 ?y7 ?y8; (case y1 => k_is); (case y2 => k_is); (case y3 => k_is); (case y4 => k_is); (case y5 => k_is); (case y6 => k_is); (case y7 => k_is); (case y8 => k_is))
    case Q10 =>
      refine' ⟨?tCB, ?tCN, ?tCT, ?tCU⟩
      case tCB =>
        refine' ⟨_, ?gC, ?cls, ?sa, ?ga, ?gg, ?noN, ?iC, ?tC, ?kC, ?exC, ?tyC, ?hdC, ?te, ?ve, ?su, ?me, ?tp, ?gs, ?fn⟩
        case gC => (refine' PySem.W.mg_of KX G ?a; (case a => k_is))
        case cls => (refine' K02.mk_cls ?l ?r; (case l => k_is); (case r => decide +kernel))
        case sa => k_is
        case ga => k_is
        case gg => k_is
        case noN => k_is
        case iC => k_is
        case tC => k_is
        case kC => k_is
        case exC => k_is
        case tyC => k_is
        case hdC => k_is
        case ve => k_is
        case me => k_is
        case tp => k_is
        case te => (refine' K02.mk_exm ?p1 ?p2 ?p3 ?p4; (case p1 => k_is); (case p2 => k_is); (case p3 => k_is); (case p4 => k_is))
        case su => ks_is
        case gs => (refine' PySem.W.mg_none_of KX G ?z; (case z => k_is))
        case fn => (refine' K02.mk_fnX ?fnl ?fnc ?fnk ?fnv ?fnp ?fncc ?fne; (case fnl => k_is); (case fnc => k_is); (case fnk => k_is); (case fnv => rfl); (case fnp => decide +kernel); (case fncc => k_is); (case fne => rfl))
      case tCN =>
        refine' ⟨_, ?gC, ?cls, ?sa, ?ga, ?gg, ?noN, ?iC, ?tC, ?kC, ?exC, ?tyC, ?hdC, ?te, ?ve, ?su, ?me, ?tp, ?gs, ?fn⟩
        case gC => (refine' PySem.W.mg_of KX G ?a; (case a => k_is))
        case cls => (refine' K02.mk_cls ?l ?r; (case l => k_is); (case r => decide +kernel))
        case sa => k_is
        case ga => k_is
        case gg => k_is
        case noN => k_is
        case iC => k_is
        case tC => k_is
        case kC => k_is
        case exC => k_is
        case tyC => k_is
        case hdC => k_is
        case ve => k_is
        case me => k_is
        case tp => k_is
        case te => (refine' K02.mk_exm ?p1 ?p2 ?p3 ?p4; (case p1 => k_is); (case p2 => k_is); (case p3 => k_is); (case p4 => k_is))
        case su => ks_is
        case gs => (refine' PySem.W.mg_none_of KX G ?z; (case z => k_is))
        case fn => (refine' K02.mk_fnR ?fnl ?fnc ?fnk ?fnv ?fnp ?fncc ?fne; (case fnl => k_is); (case fnc => k_is); (case fnk => k_is); (case fnv => rfl); (case fnp => decide +kernel); (case fncc => k_is); (case fne => rfl))
      case tCT =>
        refine' ⟨_, ?gC, ?cls, ?sa, ?ga, ?gg, ?noN, ?iC, ?tC, ?kC, ?exC, ?tyC, ?hdC, ?te, ?ve, ?su, ?me, ?tp, ?gs, ?fn⟩
        case gC => (refine' PySem.W.mg_of KX G ?a; (case a => k_is))
        case cls => (refine' K02.mk_cls ?l ?r; (case l => k_is); (case r => decide +kernel))
        case sa => k_is
        case ga => k_is
        case gg => k_is
        case noN => k_is
        case iC => k_is
        case tC => k_is
        case kC => k_is
        case exC => k_is
        case tyC => k_is
        case hdC => k_is
        case ve => k_is
        case me => k_is
        case tp => k_is
        case te => (refine' K02.mk_exm ?p1 ?p2 ?p3 ?p4; (case p1 => k_is); (case p2 => k_is); (case p3 => k_is); (case p4 => k_is))
        case su => ks_is
        case gs => (refine' PySem.W.mg_none_of KX G ?z; (case z => k_is))
        case fn => (refine' K02.mk_fnR ?fnl ?fnc ?fnk ?fnv ?fnp ?fncc ?fne; (case fnl => k_is); (case fnc => k_is); (case fnk => k_is); (case fnv => rfl); (case fnp => decide +kernel); (case fncc => k_is); (case fne => rfl))
      case tCU =>
        refine' ⟨_, ?gC, ?cls, ?sa, ?ga, ?gg, ?noN, ?iC, ?tC, ?kC, ?exC, ?tyC, ?hdC, ?te, ?ve, ?su, ?me, ?tp, ?gs, ?fn⟩
        case gC => (refine' PySem.W.mg_of KX G ?a; (case a => k_is))
        case cls => (refine' K02.mk_cls ?l ?r; (case l => k_is); (case r => decide +kernel))
        case sa => k_is
        case ga => k_is
        case gg => k_is
        case noN => k_is
        case iC => k_is
        case tC => k_is
        case kC => k_is
        case exC => k_is
        case tyC => k_is
        case hdC => k_is
        case ve => k_is
        case me => k_is
        case tp => k_is
        case te => (refine' K02.mk_exm ?p1 ?p2 ?p3 ?p4; (case p1 => k_is); (case p2 => k_is); (case p3 => k_is); (case p4 => k_is))
        case su => ks_is
        case gs => (refine' PySem.W.mg_none_of KX G ?z; (case z => k_is))
        case fn => (refine' K02.mk_fnR ?fnl ?fnc ?fnk ?fnv ?fnp ?fncc ?fne; (case fnl => k_is); (case fnc => k_is); (case fnk => k_is); (case fnv => rfl); (case fnp => decide +kernel); (case fncc => k_is); (case fne => rfl))
