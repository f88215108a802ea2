import PyProof.Rows.All
import Wide.All
import OpenK.AllK
import Wide.FinOn
import HandS.ForMost
import HandS.Codes
import HandS.StrMore
import HandS.RevRange
import HandS.WideBits
import HandS.Wide
import HandS.IsInst
import PyProof.StrBlock2
import PyProof.Rows.StrMul
import HandS.Conv
import PySem.Challenge.RW_isthmus_k01_texts_written
set_option Elab.async false
set_option linter.all false
set_option maxRecDepth 100000
namespace KT
open PySem PySem.Spec PyProof.Rows L2
def top (i : Nat) : Stmt := PySem.Challenge.pw_isthmus_k01_texts_written.main.body.getD i (.Pass ⟨0, 0, 0, 0⟩)
abbrev sBox : Stmt := top 7
abbrev sTake : Stmt := top 8
abbrev sWord : Stmt := top 9
theorem scBox : FnScope ["script", "at", "cell"] ["script", "at"] (defScope sBox) := ⟨rfl, rfl, rfl, by decide +kernel, rfl, by decide +kernel, by decide +kernel⟩
theorem scTake : FnScope ["box", "many", "told"] ["box", "many"] (defScope sTake) := ⟨rfl, rfl, rfl, by decide +kernel, rfl, by decide +kernel, by decide +kernel⟩
theorem scWord : FnScope ["box", "many", "k"] ["box"] (defScope sWord) := ⟨rfl, rfl, rfl, by decide +kernel, rfl, by decide +kernel, by decide +kernel⟩

/-- the box at b holds z -/
def Bx (H : Hp) (b : Addr) (z : Int) : Prop := H b = some (.lst [.int z])

def spTake : Sp := fun vs H Q _ => ∃ (b : Addr) (z m : Int), vs = [.ref b, .int m] ∧ Bx H b z ∧ 0 < m ∧ m < 1073741824 ∧ Q (.int (z % m)) (upd H b (.lst [.int (z / m)]))
section
variable {P : Program} {w : World} {K : PySem.W.Frag} {mg : Str → Option Value} {base : Heap} {f : Addr} {fd : FuncData}
theorem ok_take (F : Fun K "_law_take" "_law_take" sTake f fd) (mI : mg "int" = none) : FnOk P w K mg base CX0 1 f fd ["box", "many"] spTake := by
  refine F.ok scTake (fun vs H Q E h => ?_) (fun cdv A outer s H vs Q E hr h => ?_)
  · obtain ⟨b, z, m, rfl, _⟩ := h
    rfl
  obtain ⟨b, z, m, rfl, hb, m0, m1, q⟩ := h
  refine ⟨_, pss_cons (ps_set (i := 2) scTake.nd rfl (Or.inl rfl) (pe_op op_mod (pe_callTy call_int1 (by rfl) mI boot_int (pa_cons (pe_ix ix_list (pv 0) pe_int (fun _ _ => rfl)) pa_nil)) (pv 1)))
    (pss_cons (ps_asg (pe_op op_fdiv (pe_ix ix_list (pv 0) pe_int (fun _ _ => rfl)) (pv 1)) (pg_sub (pv 0) pe_int set_list))
    (pss_one (ps_ret (pv 2)))), ?_⟩
  refine ⟨_, rfl, b, _, _, _, rfl, rfl, SqL.of hb, rfl, .inl ⟨_, rfl, _, rfl, _, _, rfl, rfl, m0, ?_⟩⟩
  refine ⟨_, rfl, b, _, _, _, rfl, rfl, SqL.of hb, rfl, _, rfl, _, _, rfl, rfl, ⟨m0, m1⟩, ?_⟩
  refine ⟨_, rfl, b, _, _, _, rfl, rfl, hb, rfl, ?_⟩
  exact ⟨_, rfl, q⟩
end
end KT

namespace KT
open PySem PySem.Spec PyProof.Rows L2
/-- what was tracked besides b stands as before -/
def Kept (b : Addr) (H H' : Hp) : Prop := ∀ a o, a ≠ b → H a = some o → H' a = some o
theorem Kept.refl (b : Addr) (H : Hp) : Kept b H H := fun _ _ _ h => h
theorem Kept.trans {b : Addr} {H H1 H2 : Hp} (x : Kept b H H1) (y : Kept b H1 H2) : Kept b H H2 := fun a o n h => y a o n (x a o n h)
theorem Kept.upd {b : Addr} {H : Hp} {o : HO} : Kept b H (upd H b o) := fun a u n h => by rw [upd_ne n]; exact h
theorem Kept.new {b p : Addr} {H : Hp} {o : HO} (h : H p = none) : Kept b H (L2.upd H p o) := fun a u n e => by rw [upd_ne (ne_of_none e h)]; exact e
theorem Bx.new {b p : Addr} {H : Hp} {z : Int} {o : HO} (x : Bx H b z) (h : H p = none) : Bx (upd H p o) b z := by
  unfold Bx
  rw [upd_ne (ne_of_none x h)]
  exact x
def letter (c : Nat) : Prop := 97 ≤ c ∧ c ≤ 122
/-- a word of letters -/
def Word (l : List Nat) : Prop := 1 ≤ l.length ∧ l.length ≤ 68 ∧ ∀ c ∈ l, letter c
def spBox (K : PySem.W.Frag) : Sp := fun vs H Q _ => ∃ (a : Addr) (ns : List Int) (i : Nat), vs = [.ref a, .int i] ∧ SqL K H a (ns.map V.int) ∧
  ∀ p z, 0 ≤ z → H p = none → Q (.ref p) (upd H p (.lst [.int z]))
def spWord : Sp := fun vs H Q _ => ∃ (b : Addr) (z : Int), vs = [.ref b] ∧ Bx H b z ∧ 0 ≤ z ∧
  ∀ l z' H', Word l → 0 ≤ z' → Bx H' b z' → Kept b H H' → Q (.str (SX.S l)) H'
section
variable {P : Program} {w : World} {K : PySem.W.Frag} {mg : Str → Option Value} {base : Heap} {f : Addr} {fd : FuncData}
theorem ok_box (F : Fun K "_law_box" "_law_box" sBox f fd) (mL : mg "len" = none) (mA : mg "abs" = none) (mI : mg "int" = none) : FnOk P w K mg base CX0 1 f fd ["script", "at"] (spBox K) := by
  refine F.ok scBox (fun vs H Q E h => ?_) (fun cdv A outer s H vs Q E hr h => ?_)
  · obtain ⟨a, ns, i, rfl, _⟩ := h
    rfl
  obtain ⟨a, ns, i, rfl, hS, q⟩ := h
  refine ⟨_, pss_cons (ps_set (i := 2) scBox.nd rfl (Or.inl rfl) pe_int)
    (pss_cons (ps_if (pt_cmpR op_lt (pv 1) (pe_callB call_len_seq (by rfl) mL PySem.boot_len (pa_cons (pv 0) pa_nil)) (nomark _))
      (pss_one (ps_set (i := 2) scBox.nd rfl (Or.inl rfl) (pe_callB call_abs (by rfl) mA (by decide +kernel) (pa_cons (pe_callTy call_int1 (by rfl) mI boot_int (pa_cons (pe_ix ix_list (pv 0) (pv 1) (fun _ _ => rfl)) pa_nil)) pa_nil)))) pss_nil)
    (pss_cons (ps_if (pt_cmpR op_lt (pv 2) (pe_op op_pow pe_int pe_int) (nomark _))
      (pss_one (ps_set (i := 2) scBox.nd rfl (Or.inl rfl) (pe_op op_mul (pv 2) pe_int))) pss_nil)
    (pss_one (ps_ret (pe_lst (pa_cons (pe_op op_mul (pe_op op_mul (pe_op op_mul (pe_op op_mul (pe_op op_mul (pe_op op_mul (pe_op op_mul (pe_op op_mul (pv 2) pe_int) pe_int) pe_int) pe_int) pe_int) pe_int) pe_int) pe_int) pa_nil)))))), ?_⟩
  -- the end, for any cell that is not below nought
  have fin : ∀ c : Int, 0 ≤ c → ∀ (H' : Hp), H' = H → tSeq (tIfS (tTest (tOp (rI0 fun i j => .bl (decide (i < j))) (tVar 2) (tOp (rI CPow fun i j => .int (i ^ j.toNat)) (tC (.int 10)) (tC (.int 18))))) (tAsg (tOp (rI CMul fun i j => .int (i * j)) (tVar 2) (tC (.int 998244359987710471))) (gName 2)) tNext)
      (tRet (tLst (tCons (tOp (rI CMul fun i j => .int (i * j)) (tOp (rI CMul fun i j => .int (i * j)) (tOp (rI CMul fun i j => .int (i * j)) (tOp (rI CMul fun i j => .int (i * j)) (tOp (rI CMul fun i j => .int (i * j)) (tOp (rI CMul fun i j => .int (i * j)) (tOp (rI CMul fun i j => .int (i * j)) (tOp (rI CMul fun i j => .int (i * j)) (tVar 2) (tC (.int 2147483647))) (tC (.int 1000000007))) (tC (.int 998244353))) (tC (.int 4294967291))) (tC (.int 982451653))) (tC (.int 67280421310721))) (tC (.int 2305843009213693951))) (tC (.int 999999999989))) tNil)))
      { nx := fun _ H' => Q .non H', rt := Q } [some (.ref a), some (.int (i : Int)), some (.int c)] H' := by
    intro c hc H' e
    subst e
    have last : ∀ d : Int, 0 ≤ d → (tRet (tLst (tCons (tOp (rI CMul fun i j => .int (i * j)) (tOp (rI CMul fun i j => .int (i * j)) (tOp (rI CMul fun i j => .int (i * j)) (tOp (rI CMul fun i j => .int (i * j)) (tOp (rI CMul fun i j => .int (i * j)) (tOp (rI CMul fun i j => .int (i * j)) (tOp (rI CMul fun i j => .int (i * j)) (tOp (rI CMul fun i j => .int (i * j)) (tVar 2) (tC (.int 2147483647))) (tC (.int 1000000007))) (tC (.int 998244353))) (tC (.int 4294967291))) (tC (.int 982451653))) (tC (.int 67280421310721))) (tC (.int 2305843009213693951))) (tC (.int 999999999989))) tNil)))
      { nx := fun _ H' => Q .non H', rt := Q } [some (.ref a), some (.int (i : Int)), some (.int d)] H' := by
      intro d hd
      refine ⟨_, rfl, _, _, rfl, rfl, .inr ⟨by decide, by decide⟩, _, _, rfl, rfl, .inr ⟨by decide, by decide⟩, _, _, rfl, rfl, .inr ⟨by decide, by decide⟩, _, _, rfl, rfl, .inr ⟨by decide, by decide⟩, _, _, rfl, rfl, .inr ⟨by decide, by decide⟩, _, _, rfl, rfl, .inr ⟨by decide, by decide⟩, _, _, rfl, rfl, .inr ⟨by decide, by decide⟩, _, _, rfl, rfl, .inr ⟨by decide, by decide⟩, by show 1 ≤ sizeLine; decide, fun p hp => ?_⟩
      exact q p _ (by omega) hp
    refine ⟨_, rfl, _, _, rfl, rfl, ⟨by decide, by decide, by decide⟩, _, _, rfl, rfl, _, rfl, ?_⟩
    refine ite2 (fun e => ?_) (fun e => ?_)
    · exact ⟨_, rfl, _, _, rfl, rfl, .inr ⟨by decide, by decide⟩, last _ (by omega)⟩
    · exact last c hc
  refine ⟨_, rfl, _, rfl, a, _, rfl, .inl hS, _, _, rfl, rfl, _, rfl, ?_⟩
  refine ite2 (fun e => ?_) (fun e => ?_)
  · have lt : i < ns.length := by
      have h := of_decide_eq_true e
      rw [List.length_map] at h
      omega
    have g : (ns.map V.int)[i]? = some (.int ns[i]) := by
      rw [List.getElem?_map, List.getElem?_eq_getElem lt]
      rfl
    refine ⟨_, rfl, _, rfl, a, _, _, _, rfl, rfl, hS, atI_nat g, .inl ⟨_, rfl, _, rfl, ?_⟩⟩
    exact fin _ (by split <;> omega) H rfl
  · exact fin 0 (by omega) H rfl
end
end KT

namespace KT
open PySem PySem.Spec PyProof.Rows L2
open C8 (Cal pe_c)
theorem mod_lt' {z m : Int} (h : 0 < m) : 0 ≤ z % m ∧ z % m < m := ⟨Int.emod_nonneg _ (by omega), Int.emod_lt_of_pos _ h⟩
theorem div_nn {z m : Int} (h : 0 ≤ z) (hm : 0 < m) : 0 ≤ z / m := Int.ediv_nonneg h (by omega)
def abc : List Nat := [97, 98, 99, 100, 101, 102, 103, 104, 105, 106, 107, 108, 109, 110, 111, 112, 113, 114, 115, 116, 117, 118, 119, 120, 121, 122]
theorem abc_eq : (("abcdefghijklmnopqrstuvwxyz" : Str)) = SX.S abc := by decide +kernel
theorem abc_at {k : Nat} (h : k < 26) : abc[k]? = some (97 + k) := by
  have : ∀ k : Fin 26, abc[k.val]? = some (97 + k.val) := by decide +kernel
  exact this ⟨k, h⟩
theorem joinL_nil : ∀ ys : List (List Nat), TL.joinL [] ys = ys.flatten
  | [] => rfl
  | [x] => by simp [TL.joinL]
  | x :: y :: r => by
    have ih := joinL_nil (y :: r)
    show x ++ ([] ++ TL.joinL [] (y :: r)) = _
    rw [ih]
    simp
section
variable {P : Program} {w : World} {K : PySem.W.Frag} {mg : Str → Option Value} {base : Heap} {f : Addr} {fd : FuncData}
theorem ok_word (F : Fun K "_law_word" "_law_word" sWord f fd) (cT : Cal P w K mg base 1 "_law_take" spTake []) (mR : mg "range" = none) : FnOk P w K mg base CX0 2 f fd ["box"] spWord := by
  refine F.ok scWord (fun vs H Q E h => ?_) (fun cdv A outer s H vs Q E hr h => ?_)
  · obtain ⟨b, z, rfl, _⟩ := h
    rfl
  obtain ⟨b, z, rfl, hb, hz, q⟩ := h
  refine ⟨_, pss_cons (ps_set (i := 1) scWord.nd rfl (Or.inl rfl) (pe_ifExp (pt_cmpR op_gt (pe_c cT hr (by decide) (by rfl) (pa_cons (pv 0) (pa_cons pe_int pa_nil))) pe_int (nomark _))
      (pe_op op_add pe_int (pe_c cT hr (by decide) (by rfl) (pa_cons (pv 0) (pa_cons pe_int pa_nil)))) (pe_op op_add pe_int (pe_c cT hr (by decide) (by rfl) (pa_cons (pv 0) (pa_cons pe_int pa_nil))))))
    (pss_one (ps_ret (pe_join pe_str (pe_lc (own := [("k", 2)]) (g := gName 2) rfl scWord.nd (pi_range1 (by rfl) mR (pa_cons (pv 1) pa_nil)) (blkOk_by (N := ["box", "many", "k"]) (sc := defScope sWord) (by decide +kernel)) (fun _ _ _ _ _ => pg_name (i := 2) scWord.nd rfl (Or.inl rfl)) (fun _ _ _ _ _ => pts_nil)
      (fun _ _ _ _ _ => pe_ix ix_str pe_str (pe_c cT hr (by decide) (by rfl) (pa_cons (pv 0) (pa_cons pe_int pa_nil))) (fun _ _ => rfl)))))), ?_⟩
  have fin : ∀ (m : Int) (z1 : Int) (H1 : Hp), 1 ≤ m → m ≤ 68 → 0 ≤ z1 → Bx H1 b z1 → Kept b H H1 → tRet (tM1 (fun x xs H Q => ∃ a p, ∃ ys : List Str, x = .str a ∧ xs = [.ref p] ∧ (SqL K H p (ys.map V.str) ∨ SqT K H p (ys.map V.str)) ∧ (ys.map (·.length)).sum + ys.length * a.length ≤ 16777216 ∧ Q (.str (Txt.join a ys)) H) (tC (.str "")) (tLc (iRng1 (tCons (tVar 1) tNil)) (gName 2) tYes (tOp rIxS (tC (.str "abcdefghijklmnopqrstuvwxyz")) (tCall spTake [] E0 (tCons (tVar 0) (tCons (tC (.int 26)) tNil)))) [2]))
      { nx := fun _ H' => Q .non H', rt := Q } [some (.ref b), some (.int m), none] H1 := by
    intro m z1 H1 m1 m2 hz1 hb1 k1
    refine ⟨⟨_, rfl⟩, _, rfl, m, rfl, by omega, by omega, fun D hD => ?_⟩
    refine lc_range (n := m.toNat) (fun i H2 => ∃ (l : List Nat) (z2 : Int), l.length = i ∧ (∀ c ∈ l, letter c) ∧ 0 ≤ z2 ∧ Bx H2 b z2 ∧ Kept b H1 H2 ∧ H2 D = some (.lst (l.map fun c => V.str (SX.S [c])))) ⟨[], z1, rfl, (fun _ h => by cases h), hz1, hb1.new hD, Kept.new hD, upd_same⟩ (fun i H2 hi hP => ?_) (fun H2 hP => ?_)
    · obtain ⟨l, z2, rfl, hl, hz2, hb2, k2, hD2⟩ := hP
      have nDb : D ≠ b := fun e => by subst e; rw [hb1] at hD; cases hD
      refine ⟨rfl, ?_⟩
      refine ⟨_, rfl, b, z2, 26, rfl, hb2, by decide, by decide, ?_⟩
      have hm := mod_lt' (z := z2) (m := 26) (by decide)
      obtain ⟨kk, hk⟩ : ∃ kk : Nat, z2 % 26 = (kk : Int) := ⟨(z2 % 26).toNat, by omega⟩
      have hk26 : kk < 26 := by omega
      refine ⟨_, z2 % 26, 97 + kk, rfl, rfl, by decide +kernel, ?_, ?_⟩
      · rw [hk, abc_eq]
        exact atI_nat (abc_at hk26)
      · have eD : (upd H2 b (.lst [.int (z2 / 26)])) D = some (.lst (l.map fun c => V.str (SX.S [c]))) := by rw [upd_ne nDb]; exact hD2
        refine ⟨_, eD, ?_, l ++ [97 + kk], z2 / 26, by simp, ?_, div_nn hz2 (by decide), ?_, ?_, ?_⟩
        · rw [List.length_map]
          exact small1000 (by omega)
        · intro c hc
          rcases List.mem_append.mp hc with h | h
          · exact hl c h
          · rw [List.mem_singleton.mp h]
            exact ⟨by omega, by omega⟩
        · unfold Bx
          rw [upd_ne nDb.symm, upd_same]
        · intro a o hab ha
          have na : a ≠ D := ne_of_none ha hD
          rw [upd_ne na, upd_ne hab]
          exact k2 a o hab ha
        · rw [upd_same, List.map_append]
          rfl
    · obtain ⟨l, z2, hlen, hl, hz2, hb2, k2, hD2⟩ := hP
      refine ⟨_, D, l.map fun c => SX.S [c], rfl, rfl, .inl (SqL.of (by rw [List.map_map]; exact hD2)), ?_, ?_⟩
      · have e1 : ((l.map fun c => SX.S [c]).map (·.length)) = l.map fun _ => 1 := by
          rw [List.map_map]
          exact List.map_congr_left fun c _ => SX.S_len [c]
        have e2 : ∀ l : List Nat, (l.map fun _ => 1).sum = l.length := by
          intro l
          induction l with
          | nil => rfl
          | cons x r ih => simp [ih]; omega
        rw [e1, e2, show (("" : Str)).length = 0 by decide +kernel]
        omega
      · have e3 : Txt.join "" (l.map fun c => SX.S [c]) = SX.S l := by
          have e := SX.join_S [] (l.map fun c => [c])
          rw [List.map_map] at e
          rw [show (("" : Str)) = SX.S [] by decide +kernel]
          refine e.trans (congrArg SX.S ?_)
          rw [joinL_nil]
          clear e hD2 hl hlen
          induction l with
          | nil => rfl
          | cons x r ih => simp [ih]
        rw [e3]
        exact q l z2 H2 ⟨by omega, by omega, hl⟩ hz2 hb2 (k1.trans k2)
  have hm6 := mod_lt' (z := z) (m := 6) (by decide)
  refine ⟨_, rfl, b, z, 6, rfl, hb, by decide, by decide, _, _, rfl, rfl, _, rfl, ?_⟩
  have z6 := div_nn hz (m := 6) (by decide)
  refine ite2 (fun e => ?_) (fun e => ?_)
  · have h8 := mod_lt' (z := z / 6) (m := 8) (by decide)
    refine ⟨_, rfl, b, z / 6, 8, rfl, upd_same, by decide, by decide, _, _, rfl, rfl, ?_⟩
    exact fin _ (z / 6 / 8) _ (by omega) (by omega) (div_nn z6 (by decide)) upd_same (Kept.upd.trans Kept.upd)
  · have h60 := mod_lt' (z := z / 6) (m := 60) (by decide)
    refine ⟨_, rfl, b, z / 6, 60, rfl, upd_same, by decide, by decide, _, _, rfl, rfl, ?_⟩
    exact fin _ (z / 6 / 60) _ (by omega) (by omega) (div_nn z6 (by decide)) upd_same (Kept.upd.trans Kept.upd)
end
end KT

namespace KT
open PySem PySem.Spec PyProof.Rows L2
open C8 (Cal pe_c)
section
variable {X : Cx}
theorem op_repS : OpR X (binaryOp .Mult) (fun x y H Q => ∃ z n, x = .str z ∧ y = .int n ∧ MulOk z n ∧ Q (.str (Txt.mul z n)) H) := by
  intro pins s σ H x y v u Q I rx ry h
  obtain ⟨z, n, rfl, rfl, ok, q⟩ := h
  obtain ⟨t, rfl⟩ := rx
  obtain ⟨t', rfl⟩ := ry
  exact SB.mul ok fun t'' k => ⟨.str _, H, I.tok _, ⟨_, rfl⟩, q⟩
end
theorem mulOk1 {c : Nat} {n : Int} (h0 : -(2 ^ 63 : Int) ≤ n) (h1 : n ≤ 1000000) : MulOk (SX.S [c]) n := by
  have := @mulOk_of
  exact mulOk_of 16 1048576 (by rw [SX.S_len]; show 1 ≤ 16; decide) (by omega) h0 (by decide) (by decide)
theorem foldl_rep (c : Nat) : ∀ (k : Nat) (a : Array Nat), ((List.replicate k #[c]).foldl (· ++ ·) a) = a ++ (List.replicate k c).toArray
  | 0, a => by simp
  | k + 1, a => by
    rw [List.replicate_succ, List.foldl_cons, foldl_rep c k]
    apply Array.ext'
    simp [List.replicate_succ]
theorem mul1 {c : Nat} {n : Int} : Txt.mul (SX.S [c]) n = SX.S (List.replicate n.toNat c) := by
  unfold Txt.mul
  by_cases h : n < 1
  · rw [if_pos h, show n.toNat = 0 by omega]
    rfl
  · rw [if_neg h]
    by_cases h1 : n = 1
    · subst h1
      rfl
    · have h2 : (n == 1 || (SX.S [c]).length == 0) = false := by
        rw [SX.S_len]
        simp [h1]
      rw [h2]
      show (⟨(List.replicate n.toNat #[c]).foldl (· ++ ·) #[]⟩ : Str) = _
      rw [foldl_rep]
      simp
end KT

namespace KT
open PySem PySem.Spec PyProof.Rows L2
open C8 (Cal pe_c)
abbrev sFig : Stmt := top 10
abbrev sNum : Stmt := top 11
abbrev sInt : Stmt := top 12
theorem scFig : FnScope ["box", "many", "row", "k"] ["box"] (defScope sFig) := ⟨rfl, rfl, rfl, by decide +kernel, rfl, by decide +kernel, by decide +kernel⟩
theorem scNum : FnScope ["figures", "whole", "k", "part"] ["figures"] (defScope sNum) := ⟨rfl, rfl, rfl, by decide +kernel, rfl, by decide +kernel, by decide +kernel⟩
theorem scInt : FnScope ["box", "figures"] ["box"] (defScope sInt) := ⟨rfl, rfl, rfl, by decide +kernel, rfl, by decide +kernel, by decide +kernel⟩
/-- figures of a number, without other leading noughts than that of 0 -/
def Figs (l : List Nat) : Prop := NumText.AllDigits l ∧ (l = [48] ∨ ∃ c r, l = c :: r ∧ 49 ≤ c)
theorem Figs.ne {l : List Nat} (h : Figs l) : l ≠ [] := by
  rcases h.2 with rfl | ⟨c, r, rfl, _⟩ <;> simp
theorem Figs.num {l : List Nat} (h : Figs l) : TL.numL (NumText.digitsVal l) = l := by
  have e := NumText.toDigits_digitsVal (l.length - 1) l (by have := List.length_pos_iff.mpr h.ne; omega) h.1 (by
    rcases h.2 with rfl | h2
    · exact .inl rfl
    · exact .inr h2)
  unfold TL.numL
  rw [e, List.map_map]
  have : ∀ l : List Nat, NumText.AllDigits l → l.map (Char.toNat ∘ Char.ofNat) = l := by
    intro l
    induction l with
    | nil => intro _; rfl
    | cons c r ih =>
      intro hd
      rw [List.map_cons, ih hd.tail]
      have hc := hd.head
      have : (Char.ofNat c).toNat = c := by
        have : ∀ d : Fin 10, (Char.ofNat (48 + d.val)).toNat = 48 + d.val := by decide +kernel
        have e := this ⟨c - 48, by omega⟩
        simp only [show 48 + (c - 48) = c by omega] at e
        exact e
      show (Char.ofNat c).toNat :: r = c :: r
      rw [this]
  exact this l h.1
def spFig : Sp := fun vs H Q _ => ∃ (b : Addr) (z : Int), vs = [.ref b] ∧ Bx H b z ∧ 0 ≤ z ∧
  ∀ l z' H', Figs l → l.length ≤ 4400 → 0 ≤ z' → Bx H' b z' → Kept b H H' → Q (.str (SX.S l)) H'
def spNum : Sp := fun vs H Q _ => ∃ l : List Nat, vs = [.str (SX.S l)] ∧ NumText.AllDigits l ∧ l.length ≤ 100000 ∧ Q (.int ((NumText.digitsVal l : Nat) : Int)) H
theorem snocInd {α : Type} {P : List α → Prop} (h0 : P []) (h1 : ∀ b c, P b → P (b ++ [c])) (l : List α) : P l := by
  have : ∀ r : List α, P r.reverse := by
    intro r
    induction r with
    | nil => exact h0
    | cons x r ih =>
      rw [List.reverse_cons]
      exact h1 _ _ ih
  have e := this l.reverse
  rw [List.reverse_reverse] at e
  exact e
theorem digitsVal_app (a b : List Nat) : NumText.digitsVal (a ++ b) = NumText.digitsVal a * 10 ^ b.length + NumText.digitsVal b := by
  induction b using snocInd with
  | h0 => simp [NumText.digitsVal]
  | h1 b c ih =>
    rw [← List.append_assoc, NumText.digitsVal_snoc, ih, NumText.digitsVal_snoc, List.length_append, List.length_singleton, Nat.pow_succ]
    rw [Nat.add_mul, Nat.mul_assoc]
    omega
theorem ten_val (n : Nat) : NumText.digitsVal (49 :: List.replicate n 48) = 10 ^ n := by
  have e := digitsVal_app [49] (List.replicate n 48)
  have z : NumText.digitsVal (List.replicate n 48) = 0 := by
    induction n with
    | zero => rfl
    | succ n ih =>
      rw [List.replicate_succ, NumText.digitsVal_zero]
      exact ih (digitsVal_app [49] (List.replicate n 48))
  rw [z, List.length_replicate] at e
  have e1 : NumText.digitsVal [49] = 1 := rfl
  rw [e1] at e
  rw [show (49 :: List.replicate n 48 : List Nat) = [49] ++ List.replicate n 48 from rfl, e]
  omega
theorem ten_two (n : Nat) : 10 ^ n ≤ 2 ^ (4 * n) := by
  rw [Nat.pow_mul]
  exact Nat.pow_le_pow_left (by decide) n
theorem digitsVal_lt : ∀ l : List Nat, NumText.AllDigits l → NumText.digitsVal l < 10 ^ l.length := by
  intro l
  induction l using snocInd with
  | h0 => intro _; decide
  | h1 b c ih =>
    intro h
    have h1 := ih fun d hd => h d (List.mem_append_left _ hd)
    have h2 := h c (List.mem_append_right _ (List.mem_singleton.mpr rfl))
    rw [NumText.digitsVal_snoc, List.length_append, List.length_singleton, Nat.pow_succ]
    omega
section
variable {P : Program} {w : World} {K : PySem.W.Frag} {mg : Str → Option Value} {base : Heap} {f : Addr} {fd : FuncData}
theorem ok_num (F : Fun K "_law_number" "_law_number" sNum f fd) (mR : mg "range" = none) (mL : mg "len" = none) (mI : mg "int" = none) : FnOk P w K mg base CX0 1 f fd ["figures"] spNum := by
  refine F.ok scNum (fun vs H Q E h => ?_) (fun cdv A outer s H vs Q E hr h => ?_)
  · obtain ⟨l, rfl, _⟩ := h
    rfl
  obtain ⟨l, rfl, hd, hl, q⟩ := h
  refine ⟨_, pss_cons (ps_set (i := 1) scNum.nd rfl (Or.inl rfl) pe_int)
    (pss_cons (ps_for PassesOwn.never rfl (pi_range1 (by rfl) mR (pa_cons (pe_op op_add (pe_op op_fdiv (pe_callB call_len_str (by rfl) mL PySem.boot_len (pa_cons (pv 0) pa_nil)) pe_int) pe_int) pa_nil)) (pg_name (i := 2) scNum.nd rfl (Or.inl rfl))
      (pss_cons (ps_set (i := 3) scNum.nd rfl (Or.inl rfl) (pe_slice sl_str (pv 0) (po_some (pe_op op_mul pe_int (pv 2))) (po_some (pe_op op_add (pe_op op_mul pe_int (pv 2)) pe_int))))
      (pss_one (ps_if (pt_cmpR op_ne (pv 3) pe_str (nomark _)) (pss_one (ps_set (i := 1) scNum.nd rfl (Or.inl rfl)
        (pe_op op_add (pe_op op_mulW (pv 1) (pe_callTy call_int_str (by rfl) mI boot_int (pa_cons (pe_op op_add_str pe_str (pe_op op_repS pe_str (pe_callB call_len_str (by rfl) mL PySem.boot_len (pa_cons (pv 3) pa_nil)))) pa_nil))) (pe_callTy call_int_str (by rfl) mI boot_int (pa_cons (pv 3) pa_nil))))) pss_nil))))
    (pss_one (ps_ret (pv 1)))), ?_⟩
  have e0 : (SX.S l).length = l.length := SX.S_len l
  have hsz : (SX.S l).length ≤ sizeLine := by rw [e0]; exact Nat.le_trans hl (by decide)
  refine ⟨_, rfl, _, rfl, hsz, _, _, rfl, rfl, ⟨by decide, by decide⟩, _, _, rfl, rfl, _, rfl, ?_, ?_, ?_⟩
  · rw [e0]; omega
  · rw [e0]; omega
  rw [e0]
  refine for_range (n := ((l.length : Int) / 500 + 1).toNat) (fun i σ H' => ∃ y2 y3, σ = [some (.str (SX.S l)), some (.int ((NumText.digitsVal (l.take (500 * i)) : Nat) : Int)), y2, y3] ∧ H' = H) ⟨none, none, by rw [Nat.mul_zero, List.take_zero]; rfl, rfl⟩ (fun i σ H' hi hP => ?_) (fun σ H' hP => ?_)
  · obtain ⟨y2, y3, rfl, rfl⟩ := hP
    have ei : (0 : Int) + (i : Int) = ((i : Nat) : Int) := by omega
    have cut : cutS (SX.S l) (some (500 * ((0 : Int) + (i : Int)))) (some (500 * ((0 : Int) + (i : Int)) + 500)) = SX.S ((l.drop (500 * i)).take 500) := by
      have e1 : (500 * ((0 : Int) + (i : Int))) = ((500 * i : Nat) : Int) := by omega
      have e2 : (500 * ((0 : Int) + (i : Int)) + 500) = ((500 * i + 500 : Nat) : Int) := by omega
      rw [e2, e1]
      unfold cutS
      rw [HT.sIx_nat, HT.sIx_nat, e0]
      show SX.S ((l.drop _).take _) = _
      congr 1
      by_cases h : 500 * i ≤ l.length
      · rw [Nat.min_eq_left h]
        by_cases h2 : 500 * i + 500 ≤ l.length
        · rw [Nat.min_eq_left h2, show 500 * i + 500 - 500 * i = 500 by omega]
        · rw [Nat.min_eq_right (by omega), List.take_of_length_le (by rw [List.length_drop]; omega), List.take_of_length_le (by rw [List.length_drop]; omega)]
      · have h1 : min (500 * i) l.length = l.length := Nat.min_eq_right (by omega)
        have h2 : min (500 * i + 500) l.length = l.length := Nat.min_eq_right (by omega)
        rw [h1, h2, List.drop_eq_nil_of_le (Nat.le_refl _), List.drop_eq_nil_of_le (show l.length ≤ 500 * i by omega)]
        simp
    refine ⟨_, rfl, _, rfl, _, _, rfl, rfl, .inl ⟨by decide, by decide⟩, _, rfl, _, rfl, _, _, rfl, rfl, .inl ⟨by decide, by decide⟩, _, _, rfl, rfl, _, rfl, _, rfl, hsz, ?_⟩
    rw [cut]
    have epart : l.take (500 * (i + 1)) = l.take (500 * i) ++ (l.drop (500 * i)).take 500 := by
      rw [show 500 * (i + 1) = 500 * i + 500 by omega, List.take_add]
    generalize hp : (l.drop (500 * i)).take 500 = part at epart ⊢
    have plen : part.length ≤ 500 := by rw [← hp, List.length_take]; omega
    have pd : NumText.AllDigits part := fun d hm => hd d (by rw [← hp] at hm; exact List.mem_of_mem_drop (List.mem_of_mem_take hm))
    have ep0 : (SX.S part).length = part.length := SX.S_len part
    have psz : (SX.S part).length ≤ sizeLine := by rw [ep0]; exact Nat.le_trans plen (by decide)
    refine ⟨_, rfl, rfl, _, rfl, ?_⟩
    by_cases hne : part = []
    · subst hne
      rw [show (!decide (V.str (SX.S []) = V.str "")) = false by decide +kernel]
      refine iteF ?_
      exact ⟨_, _, by rw [epart, List.append_nil]; rfl, rfl⟩
    · have hn : (!decide (V.str (SX.S part) = V.str "")) = true := by
        rw [Bool.not_eq_true', decide_eq_false_iff_not]
        intro e
        have e2 : SX.S part = SX.S [] := V.str.inj e
        exact hne (SX.S_inj e2)
      rw [hn]
      refine iteT ?_
      have i1 : intText? (("1" : Str) ++ Txt.mul "0" ((SX.S part).length : Int)) = some (((10 ^ part.length : Nat)) : Int) := by
        rw [show (("1" : Str)) = SX.S [49] by decide +kernel, show (("0" : Str)) = SX.S [48] by decide +kernel, mul1, SX.S_cat, ep0]
        rw [SX.int_S (by
          rw [List.all_eq_true]
          intro c hc
          rcases List.mem_append.mp hc with h | h
          · rw [List.mem_singleton.mp h]; decide
          · rw [List.eq_of_mem_replicate h]; decide) (by simp) (by simp; omega)]
        rw [show [49] ++ List.replicate ((part.length : Int)).toNat 48 = 49 :: List.replicate part.length 48 by simp, ten_val]
      have i2 : intText? (SX.S part) = some ((NumText.digitsVal part : Nat) : Int) := SX.int_S (by
          rw [List.all_eq_true]
          intro c hc
          have := pd c hc
          simp [this]) hne (by omega)
      have l1 : (("1" : Str) ++ Txt.mul "0" ((SX.S part).length : Int)).length ≤ 640 := by
        rw [show (("1" : Str)) = SX.S [49] by decide +kernel, show (("0" : Str)) = SX.S [48] by decide +kernel, mul1, SX.S_cat, ep0, SX.S_len]
        simp
        omega
      refine ⟨_, rfl, _, rfl, _, rfl, psz, _, _, rfl, rfl, ?_, _, _, rfl, rfl, ?_, _, _, rfl, i1, l1, _, _, rfl, rfl, ?_, _, rfl, _, _, rfl, i2, by omega, _, _, rfl, rfl, some (.int ((0 : Int) + (i : Int))), some (.str (SX.S part)), ?_, rfl⟩
      · rw [show (("0" : Str)) = SX.S [48] by decide +kernel]
        exact mulOk1 (by omega) (by omega)
      · rw [show (("0" : Str)) = SX.S [48] by decide +kernel, show (("1" : Str)) = SX.S [49] by decide +kernel, mul1, SX.S_len, SX.S_len, List.length_replicate, ep0]
        exact Nat.le_trans (show _ ≤ 1000 by simp; omega) (by decide)
      · have b1 := digitsVal_lt (l.take (500 * i)) fun d hm => hd d (List.mem_of_mem_take hm)
        have b2 : (l.take (500 * i)).length ≤ 100000 := by rw [List.length_take]; omega
        exact wide_mul (a := 4 * 100000) (b := 4 * 500 + 1) (by
          rw [Int.natAbs_natCast]
          exact Nat.lt_of_lt_of_le b1 (Nat.le_trans (Nat.pow_le_pow_right (by decide) b2) (ten_two _))) (by
          rw [Int.natAbs_natCast]
          exact Nat.lt_of_le_of_lt (Nat.le_trans (Nat.pow_le_pow_right (by decide) plen) (ten_two _)) (Nat.pow_lt_pow_right (by decide) (by decide))) (by decide) (by decide) (by decide)
      · rw [epart, digitsVal_app]
        show [some (V.str (SX.S l)), some (V.int _), some (V.int (0 + (i : Int))), some (V.str (SX.S part))] = _
        simp
  · obtain ⟨y2, y3, rfl, rfl⟩ := hP
    refine ⟨_, rfl, ?_⟩
    rw [List.take_of_length_le (by omega)]
    exact q
end
end KT

namespace KT
open PySem PySem.Spec PyProof.Rows L2
open C8 (Cal pe_c)
theorem Bx.ne {H : Hp} {b D : Addr} {z : Int} (x : Bx H b z) (h : H D = none) : D ≠ b := fun e => by
  subst e
  rw [x] at h
  cases h
theorem figs9 {k : Nat} (h : k < 9) : ∃ m : Int, ([.int 1, .int 2, .int 3, .int 4, .int 9, .int 19, .int 41, .int 51, .int 4400] : List V)[k]? = some (.int m) ∧ 1 ≤ m ∧ m ≤ 4400 := by
  have : ∀ k : Fin 9, ∃ m : Nat, ([.int 1, .int 2, .int 3, .int 4, .int 9, .int 19, .int 41, .int 51, .int 4400] : List V)[k.val]? = some (.int (m : Int)) ∧ 1 ≤ m ∧ m ≤ 4400 := by
    intro k
    match k with
    | ⟨0, _⟩ => exact ⟨1, rfl, by decide, by decide⟩
    | ⟨1, _⟩ => exact ⟨2, rfl, by decide, by decide⟩
    | ⟨2, _⟩ => exact ⟨3, rfl, by decide, by decide⟩
    | ⟨3, _⟩ => exact ⟨4, rfl, by decide, by decide⟩
    | ⟨4, _⟩ => exact ⟨9, rfl, by decide, by decide⟩
    | ⟨5, _⟩ => exact ⟨19, rfl, by decide, by decide⟩
    | ⟨6, _⟩ => exact ⟨41, rfl, by decide, by decide⟩
    | ⟨7, _⟩ => exact ⟨51, rfl, by decide, by decide⟩
    | ⟨8, _⟩ => exact ⟨4400, rfl, by decide, by decide⟩
  obtain ⟨m, e, h1, h2⟩ := this ⟨k, h⟩
  exact ⟨m, e, by omega, by omega⟩
theorem heads3 {k : Nat} (h : k < 3) : ∃ c : Nat, ([.str "1", .str "9", .str "5"] : List V)[k]? = some (.str (SX.S [c])) ∧ 49 ≤ c ∧ c ≤ 57 := by
  have : ∀ k : Fin 3, ∃ c : Nat, ([.str "1", .str "9", .str "5"] : List V)[k.val]? = some (.str (SX.S [c])) ∧ 49 ≤ c ∧ c ≤ 57 := by
    intro k
    match k with
    | ⟨0, _⟩ => exact ⟨49, show some (V.str "1") = _ by decide +kernel, by decide, by decide⟩
    | ⟨1, _⟩ => exact ⟨57, show some (V.str "9") = _ by decide +kernel, by decide, by decide⟩
    | ⟨2, _⟩ => exact ⟨53, show some (V.str "5") = _ by decide +kernel, by decide, by decide⟩
  exact this ⟨k, h⟩
theorem toNat_of {z : Int} (h : 0 ≤ z) : ∃ k : Nat, z = (k : Int) := ⟨z.toNat, by omega⟩
theorem str1 {k : Nat} (h : k < 10) : (toString ((k : Nat) : Int) : Str) = SX.S [48 + k] := by
  have : ∀ k : Fin 10, (Str.ofString (toString ((k.val : Nat) : Int))) = SX.S [48 + k.val] := by decide +kernel
  exact this ⟨k, h⟩
/-- the items of a list of texts of one sign, joined -/
theorem join1 (l : List Nat) : Txt.join "" (l.map fun c => SX.S [c]) = SX.S l := by
  have e := SX.join_S [] (l.map fun c => [c])
  rw [List.map_map] at e
  rw [show (("" : Str)) = SX.S [] by decide +kernel]
  refine e.trans (congrArg SX.S ?_)
  rw [joinL_nil]
  clear e
  induction l with
  | nil => rfl
  | cons x r ih => simp [ih]
theorem len1 (l : List Nat) : ((l.map fun c => SX.S [c]).map (·.length)).sum = l.length := by
  have e1 : ((l.map fun c => SX.S [c]).map (·.length)) = l.map fun _ => 1 := by
    rw [List.map_map]
    exact List.map_congr_left fun c _ => SX.S_len [c]
  rw [e1]
  induction l with
  | nil => rfl
  | cons x r ih =>
    have := ih (by
      rw [List.map_map]
      exact List.map_congr_left fun c _ => SX.S_len [c])
    simp [this]
    omega
section
variable {P : Program} {w : World} {K : PySem.W.Frag} {mg : Str → Option Value} {base : Heap} {f : Addr} {fd : FuncData}
theorem ok_fig (F : Fun K "_law_figures" "_law_figures" sFig f fd) (cT : Cal P w K mg base 1 "_law_take" spTake []) (mR : mg "range" = none) (mM : mg "min" = none) (mS : mg "str" = none) (mL : mg "len" = none) : FnOk P w K mg base CX0 2 f fd ["box"] spFig := by
  refine F.ok scFig (fun vs H Q E h => ?_) (fun cdv A outer s H vs Q E hr h => ?_)
  · obtain ⟨b, z, rfl, _⟩ := h
    rfl
  obtain ⟨b, z, rfl, hb, hz, q⟩ := h
  refine ⟨_, C8.pss_cut (ps_set (i := 1) scFig.nd rfl (Or.inl rfl) (pe_ifExp (pt_cmpR op_eq (pe_c cT hr (by decide) (by rfl) (pa_cons (pv 0) (pa_cons pe_int pa_nil))) pe_int (nomark _))
      (pe_ix ix_list (pe_lst (pa_cons pe_int (pa_cons pe_int (pa_cons pe_int (pa_cons pe_int (pa_cons pe_int (pa_cons pe_int (pa_cons pe_int (pa_cons pe_int (pa_cons pe_int pa_nil)))))))))) (pe_c cT hr (by decide) (by rfl) (pa_cons (pv 0) (pa_cons pe_int pa_nil))) (fun _ _ => rfl))
      (pe_op op_add pe_int (pe_c cT hr (by decide) (by rfl) (pa_cons (pv 0) (pa_cons pe_int pa_nil))))))
    (C8.pss_cut (ps_set (i := 2) scFig.nd rfl (Or.inl rfl) (pe_join pe_str (pe_lc (own := [("k", 3)]) (g := gName 3) rfl scFig.nd (pi_range1 (by rfl) mR (pa_cons (pe_callB (call_min2 rfl) (by rfl) mM boot_min (pa_cons (pv 1) (pa_cons pe_int pa_nil))) pa_nil)) (blkOk_by (N := ["box", "many", "row", "k"]) (sc := defScope sFig) (by decide +kernel)) (fun _ _ _ _ _ => pg_name (i := 3) scFig.nd rfl (Or.inl rfl)) (fun _ _ _ _ _ => pts_nil)
      (fun _ _ _ _ _ => pe_callTy call_str_int (by rfl) mS boot_str (pa_cons (pe_c cT hr (by decide) (by rfl) (pa_cons (pv 0) (pa_cons pe_int pa_nil))) pa_nil)))))
    (C8.pss_cut (ps_set (i := 2) scFig.nd rfl (Or.inl rfl) (pe_op op_add_str (pe_op op_add_str (pe_ix ix_list (pe_lst (pa_cons pe_str (pa_cons pe_str (pa_cons pe_str pa_nil)))) (pe_c cT hr (by decide) (by rfl) (pa_cons (pv 0) (pa_cons pe_int pa_nil))) (fun _ _ => rfl)) (pe_slice C8.sl_txt (pv 2) (po_some pe_int) po_none))
      (pe_op op_repS pe_str (pe_op op_sub (pv 1) (pe_callB call_len_str (by rfl) mL PySem.boot_len (pa_cons (pv 2) pa_nil))))))
    (pss_one (ps_ret (pe_ifExp (PW.pt (pw_and (pt_cmpR op_eq (pv 1) pe_int (nomark _)) (pw_and1 (pt_cmpR op_eq (pe_c cT hr (by decide) (by rfl) (pa_cons (pv 0) (pa_cons pe_int pa_nil))) pe_int (nomark _))))) pe_str (pv 2))))))
    , ?_⟩
  have nn : ∀ {x m : Int}, 0 ≤ x → 0 < m → 0 ≤ x / m := fun h1 h2 => div_nn h1 h2
  -- many
  refine ⟨fun σ H1 => ∃ (m z1 : Int), σ = [some (.ref b), some (.int m), none, none] ∧ 1 ≤ m ∧ m ≤ 4400 ∧ 0 ≤ z1 ∧ Bx H1 b z1 ∧ Kept b H H1, ?_, ?_⟩
  · refine ⟨_, rfl, b, z, 12, rfl, hb, by decide, by decide, rfl, _, rfl, ?_⟩
    have z1 := nn hz (show (0 : Int) < 12 by decide)
    refine ite2 (fun e => ?_) (fun e => ?_)
    · refine ⟨by show 9 ≤ sizeLine; decide, fun p hp => ?_⟩
      have hb1 : Bx (upd H b (.lst [.int (z / 12)])) b (z / 12) := upd_same
      have npb := hb1.ne hp
      obtain ⟨k, ek⟩ := toNat_of (mod_lt' (z := z / 12) (m := 9) (by decide)).1
      have k9 := (mod_lt' (z := z / 12) (m := 9) (by decide)).2
      obtain ⟨m, em, m1, m2⟩ := figs9 (k := k) (by omega)
      refine ⟨_, rfl, b, z / 12, 9, rfl, hb1.new hp, by decide, by decide, p, _, (k : Int), .int m, rfl, by rw [ek], .inl (.inl ?_), atI_nat em, m, z / 12 / 9, rfl, m1, m2, nn z1 (by decide), upd_same, ?_⟩
      · rw [upd_ne npb, upd_same]
      · exact (Kept.upd.trans (Kept.new hp)).trans Kept.upd
    · have h12 := mod_lt' (z := z / 12) (m := 12) (by decide)
      refine ⟨_, rfl, b, z / 12, 12, rfl, upd_same, by decide, by decide, _, _, rfl, rfl, _, z / 12 / 12, rfl, by omega, by omega, nn z1 (by decide), upd_same, Kept.upd.trans Kept.upd⟩
  rintro σ H1 ⟨m, z1, rfl, m1, m2, hz1, hb1, k1⟩
  -- the figures
  refine ⟨fun σ H2 => ∃ (l : List Nat) (z2 : Int) (y : Option V), σ = [some (.ref b), some (.int m), some (.str (SX.S l)), y] ∧ NumText.AllDigits l ∧ 1 ≤ l.length ∧ (l.length : Int) ≤ m ∧ 0 ≤ z2 ∧ Bx H2 b z2 ∧ Kept b H H2, ?_, ?_⟩
  · refine ⟨⟨_, rfl⟩, _, rfl, _, _, rfl, ?_⟩
    have e40 : (if (40 : Int) < m then (40 : Int) else m) = min m 40 := by split <;> omega
    refine ⟨min m 40, by rw [← e40], by omega, by omega, fun D hD => ?_⟩
    have nDb := hb1.ne hD
    refine lc_range (n := (min m 40).toNat) (fun i H2 => ∃ (l : List Nat) (z2 : Int), l.length = i ∧ NumText.AllDigits l ∧ 0 ≤ z2 ∧ Bx H2 b z2 ∧ Kept b H1 H2 ∧ H2 D = some (.lst (l.map fun c => V.str (SX.S [c])))) ⟨[], z1, rfl, (fun _ h => by cases h), hz1, hb1.new hD, Kept.new hD, upd_same⟩ (fun i H2 hi hP => ?_) (fun H2 hP => ?_)
    · obtain ⟨l, z2, rfl, hl, hz2, hb2, k2, hD2⟩ := hP
      refine ⟨rfl, ?_⟩
      have hm := mod_lt' (z := z2) (m := 10) (by decide)
      obtain ⟨kk, hk⟩ := toNat_of hm.1
      have hk10 : kk < 10 := by omega
      refine ⟨_, rfl, b, z2, 10, rfl, hb2, by decide, by decide, z2 % 10, rfl, ?_, ?_⟩
      · rw [hk, Int.natAbs_natCast]
        exact Nat.lt_of_le_of_lt (Nat.log2_le_self kk) (by omega)
      · have eD : (upd H2 b (.lst [.int (z2 / 10)])) D = some (.lst (l.map fun c => V.str (SX.S [c]))) := by rw [upd_ne nDb]; exact hD2
        refine ⟨_, eD, ?_, l ++ [48 + kk], z2 / 10, by simp, ?_, div_nn hz2 (by decide), ?_, ?_, ?_⟩
        · rw [List.length_map]
          exact small1000 (by omega)
        · intro c hc
          rcases List.mem_append.mp hc with h | h
          · exact hl c h
          · rw [List.mem_singleton.mp h]
            exact ⟨by omega, by omega⟩
        · unfold Bx
          rw [upd_ne nDb.symm, upd_same]
        · intro a o hab ha
          have na : a ≠ D := ne_of_none ha hD
          rw [upd_ne na, upd_ne hab]
          exact k2 a o hab ha
        · rw [upd_same, List.map_append, hk, str1 hk10]
          rfl
    · obtain ⟨l, z2, hlen, hl, hz2, hb2, k2, hD2⟩ := hP
      refine ⟨_, D, l.map fun c => SX.S [c], rfl, rfl, .inl (SqL.of (by rw [List.map_map]; exact hD2)), ?_, l, z2, none, ?_, hl, by omega, by omega, hz2, hb2, k1.trans k2⟩
      · rw [len1, List.length_map, show (("" : Str)).length = 0 by decide +kernel]
        omega
      · rw [join1]
        rfl
  rintro σ H2 ⟨l, z2, y, rfl, hl, l1, l2, hz2, hb2, k2⟩
  -- the row
  refine ⟨fun σ H3 => ∃ (l : List Nat) (z3 : Int) (y : Option V), σ = [some (.ref b), some (.int m), some (.str (SX.S l)), y] ∧ Figs l ∧ (l.length : Int) = m ∧ 0 ≤ z3 ∧ Bx H3 b z3 ∧ Kept b H H3, ?_, ?_⟩
  · have e0 : (SX.S l).length = l.length := SX.S_len l
    have hsz : (SX.S l).length ≤ sizeLine := by rw [e0]; exact Nat.le_trans (show l.length ≤ 4400 by omega) (by decide)
    refine ⟨by show 3 ≤ sizeLine; decide, fun p hp => ?_⟩
    have npb := hb2.ne hp
    obtain ⟨k, ek⟩ := toNat_of (mod_lt' (z := z2) (m := 3) (by decide)).1
    have k3 := (mod_lt' (z := z2) (m := 3) (by decide)).2
    obtain ⟨c, ec, c1, c2⟩ := heads3 (k := k) (by omega)
    refine ⟨_, rfl, b, z2, 3, rfl, hb2.new hp, by decide, by decide, p, _, (k : Int), _, rfl, by rw [ek], .inl (.inl ?_), atI_nat ec, ?_⟩
    · rw [upd_ne npb, upd_same]
    have es : Txt.slice (SX.S l) (some 1) none = SX.S (l.drop 1) := SX.slice_from (a := l) (i := 1) (by decide)
    refine ⟨_, rfl, 1, rfl, _, rfl, hsz, ?_⟩
    rw [es]
    refine ⟨_, _, rfl, rfl, ?_, ?_⟩
    · rw [SX.S_len, SX.S_len, List.length_drop]
      exact Nat.le_trans (show _ ≤ 4401 by simp; omega) (by decide)
    rw [SX.S_cat]
    refine ⟨_, rfl, _, rfl, _, rfl, hsz, _, _, rfl, rfl, _, _, rfl, rfl, ?_, _, _, rfl, rfl, ?_, ?_⟩
    · rw [show (("0" : Str)) = SX.S [48] by decide +kernel, e0]
      exact mulOk1 (by omega) (by omega)
    · rw [show (("0" : Str)) = SX.S [48] by decide +kernel, mul1, SX.S_len, SX.S_len, e0, List.length_replicate]
      exact Nat.le_trans (show _ ≤ 8900 by simp; omega) (by decide)
    rw [show (("0" : Str)) = SX.S [48] by decide +kernel, mul1, SX.S_cat, e0]
    refine ⟨[c] ++ l.drop 1 ++ List.replicate (m - (l.length : Int)).toNat 48, z2 / 3, y, rfl, ⟨?_, .inr ⟨c, _, rfl, c1⟩⟩, ?_, nn hz2 (by decide), upd_same, (k2.trans (Kept.new hp)).trans Kept.upd⟩
    · intro d hd
      rcases List.mem_append.mp hd with h | h
      · rcases List.mem_append.mp h with h | h
        · rw [List.mem_singleton.mp h]
          omega
        · exact hl d (List.mem_of_mem_drop h)
      · rw [List.eq_of_mem_replicate h]
        decide
    · simp
      omega
  rintro σ H3 ⟨l, z3, y, rfl, hl, hlm, hz3, hb3, k3⟩
  -- the end
  refine ⟨_, rfl, rfl, _, rfl, ?_⟩
  have last : ∀ z4 H4, 0 ≤ z4 → Bx H4 b z4 → Kept b H H4 → tVar 2 [some (.ref b), some (.int m), some (.str (SX.S l)), y] H4 Q := fun z4 H4 h1 h2 h3 => ⟨_, rfl, q l z4 H4 hl (by omega) h1 h2 h3⟩
  refine ite2 (fun e => ?_) (fun e => ?_)
  · refine ⟨_, rfl, b, z3, 3, rfl, hb3, by decide, by decide, rfl, _, rfl, ?_⟩
    have z4 := nn hz3 (show (0 : Int) < 3 by decide)
    refine ite2 (fun e => ?_) (fun e => ?_)
    · have e2 := q [48] (z3 / 3) (upd H3 b (.lst [.int (z3 / 3)])) ⟨(fun d hd => by rw [List.mem_singleton.mp hd]; decide), .inl rfl⟩ (by decide) z4 upd_same (k3.trans Kept.upd)
      rw [show SX.S [48] = (("0" : Str)) by decide +kernel] at e2
      exact e2
    · exact last _ _ z4 upd_same (k3.trans Kept.upd)
  · exact last _ _ hz3 hb3 k3
end
end KT

namespace KT
open PySem PySem.Spec PyProof.Rows L2
open C8 (Cal pe_c)
/-- the text of a whole number -/
def intL (n : Int) : List Nat := if n < 0 then 45 :: TL.numL n.natAbs else TL.numL n.natAbs
theorem str_int (n : Int) : (toString n : Str) = SX.S (intL n) := by
  unfold intL
  by_cases h : n < 0
  · rw [if_pos h]
    have e := PyProof.Rows.toString_neg h
    obtain ⟨k, hk⟩ : ∃ k : Nat, 0 - n = (k : Int) := ⟨n.natAbs, by omega⟩
    rw [hk] at e
    have ek : n.natAbs = k := by omega
    rw [ek]
    show Str.ofString (toString n) = _
    rw [e]
    have ea : ∀ a b : String, Str.ofString (a ++ b) = Str.ofString a ++ Str.ofString b := by
      intro a b
      rw [Str.ofString_eq_toList, Str.ofString_eq_toList, Str.ofString_eq_toList]
      refine TL.ext_tl ?_
      rw [TL.tl_append]
      simp [TL.tl]
    rw [ea, SX.num_S k]
    rw [show Str.ofString "-" = SX.S [45] by decide +kernel, SX.S_cat]
    rfl
  · rw [if_neg h]
    obtain ⟨k, rfl⟩ := toNat_of (show 0 ≤ n by omega)
    rw [Int.natAbs_natCast]
    exact SX.num_S k
/-- what is written and read: words, whole numbers, tuples of these -/
inductive Dat where
  | str (l : List Nat) | int (n : Int) | tup (ds : List Dat)
mutual
def Dat.txt : Dat → List Nat
  | .str l => l
  | .int n => intL n
  | .tup ds => 40 :: (TL.joinL [32] (txts ds) ++ [41])
def txts : List Dat → List (List Nat)
  | [] => []
  | d :: r => d.txt :: txts r
end
theorem txts_map : ∀ ds : List Dat, txts ds = ds.map Dat.txt
  | [] => by simp [txts]
  | d :: r => by simp [txts, txts_map r]
theorem txt_tup (ds : List Dat) : (Dat.tup ds).txt = 40 :: (TL.joinL [32] (ds.map Dat.txt) ++ [41]) := by
  rw [Dat.txt, txts_map]
/-- v is the value d, at most n tuples deep; L tells of what is no tuple -/
def Leaf (v : V) (d : Dat) : Prop := (∃ l, v = .str (SX.S l) ∧ d = .str l) ∨ ∃ n, v = .int n ∧ d = .int n
def DStep (L : V → Dat → Prop) (H : Hp) (R : V → Dat → Prop) (v : V) (d : Dat) : Prop := L v d ∨ ∃ p xs ds, v = .ref p ∧ H p = some (.tup xs) ∧ d = .tup ds ∧ Paired R xs ds
def DVL (L : V → Dat → Prop) (H : Hp) (n : Nat) : V → Dat → Prop := Nat.rec (motive := fun _ => V → Dat → Prop) L (fun _ R => DStep L H R) n
abbrev DV : Hp → Nat → V → Dat → Prop := DVL Leaf
section
variable {L L' : V → Dat → Prop} {H H' : Hp}
theorem DVL.leaf {v : V} {d : Dat} (h : L v d) : ∀ n, DVL L H n v d
  | 0 => h
  | _ + 1 => Or.inl h
theorem DVL.tup {n : Nat} {p : Addr} {xs : List V} {ds : List Dat} (h : H p = some (.tup xs)) (r : Paired (DVL L H n) xs ds) : DVL L H (n + 1) (.ref p) (.tup ds) := Or.inr ⟨p, xs, ds, rfl, h, rfl, r⟩
theorem DVL.cases {n : Nat} {v : V} {d : Dat} (h : DVL L H (n + 1) v d) : L v d ∨ ∃ p xs ds, v = .ref p ∧ H p = some (.tup xs) ∧ d = .tup ds ∧ Paired (DVL L H n) xs ds := h
theorem DVL.up : ∀ {n : Nat} {v : V} {d : Dat}, DVL L H n v d → DVL L H (n + 1) v d
  | 0, _, _, h => Or.inl h
  | n + 1, v, d, h => by
    rcases h.cases with h | ⟨p, xs, ds, e1, e2, e3, r⟩
    · exact Or.inl h
    · exact Or.inr ⟨p, xs, ds, e1, e2, e3, Paired.mono (fun _ _ z => DVL.up z) r⟩
theorem DVL.mono {n m : Nat} {v : V} {d : Dat} (h : DVL L H n v d) (le : n ≤ m) : DVL L H m v d := by
  induction le with
  | refl => exact h
  | step _ ih => exact ih.up
/-- tuples stand still -/
def Tups (H H' : Hp) : Prop := ∀ p xs, H p = some (.tup xs) → H' p = some (.tup xs)
theorem Tups.trans {H1 : Hp} (a : Tups H H1) (b : Tups H1 H') : Tups H H' := fun p xs h => b p xs (a p xs h)
theorem DVL.keep (k : Tups H H') (hL : ∀ v d, L v d → L' v d) : ∀ {n : Nat} {v : V} {d : Dat}, DVL L H n v d → DVL L' H' n v d
  | 0, _, _, h => hL _ _ h
  | n + 1, v, d, h => by
    rcases h.cases with h | ⟨p, xs, ds, e1, e2, e3, r⟩
    · exact Or.inl (hL _ _ h)
    · exact Or.inr ⟨p, xs, ds, e1, k _ _ e2, e3, Paired.mono (fun _ _ z => DVL.keep k hL z) r⟩
end
theorem Kept.tups {b : Addr} {H H' : Hp} {z : Int} (x : Bx H b z) (k : Kept b H H') : Tups H H' := fun p xs h => k p _ (fun e => by
  subst e
  rw [x] at h
  cases h) h
theorem Same.tups {H H' : Hp} (k : Same H H') : Tups H H' := fun p xs h => k p _ h
def spInt : Sp := fun vs H Q _ => ∃ (b : Addr) (z : Int), vs = [.ref b] ∧ Bx H b z ∧ 0 ≤ z ∧
  ∀ n z' p H', (intL n).length ≤ 4401 → 0 ≤ z' → Bx H' b z' → Kept b H H' → H' p = some (.tup [.int n, .str (SX.S (intL n))]) → Q (.ref p) H'
section
variable {P : Program} {w : World} {K : PySem.W.Frag} {mg : Str → Option Value} {base : Heap} {f : Addr} {fd : FuncData}
theorem figs_pos {l : List Nat} (h : Figs l) (h0 : l ≠ [48]) : 0 < NumText.digitsVal l := by
  rcases h.2 with e | ⟨c, r, rfl, h2⟩
  · exact absurd e h0
  · exact NumText.digitsVal_pos h2
theorem figs_int {l : List Nat} (h : Figs l) : intL ((NumText.digitsVal l : Nat) : Int) = l := by
  unfold intL
  rw [if_neg (by omega), Int.natAbs_natCast, h.num]
theorem figs_neg {l : List Nat} (h : Figs l) (h0 : l ≠ [48]) : intL (-((NumText.digitsVal l : Nat) : Int)) = 45 :: l := by
  have hp := figs_pos h h0
  unfold intL
  rw [if_pos (by omega), Int.natAbs_neg, Int.natAbs_natCast, h.num]
theorem ok_int (F : Fun K "_law_integer" "_law_integer" sInt f fd) (cT : Cal P w K mg base 1 "_law_take" spTake []) (cF : Cal P w K mg base 2 "_law_figures" spFig []) (cN : Cal P w K mg base 1 "_law_number" spNum []) : FnOk P w K mg base CX0 3 f fd ["box"] spInt := by
  refine F.ok scInt (fun vs H Q E h => ?_) (fun cdv A outer s H vs Q E hr h => ?_)
  · obtain ⟨b, z, rfl, _⟩ := h
    rfl
  obtain ⟨b, z, rfl, hb, hz, q⟩ := h
  refine ⟨_, pss_cons (ps_set (i := 1) scInt.nd rfl (Or.inl rfl) (pe_c cF hr (by decide) (by rfl) (pa_cons (pv 0) pa_nil)))
    (pss_cons (ps_if (PW.pt (pw_and (pt_cmpR op_ne (pv 1) pe_str (nomark _)) (pw_and1 (pt_cmpR op_eq (pe_c cT hr (by decide) (by rfl) (pa_cons (pv 0) (pa_cons pe_int pa_nil))) pe_int (nomark _)))))
      (pss_one (ps_ret (pe_tup (pa_cons (pe_un un_neg (pe_c cN hr (by decide) (by rfl) (pa_cons (pv 1) pa_nil))) (pa_cons (pe_op op_add_str pe_str (pv 1)) pa_nil))))) pss_nil)
    (pss_one (ps_ret (pe_tup (pa_cons (pe_c cN hr (by decide) (by rfl) (pa_cons (pv 1) pa_nil)) (pa_cons (pv 1) pa_nil)))))), ?_⟩
  refine ⟨_, rfl, b, z, rfl, hb, hz, fun l z1 H1 hl l2 hz1 hb1 k1 => ?_⟩
  have l3 : l.length ≤ 100000 := by omega
  have plain : ∀ z2 H2, 0 ≤ z2 → Bx H2 b z2 → Kept b H H2 → (tRet (tTup (tCons (tCall spNum [] E0 (tCons (tVar 1) tNil)) (tCons (tVar 1) tNil)))) { nx := fun _ H' => Q .non H', rt := Q } [some (.ref b), some (.str (SX.S l))] H2 := by
    intro z2 H2 h1 h2 h3
    refine ⟨_, rfl, l, rfl, hl.1, l3, _, rfl, by show 2 ≤ sizeLine; decide, fun p hp => ?_⟩
    refine q ((NumText.digitsVal l : Nat) : Int) z2 p _ (by rw [figs_int hl]; omega) h1 (h2.new hp) (h3.trans (Kept.new hp)) ?_
    rw [upd_same, figs_int hl] <;> rfl
  refine ⟨_, rfl, rfl, _, rfl, ?_⟩
  refine ite2 (fun e => ?_) (fun e => ?_)
  · have h0 : l ≠ [48] := fun e0 => by
      subst e0
      revert e
      decide +kernel
    refine ⟨_, rfl, b, z1, 3, rfl, hb1, by decide, by decide, rfl, _, rfl, ?_⟩
    have z2 := div_nn hz1 (show (0 : Int) < 3 by decide)
    refine ite2 (fun e => ?_) (fun e => ?_)
    · refine ⟨_, rfl, l, rfl, hl.1, l3, _, rfl, _, rfl, _, _, rfl, rfl, ?_, by show 2 ≤ sizeLine; decide, fun p hp => ?_⟩
      · rw [show (("-" : Str)) = SX.S [45] by decide +kernel, SX.S_len, SX.S_len]
        exact Nat.le_trans (show _ ≤ 4401 by simp; omega) (by decide)
      refine q (-((NumText.digitsVal l : Nat) : Int)) (z1 / 3) p _ (by rw [figs_neg hl h0]; simp; omega) z2 (Bx.new (z := z1 / 3) upd_same hp) ((k1.trans Kept.upd).trans (Kept.new hp)) ?_
      rw [upd_same, figs_neg hl h0, show (("-" : Str)) = SX.S [45] by decide +kernel, SX.S_cat] <;> rfl
    · exact plain _ _ z2 upd_same (k1.trans Kept.upd)
  · exact plain _ _ hz1 hb1 k1
end
end KT

namespace KT
open PySem PySem.Spec PyProof.Rows L2
open C8 (Cal pe_c)
abbrev sPlain : Stmt := top 14
theorem scPlain : FnScope ["value", "part"] ["value"] (defScope sPlain) := ⟨rfl, rfl, rfl, by decide +kernel, rfl, by decide +kernel, by decide +kernel⟩
/-- words, and whole numbers that are not great -/
def Small (v : V) (d : Dat) : Prop := (∃ l, v = .str (SX.S l) ∧ d = .str l) ∨ ∃ n : Int, v = .int n ∧ d = .int n ∧ n.natAbs < 2 ^ 60
theorem Small.leaf {v : V} {d : Dat} (h : Small v d) : Leaf v d := by
  rcases h with h | ⟨n, h1, h2, _⟩
  · exact .inl h
  · exact .inr ⟨n, h1, h2⟩
/-- the text of a value is told; what was tracked stands as before -/
def spText (L : V → Dat → Prop) (n : Nat) : Sp := fun vs H Q _ => ∃ (v : V) (d : Dat), vs = [v] ∧ DVL L H n v d ∧ d.txt.length ≤ 10000000 ∧ ∀ H', Same H H' → Q (.str (SX.S d.txt)) H'
theorem Same.upd_new {H : Hp} {p : Addr} {o : HO} (h : H p = none) : Same H (upd H p o) := fun b u e => by
  rw [upd_ne (ne_of_none e h)]
  exact e
theorem joinL_len : ∀ ys : List (List Nat), (TL.joinL [32] ys).length + 1 = (ys.map (·.length)).sum + ys.length + (if ys = [] then 1 else 0)
  | [] => rfl
  | [x] => by simp [TL.joinL]
  | x :: y :: r => by
    have ih := joinL_len (y :: r)
    have e : TL.joinL [32] (x :: y :: r) = x ++ ([32] ++ TL.joinL [32] (y :: r)) := rfl
    rw [e]
    simp at ih ⊢
    omega
theorem join_dat (ds : List Dat) : Txt.join " " (ds.map fun d => SX.S d.txt) = SX.S (TL.joinL [32] (ds.map Dat.txt)) := by
  have e := SX.join_S [32] (ds.map Dat.txt)
  rw [List.map_map] at e
  rw [show ((" " : Str)) = SX.S [32] by decide +kernel]
  exact e
theorem sum_le : ∀ {l : List Nat} {x : Nat}, x ∈ l → x ≤ l.sum
  | y :: r, x, h => by
    rw [List.sum_cons]
    rcases List.mem_cons.mp h with e | h
    · omega
    · have := sum_le h
      omega
theorem txt_bounds (ds : List Dat) : ((ds.map Dat.txt).map (·.length)).sum + ds.length ≤ (Dat.tup ds).txt.length ∧ ∀ d ∈ ds, d.txt.length ≤ (Dat.tup ds).txt.length := by
  have e := joinL_len (ds.map Dat.txt)
  rw [txt_tup]
  simp only [List.length_cons, List.length_append, List.length_map, List.length_nil] at e ⊢
  have h1 : ((ds.map Dat.txt).map (·.length)).sum + ds.length ≤ (TL.joinL [32] (ds.map Dat.txt)).length + (0 + 1) + 1 := by
    split at e <;> omega
  refine ⟨h1, fun d hd => ?_⟩
  have : d.txt.length ≤ ((ds.map Dat.txt).map (·.length)).sum := by
    refine sum_le ?_
    rw [List.map_map]
    exact List.mem_map.mpr ⟨d, hd, rfl⟩
  omega
theorem Paired.at {α β : Type} {F : α → β → Prop} : ∀ {l : List α} {m : List β} {i : Nat} {x : α}, Paired F l m → l[i]? = some x → ∃ y, m[i]? = some y ∧ F x y
  | _, _, 0, _, .cons h _, e => by
    simp at e
    subst e
    exact ⟨_, rfl, h⟩
  | _, _, i + 1, _, .cons _ t, e => by
    obtain ⟨y, h1, h2⟩ := Paired.at (i := i) t (by simpa using e)
    exact ⟨y, by simpa using h1, h2⟩
section
variable {P : Program} {w : World} {K : PySem.W.Frag} {mg : Str → Option Value} {base : Heap} {f : Addr} {fd : FuncData}
theorem ok_plain (F : Fun K "_law_plain" "_law_plain" sPlain f fd) (mI : mg "isinstance" = none) (mS : mg "str" = none) (mN : mg "int" = none) (gP : mg "_law_plain" = some (.ref f)) (bP : Binds K fd ["value"] []) :
    ∀ n, FnOk P w K mg base CX0 (n + 1) f fd ["value"] (spText Small n) := by
  have body : ∀ n, (∀ k, n = k + 1 → FnOk P w K mg base CX0 (k + 1) f fd ["value"] (spText Small k)) → FnOk P w K mg base CX0 (n + 1) f fd ["value"] (spText Small n) := by
    intro n ih
    refine F.ok scPlain (fun vs H Q E h => ?_) (fun cdv A outer s H vs Q E hr h => ?_)
    · obtain ⟨v, d, rfl, _⟩ := h
      rfl
    obtain ⟨v, d, rfl, hd, hl, q⟩ := h
    have leaf : Small v d → ∃ t, PSs (cxOf CX0 P w K mg base ["value", "part"] "_law_plain" (defScope sPlain) f cdv A outer s H E).nox (defBody sPlain) t ∧ t { nx := fun _ H' => Q .non H', rt := Q } (start ["value", "part"] [v]) H := by
      intro hs
      refine ⟨_, pss_cons (ps_if (pt_val (pe_callB call_isi (by rfl) mI boot_isinstance (pa_cons (pv 0) (pa_cons (pe_bltn (v := .ty "str") (by rfl) mS boot_str rfl) pa_nil)))) (pss_one (ps_ret (pv 0))) pss_nil)
        (pss_cons (ps_if (pt_val (pe_callB call_isi (by rfl) mI boot_isinstance (pa_cons (pv 0) (pa_cons (pe_bltn (v := .ty "int") (by rfl) mN boot_int rfl) pa_nil)))) (pss_one (ps_ret (pe_callTy call_str_int (by rfl) mS boot_str (pa_cons (pv 0) pa_nil)))) pss_nil)
        pss_never), ?_⟩
      rcases hs with ⟨l, rfl, rfl⟩ | ⟨i, rfl, rfl, hi⟩
      · refine ⟨_, rfl, _, _, _, _, true, rfl, .ty _, .base (.str _), kit_ty (by decide +kernel), _, rfl, ?_⟩
        exact ⟨_, rfl, q H (Same.refl H)⟩
      · refine ⟨_, rfl, _, _, _, _, false, rfl, .ty _, .base (.int _), kit_ty (by decide +kernel), _, rfl, ?_⟩
        refine ⟨_, rfl, _, _, _, _, true, rfl, .ty _, .base (.int _), kit_ty (by decide +kernel), _, rfl, ?_⟩
        refine ⟨_, rfl, i, rfl, ?_, ?_⟩
        · by_cases h0 : i.natAbs = 0
          · rw [h0]; decide
          · exact Nat.lt_trans ((Nat.log2_lt h0).mpr hi) (by decide)
        · rw [str_int]
          exact q H (Same.refl H)
    cases n with
    | zero => exact leaf hd
    | succ n =>
      rcases hd.cases with hs | ⟨p, xs, ds, rfl, hp, rfl, r⟩
      · exact leaf hs
      have cP : Cal P w K mg base (n + 1) "_law_plain" (spText Small n) [] := ⟨f, fd, _, _, ih n rfl, gP, F.kp, bP, .nil⟩
      refine ⟨_, pss_cons (ps_if (pt_val (pe_callB call_isi (by rfl) mI boot_isinstance (pa_cons (pv 0) (pa_cons (pe_bltn (v := .ty "str") (by rfl) mS boot_str rfl) pa_nil)))) pss_never pss_nil)
        (pss_cons (ps_if (pt_val (pe_callB call_isi (by rfl) mI boot_isinstance (pa_cons (pv 0) (pa_cons (pe_bltn (v := .ty "int") (by rfl) mN boot_int rfl) pa_nil)))) pss_never pss_nil)
        (pss_one (ps_ret (pe_op op_add_str (pe_op op_add_str pe_str (pe_join pe_str (pe_lc (own := [("part", 1)]) (g := gName 1) rfl scPlain.nd (pi_tup (pv 0)) (blkOk_by (N := ["value", "part"]) (sc := defScope sPlain) (by decide +kernel)) (fun _ _ _ _ _ => pg_name (i := 1) scPlain.nd rfl (Or.inl rfl)) (fun _ _ _ _ _ => pts_nil)
          (fun _ _ _ _ _ => pe_c cP hr (Nat.le_refl _) (by rfl) (pa_cons (pv 1) pa_nil))))) pe_str)))), ?_⟩
      obtain ⟨hsum, hone⟩ := txt_bounds ds
      have hlen := r.length
      refine ⟨_, rfl, _, _, _, _, false, rfl, .ty _, .base (.tup hp), kit_ty (by decide +kernel), _, rfl, ?_⟩
      refine ⟨_, rfl, _, _, _, _, false, rfl, .ty _, .base (.tup hp), kit_ty (by decide +kernel), _, rfl, ?_⟩
      have hT : SqT K H p xs := .inl (.inl hp)
      refine ⟨⟨_, rfl⟩, _, rfl, p, rfl, ⟨_, hT⟩, fun D hD => ?_⟩
      refine lc_tup (xs := xs) (fun i H1 => Same H H1 ∧ H1 D = some (.lst ((ds.take i).map fun d => V.str (SX.S d.txt)))) ⟨Same.upd_new hD, upd_same⟩ (fun i H1 _ hP => .inl (.inl (hP.1 _ _ hp))) (fun i x H1 hx hP => ?_) (fun H1 hP => ?_)
      · obtain ⟨s1, hD1⟩ := hP
        obtain ⟨d, hd1, hd2⟩ := Paired.at r hx
        refine ⟨rfl, ?_⟩
        refine ⟨_, rfl, x, d, rfl, DVL.keep (KT.Same.tups s1) (fun _ _ h => h) hd2, Nat.le_trans (hone d (List.mem_of_getElem? hd1)) hl, fun H2 s2 => ?_⟩
        have hD2 := s2 _ _ hD1
        refine ⟨_, hD2, ?_, ?_, ?_⟩
        · rw [List.length_map, List.length_take]
          exact Nat.lt_of_le_of_lt (show _ ≤ 10000000 by omega) (by decide)
        · intro a o ha
          have na : a ≠ D := ne_of_none ha hD
          rw [upd_ne na]
          exact s2 _ _ (s1 _ _ ha)
        · rw [upd_same, List.take_add_one, hd1, List.map_append]
          rfl
      · obtain ⟨s1, hD1⟩ := hP
        rw [List.take_of_length_le (by omega)] at hD1
        refine ⟨_, D, ds.map fun d => SX.S d.txt, rfl, rfl, .inl (SqL.of (by rw [List.map_map]; exact hD1)), ?_, ?_⟩
        · have e : ((ds.map fun d => SX.S d.txt).map (·.length)) = (ds.map Dat.txt).map (·.length) := by
            rw [List.map_map, List.map_map]
            exact List.map_congr_left fun d _ => SX.S_len d.txt
          rw [e, List.length_map, show ((" " : Str)).length = 1 by decide +kernel]
          omega
        · have et := txt_tup ds
          have el : (TL.joinL [32] (ds.map Dat.txt)).length + 2 = (Dat.tup ds).txt.length := by
            rw [et]
            simp
          rw [join_dat]
          refine ⟨_, _, rfl, rfl, ?_, _, _, rfl, rfl, ?_, ?_⟩
          · rw [show (("(" : Str)) = SX.S [40] by decide +kernel, SX.S_len, SX.S_len]
            exact Nat.le_trans (show _ ≤ 10000000 by simp; omega) (by decide)
          · rw [show (("(" : Str)) = SX.S [40] by decide +kernel, show ((")" : Str)) = SX.S [41] by decide +kernel, SX.S_cat, SX.S_len, SX.S_len]
            exact Nat.le_trans (show _ ≤ 10000000 by simp; omega) (by decide)
          · rw [show (("(" : Str)) = SX.S [40] by decide +kernel, show ((")" : Str)) = SX.S [41] by decide +kernel, SX.S_cat, SX.S_cat]
            have e := q H1 s1
            rw [et] at e
            exact e
  intro n
  induction n with
  | zero => exact body 0 fun k e => by cases e
  | succ n ih =>
    refine body (n + 1) fun k e => ?_
    have : n = k := by omega
    subst this
    exact ih
end
end KT

namespace KT
open PySem PySem.Spec PyProof.Rows L2
open C8 (Cal pe_c)
abbrev sSamp : Stmt := top 13
theorem scSamp : FnScope ["box", "name", "rows"] ["box"] (defScope sSamp) := ⟨rfl, rfl, rfl, by decide +kernel, rfl, by decide +kernel, by decide +kernel⟩
/-! ### displays of data: words, whole numbers, the name in slot i, tuples of these -/
def tDat (i n : Nat) (d : List Nat → Dat) : TE := fun σ H Q => ∃ l, σ[i]? = some (some (.str (SX.S l))) ∧ ∀ v H', Same H H' → DVL Small H' n v (d l) → Q v H'
def tDats (i n : Nat) (ds : List Nat → List Dat) : TA := fun σ H Q => ∃ l, σ[i]? = some (some (.str (SX.S l))) ∧ ∀ vs H', Same H H' → Paired (DVL Small H' n) vs (ds l) → Q vs H'
section
variable {X : Cx} {i : Nat} {n : Nat}
theorem pe_imp {e : Expr} {t t' : TE} (h : PE X e t) (k : ∀ σ H Q, t' σ H Q → t σ H Q) : PE X e t' := ⟨fun pins s σ H Q I q => h.run pins s σ H Q I (k σ H Q q)⟩
theorem pa_imp {es : List Expr} {t t' : TA} (h : PA X es t) (k : ∀ σ H Q, t' σ H Q → t σ H Q) : PA X es t' := ⟨fun pos pins s σ H Q I q => h.run pos pins s σ H Q I (k σ H Q q)⟩
theorem pd_int {k : Int} {j : Nat} {pos : Pos} (h : k.natAbs < 2 ^ 60) : PE X (.Constant (.int k) j pos) (tDat i n fun _ => .int k) :=
  pe_imp pe_int fun σ H Q ⟨l, _, q⟩ => q _ H (Same.refl H) (DVL.leaf (.inr ⟨k, rfl, rfl, h⟩) n)
theorem pd_str {x : Str} {w : List Nat} {j : Nat} {pos : Pos} (h : x = SX.S w) : PE X (.Constant (.str x) j pos) (tDat i n fun _ => .str w) :=
  pe_imp pe_str fun σ H Q ⟨l, _, q⟩ => q _ H (Same.refl H) (DVL.leaf (.inl ⟨w, by rw [h], rfl⟩) n)
theorem pd_nm {e : Expr} (h : PE X e (tVar i)) : PE X e (tDat i n fun l => .str l) :=
  pe_imp h fun σ H Q ⟨l, e, q⟩ => ⟨_, e, q _ H (Same.refl H) (DVL.leaf (.inl ⟨l, rfl, rfl⟩) n)⟩
theorem pd_nil : PA X [] (tDats i n fun _ => []) := pa_imp pa_nil fun σ H Q ⟨_, _, q⟩ => q [] H (Same.refl H) .nil
theorem DVL.tups {L : V → Dat → Prop} {H H' : Hp} {n : Nat} {v : V} {d : Dat} (k : Same H H') (h : DVL L H n v d) : DVL L H' n v d := DVL.keep (KT.Same.tups k) (fun _ _ h => h) h
theorem str_inj {a b : List Nat} (h : some (some (V.str (SX.S a))) = some (some (V.str (SX.S b)))) : a = b := SX.S_inj (V.str.inj (Option.some.inj (Option.some.inj h)))
theorem pd_cons {e : Expr} {es : List Expr} {d : List Nat → Dat} {ds : List Nat → List Dat} (h : PE X e (tDat i n d)) (r : PA X es (tDats i n ds)) (hs : starEach (e :: es) X.env = (false, eval e X.env) :: starEach es X.env := by rfl) : PA X (e :: es) (tDats i n fun l => d l :: ds l) :=
  pa_imp (pa_cons h r hs) fun σ H Q ⟨l, el, q⟩ => ⟨l, el, fun v H1 s1 h1 => ⟨l, el, fun vs H2 s2 h2 => q _ H2 (s1.trans s2) (.cons (DVL.tups s2 h1) h2)⟩⟩
theorem pd_tup {es : List Expr} {ds : List Nat → List Dat} {x1} {pos : Pos} (r : PA X es (tDats i n ds)) (h : ∀ l, (ds l).length ≤ 1000 := by intro _; simp) : PE X (.Tuple es x1 pos) (tDat i (n + 1) fun l => .tup (ds l)) :=
  pe_imp (pe_tup r) fun σ H Q ⟨l, el, q⟩ => ⟨l, el, fun vs H1 s1 h1 => ⟨by rw [h1.length]; exact Nat.le_of_lt (small1000 (h l)), fun p hp => q _ _ (s1.trans (Same.upd_new hp)) (DVL.tup upd_same (Paired.mono (fun _ _ z => DVL.tups (Same.upd_new hp) z) h1))⟩⟩
end
def chars (x : String) : List Nat := x.toList.map Char.toNat
theorem chars_eq (x : String) : Str.ofString x = SX.S (chars x) := Str.ofString_eq_toList x
abbrev dS (x : String) : Dat := .str (chars x)
abbrev dI (n : Int) : Dat := .int n
def samp (l : List Nat) : List Dat :=
  [.tup [dS "set", dI 3], .tup [dS "pairs", .str l, .tup [dS "sizes", dI 4], .tup [dS "of", dI 4, .tup [dS "name", .str l]]], .tup [.tup [.str l, .tup [dS "sizes", dI 2]]], .tup [.str l, .tup [dS "point", dI 4, dI 0]], .tup [],
   .tup [dS "case", dI 2, .str l, .tup [dS "set", dI 3], .tup [dS "point", dI 2, dI 0], .tup [.tup [dS "point", dI 3, dI 1], .tup [dS "name", dS "y"]]],
   .tup [dS "maps", .str l, .tup [dS "classes", .tup [dS "sizes", dI 3]], .tup [dS "either", .tup [dS "set", dI 0], .tup [dS "ways", .tup [dS "set", dI 2], .tup [dS "name", .str l], .tup [dS "point", dI 2, dI 1]]]],
   .tup [dS "carry", .str l, .tup [dS "set", dI 2], .tup [dS "set", dI 1], .tup [dS "point", dI 2, dI 1], .tup [dS "point", dI 2, dI 0], .tup [], .tup [dS "name", .str l]]]
def spSamp : Sp := fun vs H Q _ => ∃ (b : Addr) (z : Int), vs = [.ref b] ∧ Bx H b z ∧ 0 ≤ z ∧
  ∀ l d v z' H', 1 ≤ l.length → l.length ≤ 8 → (∀ c ∈ l, letter c) → d ∈ samp l → 0 ≤ z' → Bx H' b z' → Kept b H H' → DVL Small H' 5 v d → Q v H'
theorem Kept.of {b : Addr} {H H' : Hp} (k : Same H H') : Kept b H H' := fun a o _ h => k a o h
section
variable {P : Program} {w : World} {K : PySem.W.Frag} {mg : Str → Option Value} {base : Heap} {f : Addr} {fd : FuncData}
theorem ok_samp (F : Fun K "_law_sample" "_law_sample" sSamp f fd) (cT : Cal P w K mg base 1 "_law_take" spTake []) (cW : Cal P w K mg base 2 "_law_word" spWord []) (mL : mg "len" = none) : FnOk P w K mg base CX0 3 f fd ["box"] spSamp := by
  refine F.ok scSamp (fun vs H Q E h => ?_) (fun cdv A outer s H vs Q E hr h => ?_)
  · obtain ⟨b, z, rfl, _⟩ := h
    rfl
  obtain ⟨b, z, rfl, hb, hz, q⟩ := h
  have pdS : ∀ {X : Cx} {i n j : Nat} {pos : Pos} {x : String}, PE X (.Constant (.str (Str.ofString x)) j pos) (tDat i n fun _ => .str (chars x)) := fun {X i n j pos x} => pd_str (chars_eq x)
  refine ⟨_, pss_cons (ps_set (i := 1) scSamp.nd rfl (Or.inl rfl) (pe_slice C8.sl_txt (pe_c cW hr (by decide) (by rfl) (pa_cons (pv 0) pa_nil)) po_none (po_some pe_int)))
    (pss_cons (ps_set (i := 2) scSamp.nd rfl (Or.inl rfl) (pe_lst (t := tDats 1 4 fun l => (samp l).take 5)
      (pd_cons (pd_tup (pd_cons pdS (pd_cons (pd_int (by decide)) pd_nil)))
      (pd_cons (pd_tup (pd_cons pdS (pd_cons (pd_nm (pv 1)) (pd_cons (pd_tup (pd_cons pdS (pd_cons (pd_int (by decide)) pd_nil))) (pd_cons (pd_tup (pd_cons pdS (pd_cons (pd_int (by decide)) (pd_cons (pd_tup (pd_cons pdS (pd_cons (pd_nm (pv 1)) pd_nil))) pd_nil)))) pd_nil)))))
      (pd_cons (pd_tup (pd_cons (pd_tup (pd_cons (pd_nm (pv 1)) (pd_cons (pd_tup (pd_cons pdS (pd_cons (pd_int (by decide)) pd_nil))) pd_nil))) pd_nil))
      (pd_cons (pd_tup (pd_cons (pd_nm (pv 1)) (pd_cons (pd_tup (pd_cons pdS (pd_cons (pd_int (by decide)) (pd_cons (pd_int (by decide)) pd_nil)))) pd_nil)))
      (pd_cons (pd_tup pd_nil) pd_nil)))))))
    (pss_cons (ps_expr (pe_bm PySem.F.plainAttrs_list PySem.F.slot_list_append PySem.F.type_list_append mt_append (pv 2) (t := tDats 1 4 fun l => [(samp l).getD 5 (.int 0)])
      (pd_cons (pd_tup (pd_cons pdS (pd_cons (pd_int (by decide)) (pd_cons (pd_nm (pv 1)) (pd_cons (pd_tup (pd_cons pdS (pd_cons (pd_int (by decide)) pd_nil))) (pd_cons (pd_tup (pd_cons pdS (pd_cons (pd_int (by decide)) (pd_cons (pd_int (by decide)) pd_nil)))) (pd_cons (pd_tup (pd_cons (pd_tup (pd_cons pdS (pd_cons (pd_int (by decide)) (pd_cons (pd_int (by decide)) pd_nil)))) (pd_cons (pd_tup (pd_cons pdS (pd_cons pdS pd_nil))) pd_nil))) pd_nil))))))) pd_nil)))
    (pss_cons (ps_expr (pe_bm PySem.F.plainAttrs_list PySem.F.slot_list_append PySem.F.type_list_append mt_append (pv 2) (t := tDats 1 4 fun l => [(samp l).getD 6 (.int 0)])
      (pd_cons (pd_tup (pd_cons pdS (pd_cons (pd_nm (pv 1)) (pd_cons (pd_tup (pd_cons pdS (pd_cons (pd_tup (pd_cons pdS (pd_cons (pd_int (by decide)) pd_nil))) pd_nil))) (pd_cons (pd_tup (pd_cons pdS (pd_cons (pd_tup (pd_cons pdS (pd_cons (pd_int (by decide)) pd_nil))) (pd_cons (pd_tup (pd_cons pdS (pd_cons (pd_tup (pd_cons pdS (pd_cons (pd_int (by decide)) pd_nil))) (pd_cons (pd_tup (pd_cons pdS (pd_cons (pd_nm (pv 1)) pd_nil))) (pd_cons (pd_tup (pd_cons pdS (pd_cons (pd_int (by decide)) (pd_cons (pd_int (by decide)) pd_nil)))) pd_nil))))) pd_nil)))) pd_nil))))) pd_nil)))
    (pss_cons (ps_expr (pe_bm PySem.F.plainAttrs_list PySem.F.slot_list_append PySem.F.type_list_append mt_append (pv 2) (t := tDats 1 4 fun l => [(samp l).getD 7 (.int 0)])
      (pd_cons (pd_tup (pd_cons pdS (pd_cons (pd_nm (pv 1)) (pd_cons (pd_tup (pd_cons pdS (pd_cons (pd_int (by decide)) pd_nil))) (pd_cons (pd_tup (pd_cons pdS (pd_cons (pd_int (by decide)) pd_nil))) (pd_cons (pd_tup (pd_cons pdS (pd_cons (pd_int (by decide)) (pd_cons (pd_int (by decide)) pd_nil)))) (pd_cons (pd_tup (pd_cons pdS (pd_cons (pd_int (by decide)) (pd_cons (pd_int (by decide)) pd_nil)))) (pd_cons (pd_tup pd_nil) (pd_cons (pd_tup (pd_cons pdS (pd_cons (pd_nm (pv 1)) pd_nil))) pd_nil))))))))) pd_nil)))
    (pss_one (ps_ret (pe_ix ix_list (pv 2) (pe_c cT hr (by decide) (by rfl) (pa_cons (pv 0) (pa_cons (pe_callB call_len_seq (by rfl) mL PySem.boot_len (pa_cons (pv 2) pa_nil)) pa_nil))) (fun _ _ => rfl)))))))), ?_⟩
  refine ⟨_, rfl, b, z, rfl, hb, hz, fun l0 z1 H1 hl hz1 hb1 k1 => ?_⟩
  obtain ⟨l1, l2, l3⟩ := hl
  refine ⟨8, rfl, _, rfl, by rw [SX.S_len]; exact Nat.le_of_lt (small1000 (by omega)), ?_⟩
  rw [show Txt.slice (SX.S l0) none (some 8) = SX.S (l0.take 8) from SX.slice_to (a := l0) (i := 8) (by decide)]
  generalize hl : l0.take 8 = l
  have m1 : 1 ≤ l.length := by rw [← hl, List.length_take]; omega
  have m2 : l.length ≤ 8 := by rw [← hl, List.length_take]; omega
  have m3 : ∀ c ∈ l, letter c := fun c hc => l3 c (by rw [← hl] at hc; exact List.mem_of_mem_take hc)
  -- the rows
  refine ⟨l, rfl, fun vs H2 s2 r2 => ?_⟩
  refine ⟨by rw [r2.length]; show 5 ≤ sizeLine; decide, fun R hR => ?_⟩
  have kb : Kept b H H2 := k1.trans (Kept.of s2)
  have hb2 : Bx H2 b z1 := s2 _ _ hb1
  have hb3 : Bx (upd H2 R (.lst vs)) b z1 := hb2.new hR
  have k3 : Kept b H (upd H2 R (.lst vs)) := kb.trans (Kept.new hR)
  have nRb := hb2.ne hR
  have r3 : Paired (DVL Small (upd H2 R (.lst vs)) 4) vs ((samp l).take 5) := Paired.mono (fun _ _ z => DVL.tups (Same.upd_new hR) z) r2
  generalize hH3 : upd H2 R (.lst vs) = H3 at hb3 k3 r3
  have e3 : H3 R = some (.lst vs) := by rw [← hH3, upd_same]
  have fresh : ∀ a, H a ≠ none → a ≠ R := fun a ha e => by
    subst e
    cases hh : H a with
    | none => exact ha hh
    | some o =>
      by_cases hab : a = b
      · exact nRb hab
      · have := kb a o hab hh
        rw [this] at hR
        cases hR
  clear hH3 r2 s2 hR
  -- one row more
  have more : ∀ (H4 : Hp) (us : List V) (ds : List Dat) (d : Dat) (xs : List V) (H5 : Hp), Kept b H H4 → Bx H4 b z1 → H4 R = some (.lst us) → Paired (DVL Small H4 4) us ds → Same H4 H5 → Paired (DVL Small H5 4) xs [d] →
      ∃ x, xs = [x] ∧ Kept b H (upd H5 R (.lst (us ++ [x]))) ∧ Bx (upd H5 R (.lst (us ++ [x]))) b z1 ∧ upd H5 R (.lst (us ++ [x])) R = some (.lst (us ++ [x])) ∧ Paired (DVL Small (upd H5 R (.lst (us ++ [x]))) 4) (us ++ [x]) (ds ++ [d]) := by
    intro H4 us ds d xs H5 k4 hb4 e4 r4 s5 rx
    obtain ⟨x, rfl, hx⟩ : ∃ x, xs = [x] ∧ DVL Small H5 4 x d := by
      cases rx with
      | cons hx t =>
        cases t
        exact ⟨_, rfl, hx⟩
    have tk : Tups H5 (upd H5 R (.lst (us ++ [x]))) := fun p ys hp => by
      rw [upd_ne (fun e => by
        subst e
        rw [s5 _ _ e4] at hp
        cases hp)]
      exact hp
    refine ⟨x, rfl, fun a o hab ha => ?_, ?_, upd_same, Paired.snoc (Paired.mono (fun _ _ z => DVL.keep tk (fun _ _ h => h) (DVL.tups s5 z)) r4) (DVL.keep tk (fun _ _ h => h) hx)⟩
    · rw [upd_ne (fresh a (by rw [ha]; exact Option.some_ne_none _))]
      exact s5 _ _ (k4 a o hab ha)
    · unfold Bx
      rw [upd_ne nRb.symm]
      exact s5 _ _ hb4
  refine ⟨_, rfl, .inl ⟨rfl, _, SqL.of e3⟩, l, rfl, fun xs H4 s4 r4 => ?_⟩
  obtain ⟨x, rfl, k5, hb5, e5, r5⟩ := more _ _ _ _ _ _ k3 hb3 e3 r3 s4 r4
  have len3 := r3.length
  refine ⟨R, _, _, rfl, rfl, s4 _ _ e3, by rw [len3]; show 5 < sizeLine; decide, ?_⟩
  refine ⟨_, rfl, .inl ⟨rfl, _, SqL.of e5⟩, l, rfl, fun xs H6 s6 r6 => ?_⟩
  obtain ⟨x2, rfl, k7, hb7, e7, r7⟩ := more _ _ _ _ _ _ k5 hb5 e5 r5 s6 r6
  have len5 := r5.length
  refine ⟨R, _, _, rfl, rfl, s6 _ _ e5, by rw [len5]; show 6 < sizeLine; decide, ?_⟩
  refine ⟨_, rfl, .inl ⟨rfl, _, SqL.of e7⟩, l, rfl, fun xs H8 s8 r8 => ?_⟩
  obtain ⟨x3, rfl, k9, hb9, e9, r9⟩ := more _ _ _ _ _ _ k7 hb7 e7 r7 s8 r8
  have len7 := r7.length
  refine ⟨R, _, _, rfl, rfl, s8 _ _ e7, by rw [len7]; show 7 < sizeLine; decide, ?_⟩
  have len9 := r9.length
  have len9' : ((((vs ++ [x]) ++ [x2]) ++ [x3]).length : Int) = 8 := by rw [len9]; rfl
  have m8 := mod_lt' (z := z1) (m := 8) (by decide)
  obtain ⟨k, ek⟩ := toNat_of m8.1
  refine ⟨_, rfl, _, rfl, _, rfl, R, _, rfl, .inl (SqL.of e9), b, z1, 8, by rw [len9']; rfl, hb9, by decide, by decide, ?_⟩
  have e10 := upd_ne (H := upd H8 R (.lst (((vs ++ [x]) ++ [x2]) ++ [x3]))) (o := .lst [.int (z1 / 8)]) nRb
  rw [e9] at e10
  have kl : k < (((vs ++ [x]) ++ [x2]) ++ [x3]).length := by omega
  obtain ⟨d, hd1, hd2⟩ := Paired.at r9 (List.getElem?_eq_getElem kl)
  refine ⟨R, _, (k : Int), _, rfl, by rw [ek], SqL.of e10, atI_nat (List.getElem?_eq_getElem kl), ?_⟩
  refine q l d _ (z1 / 8) _ m1 m2 m3 ?_ (div_nn hz1 (by decide)) upd_same (k9.trans Kept.upd) (DVL.mono (DVL.keep (Kept.tups hb9 Kept.upd) (fun _ _ h => h) hd2) (by decide))
  exact List.mem_of_getElem? hd1
end
end KT

namespace KT
open PySem PySem.Spec PyProof.Rows L2
/-! ### reading: what a text is the text of -/
def isL (c : Nat) : Bool := decide (97 ≤ c) && decide (c ≤ 122)
def isD (c : Nat) : Bool := decide (48 ≤ c) && decide (c ≤ 57)
/-- the figures f, behind a sign or not, are a number's -/
def numOk (neg : Bool) (f : List Nat) : Bool := !(f == []) && (!(f.head? == some 48) || (f == [48] && !neg))
def atom (t : List Nat) : Option (Dat × List Nat) :=
  if t.takeWhile isL ≠ [] then some (.str (t.takeWhile isL), t.dropWhile isL)
  else if t.head? = some 45 then (if numOk true (t.tail.takeWhile isD) then some (.int (-((NumText.digitsVal (t.tail.takeWhile isD) : Nat) : Int)), t.tail.dropWhile isD) else none)
  else if numOk false (t.takeWhile isD) then some (.int ((NumText.digitsVal (t.takeWhile isD) : Nat) : Int), t.dropWhile isD) else none
mutual
def item : Nat → List Nat → Option (Dat × List Nat)
  | 0, _ => none
  | n + 1, t => if t.head? = some 40 then (if t.tail.head? = some 41 then some (.tup [], t.tail.tail) else (match items n t.tail with | none => none | some (ds, r) => some (.tup ds, r))) else atom t
def items : Nat → List Nat → Option (List Dat × List Nat)
  | 0, _ => none
  | n + 1, t => match item n t with
    | none => none
    | some (d, r) => if r.head? = some 41 then some ([d], r.tail) else if r.head? = some 32 then (match items n r.tail with | none => none | some (ds, r') => some (d :: ds, r')) else none
end
theorem fuel : ∀ n, (∀ t x, item n t = some x → item (n + 1) t = some x) ∧ (∀ t x, items n t = some x → items (n + 1) t = some x)
  | 0 => ⟨fun t x h => (by rw [item] at h; cases h), fun t x h => (by rw [items] at h; cases h)⟩
  | n + 1 => by
    obtain ⟨h1, h2⟩ := fuel n
    refine ⟨fun t x h => ?_, fun t x h => ?_⟩
    · rw [item] at h ⊢
      by_cases c : t.head? = some 40
      · rw [if_pos c] at h ⊢
        by_cases c2 : t.tail.head? = some 41
        · rw [if_pos c2] at h ⊢
          exact h
        · rw [if_neg c2] at h ⊢
          cases e : items n t.tail with
          | none => rw [e] at h; cases h
          | some y =>
            rw [e] at h
            rw [h2 _ _ e]
            exact h
      · rw [if_neg c] at h ⊢
        exact h
    · rw [items] at h ⊢
      cases e : item n t with
      | none => rw [e] at h; cases h
      | some y =>
        obtain ⟨d, r⟩ := y
        rw [e] at h
        rw [h1 _ _ e]
        simp only at h ⊢
        by_cases c : r.head? = some 41
        · rw [if_pos c] at h ⊢
          exact h
        · rw [if_neg c] at h ⊢
          by_cases c2 : r.head? = some 32
          · rw [if_pos c2] at h ⊢
            cases e2 : items n r.tail with
            | none => rw [e2] at h; cases h
            | some z =>
              rw [e2] at h
              rw [h2 _ _ e2]
              exact h
          · rw [if_neg c2] at h
            cases h
theorem item_up {n m : Nat} {t : List Nat} {x : Dat × List Nat} (h : item n t = some x) (le : n ≤ m) : item m t = some x := by
  induction le with
  | refl => exact h
  | step _ ih => exact (fuel _).1 _ _ ih
theorem items_up {n m : Nat} {t : List Nat} {x : List Dat × List Nat} (h : items n t = some x) (le : n ≤ m) : items m t = some x := by
  induction le with
  | refl => exact h
  | step _ ih => exact (fuel _).2 _ _ ih
def Item (t : List Nat) (d : Dat) (r : List Nat) : Prop := ∃ n, item n t = some (d, r)
def Items (t : List Nat) (ds : List Dat) (r : List Nat) : Prop := ∃ n, items n t = some (ds, r)
def NoItem (t : List Nat) : Prop := ∀ n, item n t = none
def NoItems (t : List Nat) : Prop := ∀ n, items n t = none
theorem item_or (t : List Nat) : NoItem t ∨ ∃ d r, Item t d r := by
  by_cases h : ∃ n x, item n t = some x
  · obtain ⟨n, ⟨d, r⟩, h⟩ := h
    exact .inr ⟨d, r, n, h⟩
  · refine .inl fun n => ?_
    cases e : item n t with
    | none => rfl
    | some x => exact absurd ⟨n, x, e⟩ h
theorem items_or (t : List Nat) : NoItems t ∨ ∃ ds r, Items t ds r := by
  by_cases h : ∃ n x, items n t = some x
  · obtain ⟨n, ⟨d, r⟩, h⟩ := h
    exact .inr ⟨d, r, n, h⟩
  · refine .inl fun n => ?_
    cases e : items n t with
    | none => rfl
    | some x => exact absurd ⟨n, x, e⟩ h
theorem Item.one {t : List Nat} {d d' : Dat} {r r' : List Nat} (a : Item t d r) (b : Item t d' r') : d = d' ∧ r = r' := by
  obtain ⟨n, a⟩ := a
  obtain ⟨m, b⟩ := b
  have e := (item_up a (Nat.le_max_left n m)).symm.trans (item_up b (Nat.le_max_right n m))
  have e := Option.some.inj e
  exact ⟨congrArg Prod.fst e, congrArg Prod.snd e⟩
theorem NoItem.not {t : List Nat} {d : Dat} {r : List Nat} (a : NoItem t) (b : Item t d r) : False := by
  obtain ⟨n, b⟩ := b
  rw [a n] at b
  cases b
theorem NoItems.not {t : List Nat} {d : List Dat} {r : List Nat} (a : NoItems t) (b : Items t d r) : False := by
  obtain ⟨n, b⟩ := b
  rw [a n] at b
  cases b
/-! the ways of an item -/
theorem item_atom {t : List Nat} (h : t.head? ≠ some 40) {d : Dat} {r : List Nat} (e : atom t = some (d, r)) : Item t d r := ⟨1, by rw [item, if_neg h, e]⟩
theorem noitem_atom {t : List Nat} (h : t.head? ≠ some 40) (e : atom t = none) : NoItem t
  | 0 => by rw [item]
  | n + 1 => by rw [item, if_neg h, e]
theorem item_empty {r : List Nat} : Item (40 :: 41 :: r) (.tup []) r := ⟨1, by rw [item, if_pos (show (40 :: 41 :: r).head? = some 40 from rfl), List.tail_cons, if_pos (show (41 :: r).head? = some 41 from rfl)] <;> rfl⟩
theorem item_tup {t r : List Nat} {ds : List Dat} (h : t.head? ≠ some 41) (i : Items t ds r) : Item (40 :: t) (.tup ds) r := by
  obtain ⟨n, i⟩ := i
  exact ⟨n + 1, by rw [item, if_pos (show (40 :: t).head? = some 40 from rfl), List.tail_cons, if_neg h, i]⟩
theorem noitem_tup {t : List Nat} (h : t.head? ≠ some 41) (i : NoItems t) : NoItem (40 :: t)
  | 0 => by rw [item]
  | n + 1 => by rw [item, if_pos (show (40 :: t).head? = some 40 from rfl), List.tail_cons, if_neg h, i n]
theorem items_last {t r : List Nat} {d : Dat} (i : Item t d (41 :: r)) : Items t [d] r := by
  obtain ⟨n, i⟩ := i
  exact ⟨n + 1, by rw [items, i]; rfl⟩
theorem items_more {t r r' : List Nat} {d : Dat} {ds : List Dat} (i : Item t d (32 :: r)) (j : Items r ds r') : Items t (d :: ds) r' := by
  obtain ⟨n, i⟩ := i
  obtain ⟨m, j⟩ := j
  refine ⟨max n m + 1, ?_⟩
  rw [items, item_up i (Nat.le_max_left n m)]
  show (if (32 :: r).head? = some 41 then _ else if (32 :: r).head? = some 32 then (match items (max n m) r with | none => none | some (ds, r') => some (d :: ds, r')) else none) = _
  rw [items_up j (Nat.le_max_right n m)]
  rfl
theorem noitems_no {t : List Nat} (i : NoItem t) : NoItems t
  | 0 => by rw [items]
  | n + 1 => by rw [items, i n]
theorem noitems_more {t r : List Nat} {d : Dat} (i : Item t d (32 :: r)) (j : NoItems r) : NoItems t
  | 0 => by rw [items]
  | n + 1 => by
    rw [items]
    cases e : item n t with
    | none => rfl
    | some x =>
      obtain ⟨d', r'⟩ := x
      obtain ⟨e1, e2⟩ := Item.one i ⟨n, e⟩
      subst e2
      show (if (32 :: r).head? = some 41 then _ else if (32 :: r).head? = some 32 then (match items n r with | none => none | some (ds, r') => some (d' :: ds, r')) else none) = _
      rw [j n]
      rfl
theorem noitems_bad {t r : List Nat} {d : Dat} (i : Item t d r) (h1 : r.head? ≠ some 41) (h2 : r.head? ≠ some 32) : NoItems t
  | 0 => by rw [items]
  | n + 1 => by
    rw [items]
    cases e : item n t with
    | none => rfl
    | some x =>
      obtain ⟨d', r'⟩ := x
      obtain ⟨e1, e2⟩ := Item.one i ⟨n, e⟩
      subst e2
      show (if r.head? = some 41 then _ else if r.head? = some 32 then _ else none) = _
      rw [if_neg h1, if_neg h2]
/-! what is read away leaves the balance of parentheses -/
def bal : List Nat → Int
  | [] => 0
  | c :: r => (if c = 40 then 1 else if c = 41 then -1 else 0) + bal r
theorem bal_app : ∀ a b : List Nat, bal (a ++ b) = bal a + bal b
  | [], b => by simp [bal]
  | c :: r, b => by
    rw [List.cons_append, bal, bal, bal_app r b]
    omega
theorem bal_flat {l : List Nat} (h : ∀ c ∈ l, c ≠ 40 ∧ c ≠ 41) : bal l = 0 := by
  induction l with
  | nil => rfl
  | cons c r ih =>
    have h1 := h c (List.mem_cons_self ..)
    rw [bal, if_neg h1.1, if_neg h1.2, ih fun d hd => h d (List.mem_cons_of_mem _ hd)]
    rfl
/-- no prefix opens more than k parentheses that it does not close -/
def Sh (k : Int) (t : List Nat) : Prop := ∀ a b, t = a ++ b → bal a ≤ k
theorem Sh.behind {k : Int} {a b : List Nat} (h : Sh k (a ++ b)) : Sh (k - bal a) b := fun x y e => by
  have := h (a ++ x) y (by rw [e, List.append_assoc])
  rw [bal_app] at this
  omega
theorem Sh.nn {k : Int} {t : List Nat} (h : Sh k t) : 0 ≤ k := h [] t rfl
theorem takeD (p : Nat → Bool) (t : List Nat) : t.takeWhile p ++ t.dropWhile p = t := List.takeWhile_append_dropWhile
theorem in_take {p : Nat → Bool} : ∀ {t : List Nat} {c : Nat}, c ∈ t.takeWhile p → p c = true
  | x :: r, c, h => by
    rw [List.takeWhile_cons] at h
    split at h
    · rcases List.mem_cons.mp h with e | h
      · rw [e]; assumption
      · exact in_take h
    · cases h
theorem isL_flat {t : List Nat} : ∀ c ∈ t.takeWhile isL, c ≠ 40 ∧ c ≠ 41 := fun c hc => by
  have := in_take hc
  simp [isL] at this
  omega
theorem isD_flat {t : List Nat} : ∀ c ∈ t.takeWhile isD, c ≠ 40 ∧ c ≠ 41 := fun c hc => by
  have := in_take hc
  simp [isD] at this
  omega
theorem atom_flat {t r : List Nat} {d : Dat} (h : atom t = some (d, r)) : ∃ a, t = a ++ r ∧ bal a = 0 := by
  unfold atom at h
  split at h
  · injection h with h
    injection h with h1 h2
    exact ⟨t.takeWhile isL, by rw [← h2, takeD], bal_flat isL_flat⟩
  · split at h
    · rename_i h45
      split at h
      · injection h with h
        injection h with h1 h2
        obtain ⟨x, rfl⟩ : ∃ x, t = 45 :: x := by
          cases t with
          | nil => cases h45
          | cons c x =>
            simp at h45
            exact ⟨x, by rw [h45]⟩
        refine ⟨45 :: x.takeWhile isD, by rw [← h2, List.cons_append, List.tail_cons, takeD], ?_⟩
        rw [bal, bal_flat isD_flat]
        decide
      · cases h
    · split at h
      · injection h with h
        injection h with h1 h2
        exact ⟨t.takeWhile isD, by rw [← h2, takeD], bal_flat isD_flat⟩
      · cases h
theorem head_cons {t : List Nat} {c : Nat} (h : t.head? = some c) : t = c :: t.tail := by
  cases t with
  | nil => cases h
  | cons x r =>
    simp at h
    rw [h]
    rfl
theorem flat : ∀ n, (∀ t d r, item n t = some (d, r) → ∃ a, t = a ++ r ∧ bal a = 0) ∧ (∀ t d r, items n t = some (d, r) → ∃ a, t = a ++ r ∧ bal a = -1)
  | 0 => ⟨fun t d r h => (by rw [item] at h; cases h), fun t d r h => (by rw [items] at h; cases h)⟩
  | n + 1 => by
    obtain ⟨h1, h2⟩ := flat n
    refine ⟨fun t d r h => ?_, fun t d r h => ?_⟩
    · rw [item] at h
      split at h
      · rename_i c
        split at h
        · rename_i c2
          injection h with h
          injection h with h3 h4
          refine ⟨[40, 41], ?_, rfl⟩
          rw [head_cons c, head_cons c2, h4]
          rfl
        · split at h
          · cases h
          · rename_i ds r' e
            injection h with h
            injection h with h3 h4
            subst h4
            obtain ⟨a, ea, eb⟩ := h2 _ _ _ e
            refine ⟨40 :: a, by rw [head_cons c, ea]; rfl, ?_⟩
            rw [bal, eb]
            rfl
      · exact atom_flat h
    · rw [items] at h
      split at h
      · cases h
      · rename_i d' r' e
        obtain ⟨a, ea, eb⟩ := h1 _ _ _ e
        split at h
        · rename_i c
          injection h with h
          injection h with h3 h4
          refine ⟨a ++ [41], ?_, by rw [bal_app, eb]; rfl⟩
          rw [ea, head_cons c, h4]
          simp
        · split at h
          · rename_i c
            split at h
            · cases h
            · rename_i ds r'' e2
              injection h with h
              injection h with h3 h4
              subst h4
              obtain ⟨b, ec, ed⟩ := h2 _ _ _ e2
              refine ⟨a ++ 32 :: b, ?_, by rw [bal_app, eb, bal, ed]; rfl⟩
              rw [ea, head_cons c, ec]
              simp
          · cases h
theorem Item.flat {t r : List Nat} {d : Dat} (i : Item t d r) : ∃ a, t = a ++ r ∧ bal a = 0 := by
  obtain ⟨n, i⟩ := i
  exact (KT.flat n).1 _ _ _ i
theorem Items.flat {t r : List Nat} {d : List Dat} (i : Items t d r) : ∃ a, t = a ++ r ∧ bal a = -1 := by
  obtain ⟨n, i⟩ := i
  exact (KT.flat n).2 _ _ _ i
end KT

namespace KT
open PySem PySem.Spec PyProof.Rows L2
/-- what may follow a value -/
def Ends (r : List Nat) : Prop := ∀ c, r.head? = some c → c = 32 ∨ c = 41
/-- the text of d is read as d, whatever follows -/
def Rd1 (d : Dat) : Prop := ∀ r, Ends r → Item (d.txt ++ r) d r
/-- no prefix closes more than it opens -/
def Lo (t : List Nat) : Prop := ∀ a b, t = a ++ b → 0 ≤ bal a
/-- no block of figures is longer -/
def Runs (n : Nat) (t : List Nat) : Prop := ∀ a b c, t = a ++ (b ++ c) → (∀ x ∈ b, isD x = true) → b.length ≤ n
def Okd (k : Nat) (d : Dat) : Prop := Rd1 d ∧ Sh (k : Int) d.txt ∧ bal d.txt = 0 ∧ Lo d.txt ∧ Runs 4401 d.txt
theorem take_all {p : Nat → Bool} {l r : List Nat} (h : ∀ c ∈ l, p c = true) (hr : ∀ c, r.head? = some c → p c = false) : (l ++ r).takeWhile p = l ∧ (l ++ r).dropWhile p = r := by
  induction l with
  | nil =>
    cases r with
    | nil => exact ⟨rfl, rfl⟩
    | cons c r =>
      have := hr c rfl
      rw [List.nil_append, List.takeWhile_cons, List.dropWhile_cons, this]
      exact ⟨rfl, rfl⟩
  | cons c l ih =>
    obtain ⟨h1, h2⟩ := ih fun d hd => h d (List.mem_cons_of_mem _ hd)
    have hc := h c (List.mem_cons_self ..)
    rw [List.cons_append, List.takeWhile_cons, List.dropWhile_cons, hc]
    exact ⟨by rw [if_pos rfl, h1], by rw [if_pos rfl, h2]⟩
theorem Ends.notL {r : List Nat} (h : Ends r) : ∀ c, r.head? = some c → isL c = false := fun c hc => by
  rcases h c hc with rfl | rfl <;> rfl
theorem Ends.notD {r : List Nat} (h : Ends r) : ∀ c, r.head? = some c → isD c = false := fun c hc => by
  rcases h c hc with rfl | rfl <;> rfl
theorem letter_isL {c : Nat} (h : letter c) : isL c = true := by
  have h1 : 97 ≤ c := h.1
  have h2 : c ≤ 122 := h.2
  simp [isL, h1, h2]
theorem rd_word {l : List Nat} (h0 : l ≠ []) (h : ∀ c ∈ l, letter c) : Rd1 (.str l) := by
  intro r hr
  obtain ⟨e1, e2⟩ := take_all (fun c hc => letter_isL (h c hc)) hr.notL
  show Item (l ++ r) (.str l) r
  refine item_atom ?_ ?_
  · cases l with
    | nil => exact absurd rfl h0
    | cons c x =>
      have := (h c (List.mem_cons_self ..)).1
      intro e
      rw [List.cons_append, List.head?_cons] at e
      have := Option.some.inj e
      omega
  · unfold atom
    rw [e1, e2, if_pos h0]
theorem numL_head (n : Nat) : ∃ c r, TL.numL n = c :: r ∧ (c = 48 → n = 0 ∧ r = []) ∧ 48 ≤ c ∧ c ≤ 57 := by
  induction n using Nat.strongRecOn with
  | _ n ih =>
    by_cases h : n < 10
    · rw [TL.numL_lt h]
      exact ⟨48 + n, [], rfl, fun e => ⟨by omega, rfl⟩, by omega, by omega⟩
    · rw [TL.numL_step (by omega)]
      obtain ⟨c, r, e, h1, h2⟩ := ih (n / 10) (by omega)
      rw [e]
      exact ⟨c, r ++ [48 + n % 10], rfl, fun e0 => by have := (h1 e0).1; omega, h2⟩
theorem numL_isD (n : Nat) : ∀ c ∈ TL.numL n, isD c = true := fun c hc => by
  have := TL.numL_digits n c hc
  simp [isD, this]
theorem numL_zero : TL.numL 0 = [48] := by decide +kernel
theorem rd_int (n : Int) : Rd1 (.int n) := by
  intro r hr
  show Item (intL n ++ r) (.int n) r
  obtain ⟨c, x, ec, h0, h1, h2⟩ := numL_head n.natAbs
  obtain ⟨e1, e2⟩ := take_all (numL_isD n.natAbs) hr.notD
  have notL : ∀ (y : List Nat) (c : Nat), c ≤ 57 → (c :: y).takeWhile isL = [] := by
    intro y c h
    rw [List.takeWhile_cons]
    have : isL c = false := by
      simp [isL]
      omega
    rw [this]
    rfl
  unfold intL
  by_cases h : n < 0
  · rw [if_pos h]
    refine item_atom (by simp) ?_
    unfold atom
    rw [List.cons_append, notL _ _ (by decide), if_neg (by simp), if_pos (show (45 :: (TL.numL n.natAbs ++ r)).head? = some 45 from rfl), List.tail_cons, e1, e2]
    have hok : numOk true (TL.numL n.natAbs) = true := by
      unfold numOk
      rw [ec]
      have : c ≠ 48 := fun e => by
        have := (h0 e).1
        omega
      simp [this]
    rw [if_pos hok, TL.numL_val, show -((n.natAbs : Nat) : Int) = n by omega]
  · rw [if_neg h]
    refine item_atom ?_ ?_
    · rw [ec, List.cons_append, List.head?_cons]
      intro e
      have := Option.some.inj e
      omega
    · unfold atom
      rw [e1, e2]
      rw [show (TL.numL n.natAbs ++ r).takeWhile isL = [] by rw [ec, List.cons_append]; exact notL _ _ h2, if_neg (by simp)]
      rw [if_neg (by rw [ec, List.cons_append, List.head?_cons]; intro e; have := Option.some.inj e; omega)]
      have hok : numOk false (TL.numL n.natAbs) = true := by
        by_cases e : c = 48
        · have := h0 e
          rw [this.1, numL_zero]
          rfl
        · unfold numOk
          rw [ec]
          simp [e]
      rw [if_pos hok, TL.numL_val, show ((n.natAbs : Nat) : Int) = n by omega]
theorem rd_items : ∀ (ds : List Dat), ds ≠ [] → (∀ d ∈ ds, Rd1 d) → ∀ r, Items (TL.joinL [32] (ds.map Dat.txt) ++ 41 :: r) ds r
  | [d], _, h, r => items_last (h d (List.mem_cons_self ..) (41 :: r) fun c hc => by
      have := Option.some.inj hc
      omega)
  | d :: e :: ds, _, h, r => by
    have ih := rd_items (e :: ds) (List.cons_ne_nil _ _) (fun x hx => h x (List.mem_cons_of_mem _ hx)) r
    have i := h d (List.mem_cons_self ..) (32 :: (TL.joinL [32] ((e :: ds).map Dat.txt) ++ 41 :: r)) fun c hc => by
      have := Option.some.inj hc
      omega
    have e1 : TL.joinL [32] ((d :: e :: ds).map Dat.txt) ++ 41 :: r = d.txt ++ 32 :: (TL.joinL [32] ((e :: ds).map Dat.txt) ++ 41 :: r) := by
      show (d.txt ++ ([32] ++ TL.joinL [32] ((e :: ds).map Dat.txt))) ++ 41 :: r = _
      simp
    rw [e1]
    exact items_more i ih
theorem Rd1.head {d : Dat} (h : Rd1 d) : d.txt.head? ≠ some 41 := by
  intro e
  have i := h [] (fun c hc => by cases hc)
  rw [List.append_nil, head_cons e] at i
  have : NoItem (41 :: d.txt.tail) := noitem_atom (by simp) (by
    unfold atom
    have e1 : (41 :: d.txt.tail).takeWhile isL = [] := by
      rw [List.takeWhile_cons]
      rfl
    have e2 : (41 :: d.txt.tail).takeWhile isD = [] := by
      rw [List.takeWhile_cons]
      rfl
    rw [e1, e2]
    simp [numOk])
  exact this.not i
theorem head_app {l m : List Nat} (h : l ≠ []) : (l ++ m).head? = l.head? := by
  cases l with
  | nil => exact absurd rfl h
  | cons c r => rfl
theorem rd_tup {ds : List Dat} (h : ∀ d ∈ ds, Rd1 d) : Rd1 (.tup ds) := by
  intro r hr
  rw [txt_tup]
  cases ds with
  | nil => exact item_empty
  | cons d ds =>
    have i := rd_items (d :: ds) (List.cons_ne_nil _ _) h r
    have e : (40 :: (TL.joinL [32] ((d :: ds).map Dat.txt) ++ [41])) ++ r = 40 :: (TL.joinL [32] ((d :: ds).map Dat.txt) ++ 41 :: r) := by simp
    rw [e]
    refine item_tup ?_ i
    have hd := (h d (List.mem_cons_self ..)).head
    have hne : d.txt ≠ [] := by
      intro e0
      have i0 := h d (List.mem_cons_self ..) [] (fun c hc => by cases hc)
      rw [e0] at i0
      have : NoItem [] := noitem_atom (by simp) (by unfold atom; simp [numOk])
      exact this.not i0
    cases ds with
    | nil =>
      show (d.txt ++ 41 :: r).head? ≠ _
      rw [head_app hne]
      exact hd
    | cons e2 ds =>
      show ((d.txt ++ ([32] ++ TL.joinL [32] ((e2 :: ds).map Dat.txt))) ++ 41 :: r).head? ≠ _
      rw [List.append_assoc, head_app hne]
      exact hd
/-! ### how deep -/
theorem Sh.mono {j k : Int} {t : List Nat} (h : Sh j t) (le : j ≤ k) : Sh k t := fun a b e => Int.le_trans (h a b e) le
theorem sh_flat {l : List Nat} (h : ∀ c ∈ l, c ≠ 40 ∧ c ≠ 41) : Sh 0 l := fun a b e => by
  rw [bal_flat fun c hc => h c (by rw [e]; exact List.mem_append_left _ hc)]
  exact Int.le_refl 0
theorem sh_app {k : Int} {a b : List Nat} (h1 : Sh k a) (h2 : Sh (k - bal a) b) : Sh k (a ++ b) := by
  intro x y e
  rcases List.append_eq_append_iff.mp e with ⟨m, e1, e2⟩ | ⟨m, e1, e2⟩
  · rw [e1, bal_app]
    have := h2 m y e2
    omega
  · exact h1 x m e1
theorem sh_one {k : Int} {c : Nat} (h : (if c = 40 then 1 else 0) ≤ k) : Sh k [c] := by
  intro a b e
  cases a with
  | nil =>
    show (0 : Int) ≤ k
    split at h <;> omega
  | cons x r =>
    have e1 : c = x := by
      simp at e
      exact e.1
    have e2 : r = [] := by
      simp at e
      exact e.2.1
    subst e1 e2
    rw [bal, bal]
    split at h
    · rw [if_pos (by assumption)]
      omega
    · rw [if_neg (by assumption)]
      split <;> omega
theorem joinL_bal : ∀ (ds : List Dat), (∀ d ∈ ds, bal d.txt = 0) → bal (TL.joinL [32] (ds.map Dat.txt)) = 0
  | [], _ => rfl
  | [d], h => h d (List.mem_cons_self ..)
  | d :: e :: ds, h => by
    have ih := joinL_bal (e :: ds) fun x hx => h x (List.mem_cons_of_mem _ hx)
    show bal (d.txt ++ ([32] ++ TL.joinL [32] ((e :: ds).map Dat.txt))) = 0
    rw [bal_app, bal_app, ih, h d (List.mem_cons_self ..)]
    rfl
theorem joinL_sh {k : Nat} : ∀ (ds : List Dat), (∀ d ∈ ds, Sh (k : Int) d.txt ∧ bal d.txt = 0) → Sh (k : Int) (TL.joinL [32] (ds.map Dat.txt))
  | [], _ => (sh_flat (fun c hc => by cases hc)).mono (by omega)
  | [d], h => (h d (List.mem_cons_self ..)).1
  | d :: e :: ds, h => by
    have ih := joinL_sh (e :: ds) fun x hx => h x (List.mem_cons_of_mem _ hx)
    have hd := h d (List.mem_cons_self ..)
    show Sh (k : Int) (d.txt ++ ([32] ++ TL.joinL [32] ((e :: ds).map Dat.txt)))
    refine sh_app hd.1 (sh_app (sh_one (by rw [hd.2]; simp)) ?_)
    rw [hd.2, show bal [32] = 0 from rfl]
    exact ih.mono (by omega)
/-! ### prefixes that do not fall below nought -/
theorem lo_flat {l : List Nat} (h : ∀ c ∈ l, c ≠ 40 ∧ c ≠ 41) : Lo l := fun a b e => by
  rw [bal_flat fun c hc => h c (by rw [e]; exact List.mem_append_left _ hc)]
  exact Int.le_refl 0
theorem lo_app {a b : List Nat} (h1 : Lo a) (h2 : ∀ x y, b = x ++ y → 0 ≤ bal a + bal x) : Lo (a ++ b) := by
  intro x y e
  rcases List.append_eq_append_iff.mp e with ⟨m, e1, e2⟩ | ⟨m, e1, e2⟩
  · rw [e1, bal_app]
    exact h2 m y e2
  · exact h1 x m e1
theorem joinL_lo : ∀ (ds : List Dat), (∀ d ∈ ds, Lo d.txt ∧ bal d.txt = 0) → Lo (TL.joinL [32] (ds.map Dat.txt))
  | [], _ => lo_flat (fun c hc => by cases hc)
  | [d], h => (h d (List.mem_cons_self ..)).1
  | d :: e :: ds, h => by
    have ih := joinL_lo (e :: ds) fun x hx => h x (List.mem_cons_of_mem _ hx)
    have hd := h d (List.mem_cons_self ..)
    show Lo (d.txt ++ ([32] ++ TL.joinL [32] ((e :: ds).map Dat.txt)))
    have l2 : Lo ([32] ++ TL.joinL [32] ((e :: ds).map Dat.txt)) := lo_app (lo_flat fun c hc => by rw [List.mem_singleton.mp hc]; decide) fun x y exy => by
      have := ih x y exy
      rw [show bal [32] = 0 from rfl]
      omega
    exact lo_app hd.1 fun x y exy => by
      have := l2 x y exy
      rw [hd.2]
      omega
/-! ### blocks of figures -/
theorem Runs.mono {n m : Nat} {t : List Nat} (h : Runs n t) (le : n ≤ m) : Runs m t := fun a b c e x => Nat.le_trans (h a b c e x) le
theorem runs_len (t : List Nat) : Runs t.length t := fun a b c e _ => by
  rw [e, List.length_append, List.length_append]
  omega
theorem runs_none {t : List Nat} (h : ∀ c ∈ t, isD c = false) : Runs 0 t := fun a b c e x => by
  cases b with
  | nil => exact Nat.le_refl 0
  | cons y r =>
    have h1 := x y (List.mem_cons_self ..)
    rw [h y (by rw [e]; simp)] at h1
    cases h1
theorem runs_app {n m : Nat} {s t : List Nat} (h1 : Runs n s) (h2 : Runs m t) : Runs (n + m) (s ++ t) := by
  intro a b c e x
  rcases List.append_eq_append_iff.mp e with ⟨z, e1, e2⟩ | ⟨z, e1, e2⟩
  · have := h2 z b c e2 x
    omega
  · rcases List.append_eq_append_iff.mp e2 with ⟨y, e3, e4⟩ | ⟨y, e3, e4⟩
    · have := h1 a b y (by rw [e1, e3]) x
      omega
    · have hz : z.length ≤ n := h1 a z [] (by rw [e1, List.append_nil]) fun q hq => x q (by rw [e3]; exact List.mem_append_left _ hq)
      have hy : y.length ≤ m := h2 [] y c (by rw [e4]; rfl) fun q hq => x q (by rw [e3]; exact List.mem_append_right _ hq)
      rw [e3, List.length_append]
      omega
/-- a sign that is no figure parts the blocks -/
theorem runs_sep {n : Nat} {s t : List Nat} {c : Nat} (h1 : Runs n s) (hc : isD c = false) (h2 : Runs n t) : Runs n (s ++ c :: t) := by
  intro a b d e x
  rcases List.append_eq_append_iff.mp e with ⟨z, e1, e2⟩ | ⟨z, e1, e2⟩
  · cases z with
    | nil =>
      cases b with
      | nil => exact Nat.zero_le _
      | cons y r =>
        rw [List.nil_append, List.cons_append] at e2
        injection e2 with e3 e4
        have := x y (List.mem_cons_self ..)
        rw [← e3, hc] at this
        cases this
    | cons y r =>
      rw [List.cons_append] at e2
      injection e2 with e3 e4
      exact h2 r b d e4 x
  · rcases List.append_eq_append_iff.mp e2 with ⟨y, e3, e4⟩ | ⟨y, e3, e4⟩
    · exact h1 a b y (by rw [e1, e3]) x
    · cases y with
      | nil => exact h1 a b [] (by rw [e1, e3, List.append_nil, List.append_nil]) x
      | cons q r =>
        rw [List.cons_append] at e4
        injection e4 with e5 e6
        have := x q (by rw [e3]; exact List.mem_append_right _ (List.mem_cons_self ..))
        rw [← e5, hc] at this
        cases this
theorem joinL_runs {n : Nat} : ∀ (ds : List Dat), (∀ d ∈ ds, Runs n d.txt) → Runs n (TL.joinL [32] (ds.map Dat.txt))
  | [], _ => (runs_none (fun c hc => by cases hc)).mono (Nat.zero_le _)
  | [d], h => h d (List.mem_cons_self ..)
  | d :: e :: ds, h => by
    have ih := joinL_runs (e :: ds) fun x hx => h x (List.mem_cons_of_mem _ hx)
    exact runs_sep (h d (List.mem_cons_self ..)) rfl ih
theorem ok_tup {k : Nat} {ds : List Dat} (h : ∀ d ∈ ds, Okd k d) : Okd (k + 1) (.tup ds) := by
  have h1 := joinL_sh ds fun d hd => ⟨(h d hd).2.1, (h d hd).2.2.1⟩
  have h2 := joinL_bal ds fun d hd => (h d hd).2.2.1
  have h3 := joinL_lo ds fun d hd => ⟨(h d hd).2.2.2.1, (h d hd).2.2.1⟩
  have h4 := joinL_runs ds fun d hd => (h d hd).2.2.2.2
  have nil0 : Runs 4401 ([] : List Nat) := (runs_none (fun c hc => by cases hc)).mono (Nat.zero_le _)
  refine ⟨rd_tup fun d hd => (h d hd).1, ?_, ?_, ?_, ?_⟩
  · rw [txt_tup]
    show Sh _ ([40] ++ (_ ++ [41]))
    refine sh_app (sh_one (by simp; omega)) (sh_app (h1.mono (by rw [show bal [40] = 1 from rfl]; omega)) (sh_one ?_))
    rw [h2, show bal [40] = 1 from rfl]
    simp
  · rw [txt_tup, bal, bal_app, h2]
    rfl
  · rw [txt_tup]
    intro a b e
    cases a with
    | nil => exact Int.le_refl 0
    | cons c r =>
      rw [List.cons_append] at e
      injection e with e1 e2
      subst e1
      rw [bal, if_pos rfl]
      rcases List.append_eq_append_iff.mp e2 with ⟨m, e3, e4⟩ | ⟨m, e3, e4⟩
      · rw [e3, bal_app, h2]
        cases m with
        | nil => decide
        | cons q m =>
          rw [List.cons_append] at e4
          injection e4 with e5 e6
          cases m with
          | nil =>
            subst e5
            decide
          | cons _ _ => cases e6
      · have := h3 r m e3
        omega
  · rw [txt_tup]
    exact runs_sep (s := []) nil0 rfl (runs_sep (t := []) h4 rfl nil0)
theorem Okd.mono {j k : Nat} {d : Dat} (h : Okd j d) (le : j ≤ k) : Okd k d := ⟨h.1, h.2.1.mono (by omega), h.2.2.1, h.2.2.2.1, h.2.2.2.2⟩
theorem letter_flat {l : List Nat} (h : ∀ c ∈ l, letter c) : ∀ c ∈ l, c ≠ 40 ∧ c ≠ 41 := fun c hc => by
  have := (h c hc).1
  omega
theorem ok_str {l : List Nat} (h0 : l ≠ []) (h : ∀ c ∈ l, letter c) (k : Nat) : Okd k (.str l) := ⟨rd_word h0 h, (sh_flat (letter_flat h)).mono (by omega), bal_flat (letter_flat h), lo_flat (letter_flat h), (runs_none fun c hc => by
    have := (h c hc).1
    simp [isD]
    omega).mono (Nat.zero_le _)⟩
theorem intL_flat (n : Int) : ∀ c ∈ intL n, c ≠ 40 ∧ c ≠ 41 := by
  intro c hc
  unfold intL at hc
  have hn : ∀ c ∈ TL.numL n.natAbs, c ≠ 40 ∧ c ≠ 41 := fun c hc => by
    have := TL.numL_digits n.natAbs c hc
    omega
  split at hc
  · rcases List.mem_cons.mp hc with rfl | hc
    · decide
    · exact hn c hc
  · exact hn c hc
theorem ok_num' (n : Int) (k : Nat) (h : (intL n).length ≤ 4401) : Okd k (.int n) := ⟨rd_int n, (sh_flat (intL_flat n)).mono (by omega), bal_flat (intL_flat n), lo_flat (intL_flat n), (runs_len (intL n)).mono h⟩
end KT

namespace KT
open PySem PySem.Spec PyProof.Rows L2
open C8 (Cal pe_c)
theorem intL_small : ∀ n : Fin 5, (intL (n.val : Int)).length = 1 := by decide +kernel
theorem samp_len {l : List Nat} {d : Dat} (hl : l.length ≤ 8) (h : d ∈ samp l) : d.txt.length ≤ 400 := by
  have i0 : (intL 0).length = 1 := intL_small 0
  have i1 : (intL 1).length = 1 := intL_small 1
  have i2 : (intL 2).length = 1 := intL_small 2
  have i3 : (intL 3).length = 1 := intL_small 3
  have i4 : (intL 4).length = 1 := intL_small 4
  simp only [samp, List.mem_cons, List.not_mem_nil, or_false] at h
  rcases h with rfl | rfl | rfl | rfl | rfl | rfl | rfl | rfl <;>
    simp [Dat.txt, txts, TL.joinL, i0, i1, i2, i3, i4, dS, dI, chars] <;> omega
theorem chars_str {x : String} (h0 : chars x ≠ []) (h : (chars x).all (fun c => decide (97 ≤ c) && decide (c ≤ 122)) = true) (k : Nat) : Okd k (.str (chars x)) :=
  ok_str h0 (fun c hc => by
    have := List.all_eq_true.mp h c hc
    simp at this
    exact this) k
theorem samp_ok {l : List Nat} {d : Dat} (h0 : 1 ≤ l.length) (hl : ∀ c ∈ l, letter c) (h : d ∈ samp l) : Okd 5 d := by
  have w : ∀ k, Okd k (.str l) := fun k => ok_str (by intro e; rw [e] at h0; exact absurd h0 (by decide)) hl k
  have i : ∀ (n : Fin 5) k, Okd k (dI (n.val : Int)) := fun n k => ok_num' _ k (by rw [intL_small n]; decide)
  have iN : ∀ (n : Int) k, (0 ≤ n ∧ n < 5) → Okd k (dI n) := fun n k h => by
    have := i ⟨n.toNat, by omega⟩ k
    rw [show ((n.toNat : Nat) : Int) = n by omega] at this
    exact this
  have t1 : ∀ {k : Nat} {a : Dat}, Okd k a → Okd (k + 1) (.tup [a]) := fun ha => ok_tup fun x hx => by rw [List.mem_singleton.mp hx]; exact ha
  have hm : ∀ {k : Nat} {a : Dat} {r : List Dat}, Okd k a → (∀ x ∈ r, Okd k x) → ∀ x ∈ a :: r, Okd k x := fun ha hr x hx => by
    rcases List.mem_cons.mp hx with e | hx
    · rw [e]; exact ha
    · exact hr x hx
  have hn : ∀ {k : Nat}, ∀ x ∈ ([] : List Dat), Okd k x := fun x hx => by cases hx
  have s : ∀ (x : String) (k : Nat), (!(chars x == []) && (chars x).all (fun c => decide (97 ≤ c) && decide (c ≤ 122))) = true → Okd k (dS x) := fun x k hx => by
    rw [Bool.and_eq_true] at hx
    exact chars_str (by
      intro e
      rw [e] at hx
      exact absurd hx.1 (by decide)) hx.2 k
  simp only [samp, List.mem_cons, List.not_mem_nil, or_false] at h
  rcases h with rfl | rfl | rfl | rfl | rfl | rfl | rfl | rfl
  · exact (ok_tup (k := 0) (hm (s _ _ (by decide +kernel)) (hm (iN _ _ (by decide)) hn))).mono (by decide)
  · exact (ok_tup (k := 2) (hm (s _ _ (by decide +kernel)) (hm (w _) (hm ((ok_tup (k := 0) (hm (s _ _ (by decide +kernel)) (hm (iN _ _ (by decide)) hn))).mono (by decide)) (hm (ok_tup (k := 1) (hm (s _ _ (by decide +kernel)) (hm (iN _ _ (by decide)) (hm (ok_tup (k := 0) (hm (s _ _ (by decide +kernel)) (hm (w _) hn))) hn)))) hn))))).mono (by decide)
  · exact (ok_tup (k := 2) (hm (ok_tup (k := 1) (hm (w _) (hm (ok_tup (k := 0) (hm (s _ _ (by decide +kernel)) (hm (iN _ _ (by decide)) hn))) hn))) hn)).mono (by decide)
  · exact (ok_tup (k := 1) (hm (w _) (hm (ok_tup (k := 0) (hm (s _ _ (by decide +kernel)) (hm (iN _ _ (by decide)) (hm (iN _ _ (by decide)) hn)))) hn))).mono (by decide)
  · exact (ok_tup (k := 0) hn).mono (by decide)
  · exact (ok_tup (k := 2) (hm (s _ _ (by decide +kernel)) (hm (iN _ _ (by decide)) (hm (w _) (hm ((ok_tup (k := 0) (hm (s _ _ (by decide +kernel)) (hm (iN _ _ (by decide)) hn))).mono (by decide)) (hm ((ok_tup (k := 0) (hm (s _ _ (by decide +kernel)) (hm (iN _ _ (by decide)) (hm (iN _ _ (by decide)) hn)))).mono (by decide)) (hm (ok_tup (k := 1) (hm (ok_tup (k := 0) (hm (s _ _ (by decide +kernel)) (hm (iN _ _ (by decide)) (hm (iN _ _ (by decide)) hn)))) (hm (ok_tup (k := 0) (hm (s _ _ (by decide +kernel)) (hm (s _ _ (by decide +kernel)) hn))) hn))) hn))))))).mono (by decide)
  · refine (ok_tup (k := 3) (hm (s _ _ (by decide +kernel)) (hm (w _) (hm ?_ (hm ?_ hn))))).mono (by decide)
    · exact (ok_tup (k := 1) (hm (s _ _ (by decide +kernel)) (hm (ok_tup (k := 0) (hm (s _ _ (by decide +kernel)) (hm (iN _ _ (by decide)) hn))) hn))).mono (by decide)
    · refine ok_tup (k := 2) (hm (s _ _ (by decide +kernel)) (hm ?_ (hm ?_ hn)))
      · exact (ok_tup (k := 0) (hm (s _ _ (by decide +kernel)) (hm (iN _ _ (by decide)) hn))).mono (by decide)
      · exact ok_tup (k := 1) (hm (s _ _ (by decide +kernel)) (hm (ok_tup (k := 0) (hm (s _ _ (by decide +kernel)) (hm (iN _ _ (by decide)) hn))) (hm (ok_tup (k := 0) (hm (s _ _ (by decide +kernel)) (hm (w _) hn))) (hm (ok_tup (k := 0) (hm (s _ _ (by decide +kernel)) (hm (iN _ _ (by decide)) (hm (iN _ _ (by decide)) hn)))) hn))))
  · exact (ok_tup (k := 1) (hm (s _ _ (by decide +kernel)) (hm (w _) (hm (ok_tup (k := 0) (hm (s _ _ (by decide +kernel)) (hm (iN _ _ (by decide)) hn))) (hm (ok_tup (k := 0) (hm (s _ _ (by decide +kernel)) (hm (iN _ _ (by decide)) hn))) (hm (ok_tup (k := 0) (hm (s _ _ (by decide +kernel)) (hm (iN _ _ (by decide)) (hm (iN _ _ (by decide)) hn)))) (hm (ok_tup (k := 0) (hm (s _ _ (by decide +kernel)) (hm (iN _ _ (by decide)) (hm (iN _ _ (by decide)) hn)))) (hm (ok_tup (k := 0) hn) (hm (ok_tup (k := 0) (hm (s _ _ (by decide +kernel)) (hm (w _) hn))) hn))))))))).mono (by decide)
abbrev sNest : Stmt := top 15
theorem scNest : FnScope ["box", "depth", "form", "word", "value", "text", "k", "many", "rows", "row"] ["box", "depth"] (defScope sNest) := ⟨rfl, rfl, rfl, by decide +kernel, rfl, by decide +kernel, by decide +kernel⟩
/-- the greatest length of a text -/
def Bnd : Nat → Nat
  | 0 => 4401
  | 1 => 13210
  | 2 => 39640
  | 3 => 118930
  | _ => 1665040
theorem bnd_step : ∀ k, k < 4 → (if k + 1 = 4 then 14 else 3) * (Bnd k + 1) + 2 ≤ Bnd (k + 1) ∧ 4401 ≤ Bnd k ∧ 4401 ≤ Bnd (k + 1)
  | 0, _ => by decide
  | 1, _ => by decide
  | 2, _ => by decide
  | 3, _ => by decide
  | _ + 4, h => by omega
theorem bnd_all : ∀ k, 4401 ≤ Bnd k ∧ Bnd k ≤ 1665040
  | 0 => by decide
  | 1 => by decide
  | 2 => by decide
  | 3 => by decide
  | _ + 4 => by show _ ≤ 1665040 ∧ 1665040 ≤ 1665040; decide
/-- at p stands the pair of a value and its text -/
def Pair (H : Hp) (n m : Nat) (p : Addr) (d : Dat) : Prop := ∃ v, H p = some (.tup [v, .str (SX.S d.txt)]) ∧ DV H n v d ∧ d.txt.length ≤ m ∧ Okd n d
theorem Pair.keep {H H' : Hp} {n m : Nat} {p : Addr} {d : Dat} (k : Tups H H') (x : Pair H n m p d) : Pair H' n m p d := by
  obtain ⟨v, h1, h2, h3, h4⟩ := x
  exact ⟨v, k _ _ h1, DVL.keep k (fun _ _ h => h) h2, h3, h4⟩
def spNest (k : Nat) : Sp := fun vs H Q _ => ∃ (b : Addr) (z : Int), vs = [.ref b, .int (k : Int)] ∧ Bx H b z ∧ 0 ≤ z ∧
  ∀ d z' p H', 0 ≤ z' → Bx H' b z' → Kept b H H' → Pair H' (60 + k) (Bnd k) p d → Q (.ref p) H'
theorem counts8 {k : Nat} (h : k < 8) : ∃ m : Nat, ([.int 0, .int 1, .int 2, .int 3, .int 4, .int 5, .int 7, .int 14] : List V)[k]? = some (.int (m : Int)) ∧ m ≤ 14 := by
  have : ∀ k : Fin 8, ∃ m : Nat, ([.int 0, .int 1, .int 2, .int 3, .int 4, .int 5, .int 7, .int 14] : List V)[k.val]? = some (.int (m : Int)) ∧ m ≤ 14 := by
    intro k
    match k with
    | ⟨0, _⟩ => exact ⟨0, rfl, by decide⟩
    | ⟨1, _⟩ => exact ⟨1, rfl, by decide⟩
    | ⟨2, _⟩ => exact ⟨2, rfl, by decide⟩
    | ⟨3, _⟩ => exact ⟨3, rfl, by decide⟩
    | ⟨4, _⟩ => exact ⟨4, rfl, by decide⟩
    | ⟨5, _⟩ => exact ⟨5, rfl, by decide⟩
    | ⟨6, _⟩ => exact ⟨7, rfl, by decide⟩
    | ⟨7, _⟩ => exact ⟨14, rfl, by decide⟩
  exact this ⟨k, h⟩
section
variable {P : Program} {w : World} {K : PySem.W.Frag} {mg : Str → Option Value} {base : Heap} {f : Addr} {fd : FuncData}
theorem ok_nest (F : Fun K "_law_nested" "_law_nested" sNest f fd) (gN : mg "_law_nested" = some (.ref f)) (bN : Binds K fd ["box", "depth"] []) (mR : mg "range" = none) (mT : mg "tuple" = none)
    (cT : Cal P w K mg base 1 "_law_take" spTake []) (cI : Cal P w K mg base 3 "_law_integer" spInt []) (cW : Cal P w K mg base 2 "_law_word" spWord []) (cS : Cal P w K mg base 3 "_law_sample" spSamp []) (cP : Cal P w K mg base 6 "_law_plain" (spText Small 5) []) :
    ∀ k, k ≤ 4 → FnOk P w K mg base CX0 (7 + k) f fd ["box", "depth"] (spNest k) := by
  have body : ∀ k, k ≤ 4 → (∀ j, k = j + 1 → FnOk P w K mg base CX0 (6 + k) f fd ["box", "depth"] (spNest j)) → FnOk P w K mg base CX0 (7 + k) f fd ["box", "depth"] (spNest k) := by
    intro k k4 ih
    rw [show 7 + k = (6 + k) + 1 by omega]
    refine F.ok scNest (fun vs H Q E h => ?_) (fun cdv A outer s H vs Q E hr h => ?_)
    · obtain ⟨b, z, rfl, _⟩ := h
      rfl
    obtain ⟨b, z, rfl, hb, hz, q⟩ := h
    have hB := bnd_all k
    -- the calls that do not hang on the depth
    have rest : ∃ t, PSs (cxOf CX0 P w K mg base ["box", "depth", "form", "word", "value", "text", "k", "many", "rows", "row"] "_law_nested" (defScope sNest) f cdv A outer s H E).nox ((defBody sNest).drop 5) t ∧
        (0 < k → ∀ y2 y3 y4 y5 y6 z1 H1, 0 ≤ z1 → Bx H1 b z1 → Kept b H H1 → t { nx := fun _ H' => Q .non H', rt := Q } [some (.ref b), some (.int (k : Int)), y2, y3, y4, y5, y6, none, none, none] H1) := by
      rcases Nat.eq_zero_or_pos k with k0 | k0
      · exact ⟨_, pss_never, fun h => absurd h (by omega)⟩
      obtain ⟨j, rfl⟩ : ∃ j, k = j + 1 := ⟨k - 1, by omega⟩
      have cN : Cal P w K mg base (6 + (j + 1)) "_law_nested" (spNest j) [] := ⟨f, fd, _, _, ih j rfl, gN, F.kp, bN, .nil⟩
      refine ⟨_, C8.pss_cut (ps_set (i := 7) scNest.nd rfl (Or.inl rfl) (pe_ifExp (pt_cmpR op_eq (pv 1) pe_int (nomark _))
          (pe_ix ix_list (pe_lst (pa_cons pe_int (pa_cons pe_int (pa_cons pe_int (pa_cons pe_int (pa_cons pe_int (pa_cons pe_int (pa_cons pe_int (pa_cons pe_int pa_nil))))))))) (pe_c cT hr (by omega) (by rfl) (pa_cons (pv 0) (pa_cons pe_int pa_nil))) (fun _ _ => rfl))
          (pe_c cT hr (by omega) (by rfl) (pa_cons (pv 0) (pa_cons pe_int pa_nil)))))
        (pss_cons (ps_setLc (i := 8) (own := [("k", 6)]) (g := gName 6) (by rfl) scNest.nd rfl rfl (sw_true rfl rfl rfl (by decide +kernel)) (pi_range1 (by rfl) mR (pa_cons (pv 7) pa_nil)) (blkOk_by (N := ["box", "depth", "form", "word", "value", "text", "k", "many", "rows", "row"]) (sc := defScope sNest) (by decide +kernel)) (fun _ _ _ _ _ => pg_name (i := 6) scNest.nd rfl (Or.inl rfl)) (fun _ _ _ _ _ => pts_nil)
          (fun _ _ _ _ _ => pe_c cN hr (Nat.le_refl _) (by rfl) (pa_cons (pv 0) (pa_cons (pe_op op_sub (pv 1) pe_int) pa_nil))))
        (pss_one (ps_ret (pe_tup (pa_cons (pe_tupleOf (by rfl) mT (pe_lc (own := [("row", 9)]) (g := gName 9) (te := tOp (rIxT K) (tVar 9) (tC (.int 0))) rfl scNest.nd (pi_list (pv 8)) (blkOk_by (N := ["box", "depth", "form", "word", "value", "text", "k", "many", "rows", "row"]) (sc := defScope sNest) (by decide +kernel)) (fun _ _ _ _ _ => pg_name (i := 9) scNest.nd rfl (Or.inl rfl)) (fun _ _ _ _ _ => pts_nil)
            (fun _ _ _ _ _ => pe_ix ix_tup (pv 9) pe_int (fun _ _ => rfl))))
          (pa_cons (pe_op op_add_str (pe_op op_add_str pe_str (pe_join pe_str (pe_lc (own := [("row", 9)]) (g := gName 9) (te := tOp (rIxT K) (tVar 9) (tC (.int 1))) rfl scNest.nd (pi_list (pv 8)) (blkOk_by (N := ["box", "depth", "form", "word", "value", "text", "k", "many", "rows", "row"]) (sc := defScope sNest) (by decide +kernel)) (fun _ _ _ _ _ => pg_name (i := 9) scNest.nd rfl (Or.inl rfl)) (fun _ _ _ _ _ => pts_nil)
            (fun _ _ _ _ _ => pe_ix ix_tup (pv 9) pe_int (fun _ _ => rfl))))) pe_str) pa_nil)))))), fun _ y2 y3 y4 y5 y6 z1 H1 hz1 hb1 k1 => ?_⟩
      -- how many
      refine ⟨fun σ H2 => ∃ (m : Nat) (z2 : Int), σ = [some (.ref b), some (.int ((j + 1 : Nat) : Int)), y2, y3, y4, y5, y6, some (.int (m : Int)), none, none] ∧ m ≤ (if j + 1 = 4 then 14 else 3) ∧ 0 ≤ z2 ∧ Bx H2 b z2 ∧ Kept b H H2, ?_, ?_⟩
      · refine ⟨_, rfl, rfl, _, rfl, ?_⟩
        refine ite2 (fun e => ?_) (fun e => ?_)
        · have e4 : j + 1 = 4 := by
            have := V.int.inj (of_decide_eq_true e)
            omega
          refine ⟨by show 8 ≤ sizeLine; decide, fun p hp => ?_⟩
          have npb := hb1.ne hp
          obtain ⟨i, ei⟩ := toNat_of (mod_lt' (z := z1) (m := 8) (by decide)).1
          have i8 := (mod_lt' (z := z1) (m := 8) (by decide)).2
          obtain ⟨m, em, m14⟩ := counts8 (k := i) (by omega)
          refine ⟨_, rfl, b, z1, 8, rfl, hb1.new hp, by decide, by decide, p, _, (i : Int), _, rfl, by rw [ei], .inl (.inl ?_), atI_nat em, m, z1 / 8, rfl, by rw [if_pos e4]; exact m14, div_nn hz1 (by decide), upd_same, (k1.trans (Kept.new hp)).trans Kept.upd⟩
          rw [upd_ne npb, upd_same]
        · have e4 : ¬ j + 1 = 4 := fun h => e (by rw [h]; exact decide_eq_true rfl)
          obtain ⟨i, ei⟩ := toNat_of (mod_lt' (z := z1) (m := 4) (by decide)).1
          have i4 := (mod_lt' (z := z1) (m := 4) (by decide)).2
          exact ⟨_, rfl, b, z1, 4, rfl, hb1, by decide, by decide, i, z1 / 4, by rw [ei]; rfl, by rw [if_neg e4]; omega, div_nn hz1 (by decide), upd_same, k1.trans Kept.upd⟩
      rintro σ H2 ⟨m, z2, rfl, m3, hz2, hb2, k2⟩
      have m14 : m ≤ 14 := by split at m3 <;> omega
      -- the rows
      refine ⟨_, rfl, (m : Int), rfl, by omega, by omega, fun R hR => ?_⟩
      have nRb := hb2.ne hR
      refine lc_range (n := ((m : Int)).toNat) (fun i H3 => ∃ (ps : List Addr) (ds : List Dat) (z3 : Int), ps.length = i ∧ H3 R = some (.lst (ps.map V.ref)) ∧ Paired (Pair H3 (60 + j) (Bnd j)) ps ds ∧ 0 ≤ z3 ∧ Bx H3 b z3 ∧ Kept b H2 H3)
        ⟨[], [], z2, rfl, upd_same, .nil, hz2, hb2.new hR, Kept.new hR⟩ (fun i H3 hi hP => ?_) (fun H3 hP => ?_)
      · obtain ⟨ps, ds, z3, rfl, eR, hp, hz3, hb3, k3⟩ := hP
        refine ⟨rfl, ?_⟩
        refine ⟨_, rfl, _, rfl, _, _, rfl, rfl, b, z3, ?_, hb3, hz3, fun d z4 p H4 hz4 hb4 k4 hd => ?_⟩
        · show [V.ref b, V.int (((j + 1 : Nat) : Int) - 1)] ++ [] = _
          rw [show ((j + 1 : Nat) : Int) - 1 = (j : Int) by omega]
          rfl
        · have eR4 := k4 R _ nRb eR
          have tk : Tups H4 (upd H4 R (.lst (ps.map V.ref ++ [V.ref p]))) := fun x ys hx => by
            rw [upd_ne (fun e => by
              subst e
              rw [eR4] at hx
              cases hx)]
            exact hx
          refine ⟨_, eR4, ?_, ps ++ [p], ds ++ [d], z4, by simp, ?_, Paired.snoc (Paired.mono (fun _ _ x => (x.keep (Kept.tups hb3 k4)).keep tk) hp) (hd.keep tk), hz4, ?_, ?_⟩
          · rw [List.length_map]
            exact small1000 (by omega)
          · rw [upd_same, List.map_append]
            rfl
          · unfold Bx
            rw [upd_ne nRb.symm]
            exact hb4
          · intro a o hab ha
            rw [upd_ne (ne_of_none ha hR)]
            exact k4 a o hab (k3 a o hab ha)
      obtain ⟨ps, ds, z3, hps, eR, hp, hz3, hb3, k3⟩ := hP
      have hds := hp.length
      have hL : SqL K H3 R (ps.map V.ref) := SqL.of eR
      have vals : ∃ xs, Paired (DV H3 (60 + j)) xs ds ∧ Paired (fun (p : Addr) (x : V) => ∃ d : Dat, H3 p = some (.tup [x, .str (SX.S d.txt)])) ps xs := by
        clear hps hds eR hL
        induction hp with
        | nil => exact ⟨[], .nil, .nil⟩
        | cons h t ih =>
          obtain ⟨xs, h1, h2⟩ := ih
          obtain ⟨v, e1, e2, e3, e4⟩ := h
          exact ⟨v :: xs, .cons e2 h1, .cons ⟨_, e1⟩ h2⟩
      obtain ⟨xs, hxs, hxp⟩ := vals
      have lxs := hxs.length
      -- the values
      refine ⟨_, rfl, R, rfl, ⟨_, hL⟩, fun D hD => ?_⟩
      refine lc_list (xs := ps.map V.ref) (fun i H4 => Same H3 H4 ∧ H4 D = some (.lst (xs.take i))) ⟨Same.upd_new hD, upd_same⟩ (fun i H4 _ hP => hP.1.seq hL) (fun i x H4 hx hP => ?_) (fun H4 hP => ?_)
      · obtain ⟨s4, eD⟩ := hP
        rw [List.getElem?_map] at hx
        cases hpi : ps[i]? with
        | none => rw [hpi] at hx; cases hx
        | some p =>
          rw [hpi] at hx
          cases hx
          obtain ⟨v, hv, d, hd⟩ := Paired.at hxp hpi
          refine ⟨rfl, ?_⟩
          refine ⟨_, rfl, p, _, 0, v, rfl, rfl, .inl (.inl (s4 _ _ hd)), rfl, _, eD, ?_, ?_, ?_⟩
          · rw [List.length_take]
            exact small1000 (by omega)
          · intro a o ha
            rw [upd_ne (ne_of_none ha hD)]
            exact s4 _ _ ha
          · rw [upd_same, List.take_add_one, hv]
            rfl
      obtain ⟨s4, eD⟩ := hP
      rw [List.take_of_length_le (by rw [List.length_map]; omega)] at eD
      refine .inl ⟨D, xs, rfl, SqL.of eD, fun T hT => ?_⟩
      have s5 : Same H3 (upd H4 T (.tup xs)) := s4.trans (Same.upd_new hT)
      -- the texts
      refine ⟨⟨_, rfl⟩, _, rfl, R, rfl, ⟨_, s5.seq hL⟩, fun D2 hD2 => ?_⟩
      have hps2 : Paired (fun (p : Addr) (d : Dat) => ∃ x : V, H3 p = some (.tup [x, .str (SX.S d.txt)])) ps ds := Paired.mono (fun _ _ h => ⟨h.choose, h.choose_spec.1⟩) hp
      have hlen : ∀ d ∈ ds, d.txt.length ≤ Bnd j := by
        intro d hd
        obtain ⟨p, h⟩ := Paired.right hp d hd
        exact h.choose_spec.2.2.1
      have hoks : ∀ d ∈ ds, Okd (60 + j) d := by
        intro d hd
        obtain ⟨p, h⟩ := Paired.right hp d hd
        exact h.choose_spec.2.2.2
      refine lc_list (xs := ps.map V.ref) (fun i H5 => Same (upd H4 T (.tup xs)) H5 ∧ H5 D2 = some (.lst ((ds.take i).map fun d => V.str (SX.S d.txt)))) ⟨Same.upd_new hD2, upd_same⟩ (fun i H5 _ hP => (s5.trans hP.1).seq hL) (fun i x H5 hx hP => ?_) (fun H5 hP => ?_)
      · obtain ⟨s6, eD2⟩ := hP
        rw [List.getElem?_map] at hx
        cases hpi : ps[i]? with
        | none => rw [hpi] at hx; cases hx
        | some p =>
          rw [hpi] at hx
          cases hx
          obtain ⟨d, hd, v, hv⟩ := Paired.at hps2 hpi
          refine ⟨rfl, ?_⟩
          refine ⟨_, rfl, p, _, 1, _, rfl, rfl, .inl (.inl (s6 _ _ (s5 _ _ hv))), rfl, _, eD2, ?_, ?_, ?_⟩
          · rw [List.length_map, List.length_take]
            exact small1000 (by omega)
          · intro a o ha
            rw [upd_ne (ne_of_none ha hD2)]
            exact s6 _ _ ha
          · rw [upd_same, List.take_add_one, hd, List.map_append]
            rfl
      obtain ⟨s6, eD2⟩ := hP
      rw [List.take_of_length_le (by rw [List.length_map]; omega)] at eD2
      obtain ⟨hsum, hone⟩ := txt_bounds ds
      have hb := bnd_step j (by omega)
      have hmany : ds.length ≤ (if j + 1 = 4 then 14 else 3) := by omega
      have htot : ((ds.map Dat.txt).map (·.length)).sum ≤ ds.length * Bnd j := by
        clear hsum hone eD2 hps2 hp hxs hxp hds lxs hmany hoks
        induction ds with
        | nil => simp
        | cons d r ih =>
          have h1 := hlen d (List.mem_cons_self ..)
          have h2 := ih fun x hx => hlen x (List.mem_cons_of_mem _ hx)
          rw [List.map_cons, List.map_cons, List.sum_cons, List.length_cons, Nat.succ_mul]
          omega
      have hall : (Dat.tup ds).txt.length ≤ Bnd (j + 1) := by
        have e := joinL_len (ds.map Dat.txt)
        have e2 : (Dat.tup ds).txt.length = (TL.joinL [32] (ds.map Dat.txt)).length + 2 := by rw [txt_tup]; simp
        rw [List.length_map] at e
        have h1 : ds.length * Bnd j + ds.length ≤ (if j + 1 = 4 then 14 else 3) * (Bnd j + 1) := by
          rw [show ds.length * Bnd j + ds.length = ds.length * (Bnd j + 1) by rw [Nat.mul_add, Nat.mul_one]]
          exact Nat.mul_le_mul_right _ hmany
        have h2 := hb.1
        generalize (if j + 1 = 4 then 14 else 3) * (Bnd j + 1) = big at h1 h2
        split at e
        · omega
        · omega
      have hmax := (bnd_all (j + 1)).2
      refine ⟨_, D2, ds.map fun d => SX.S d.txt, rfl, rfl, .inl (SqL.of (by rw [List.map_map]; exact eD2)), ?_, ?_⟩
      · have e : ((ds.map fun d => SX.S d.txt).map (·.length)) = (ds.map Dat.txt).map (·.length) := by
          rw [List.map_map, List.map_map]
          exact List.map_congr_left fun d _ => SX.S_len d.txt
        rw [e, List.length_map, show ((" " : Str)).length = 1 by decide +kernel]
        omega
      have et := txt_tup ds
      have el : (TL.joinL [32] (ds.map Dat.txt)).length + 2 = (Dat.tup ds).txt.length := by
        rw [et]
        simp
      have e1 : ("(" : Str) = SX.S [40] := by decide +kernel
      have e2 : (")" : Str) = SX.S [41] := by decide +kernel
      rw [join_dat]
      refine ⟨_, _, rfl, rfl, ?_, _, _, rfl, rfl, ?_, ?_, fun p hpn => ?_⟩
      · rw [e1, SX.S_len, SX.S_len]
        exact Nat.le_trans (show _ ≤ 10000000 by simp; omega) (by decide)
      · rw [e1, e2, SX.S_cat, SX.S_len, SX.S_len]
        exact Nat.le_trans (show _ ≤ 10000000 by simp; omega) (by decide)
      · show 2 ≤ sizeLine
        decide
      · have s7 : Same H3 H5 := s5.trans s6
        have s8 : Same H3 (upd H5 p (.tup [.ref T, .str (SX.S [40] ++ SX.S (TL.joinL [32] (ds.map Dat.txt)) ++ SX.S [41])])) := s7.trans (Same.upd_new hpn)
        rw [e1, e2]
        refine q (.tup ds) z3 p _ hz3 (s8 _ _ hb3) ((k2.trans k3).trans (Kept.of s8)) ⟨.ref T, ?_, ?_, hall, (ok_tup hoks).mono (by omega)⟩
        · rw [upd_same, SX.S_cat, SX.S_cat, et]
          rfl
        · rw [show 60 + (j + 1) = (60 + j) + 1 by omega]
          refine DVL.tup (xs := xs) ?_ (Paired.mono (fun _ _ h => DVL.tups s8 h) hxs)
          rw [upd_ne (ne_of_none (s6 _ _ upd_same) hpn)]
          exact s6 _ _ upd_same
    obtain ⟨tr, hrest, qrest⟩ := rest
    refine ⟨_, pss_cons (ps_set (i := 2) scNest.nd rfl (Or.inl rfl) (pe_c cT hr (by omega) (by rfl) (pa_cons (pv 0) (pa_cons pe_int pa_nil))))
      (pss_cons (ps_if (PW.pt (pw_or (pt_cmpR op_eq (pv 2) pe_int (nomark _)) (pw_or1 (pt_cmpR op_eq (pv 1) pe_int (nomark _))))) (pss_one (ps_ret (pe_c cI hr (by omega) (by rfl) (pa_cons (pv 0) pa_nil)))) pss_nil)
      (pss_cons (ps_if (pt_cmpR op_eq (pv 2) pe_int (nomark _)) (pss_cons (ps_set (i := 3) scNest.nd rfl (Or.inl rfl) (pe_c cW hr (by omega) (by rfl) (pa_cons (pv 0) pa_nil))) (pss_one (ps_ret (pe_tup (pa_cons (pv 3) (pa_cons (pv 3) pa_nil)))))) pss_nil)
      (pss_cons (ps_if (pt_cmpR op_eq (pv 2) pe_int (nomark _)) (pss_cons (ps_set (i := 4) scNest.nd rfl (Or.inl rfl) (pe_c cS hr (by omega) (by rfl) (pa_cons (pv 0) pa_nil))) (pss_one (ps_ret (pe_tup (pa_cons (pv 4) (pa_cons (pe_c cP hr (by omega) (by rfl) (pa_cons (pv 4) pa_nil)) pa_nil)))))) pss_nil)
      (pss_cons (ps_if (pt_cmpR op_eq (pv 2) pe_int (nomark _)) (pss_cons (ps_set (i := 4) scNest.nd rfl (Or.inl rfl) (pe_c cW hr (by omega) (by rfl) (pa_cons (pv 0) pa_nil)))
          (pss_cons (ps_set (i := 5) scNest.nd rfl (Or.inl rfl) (pv 4))
          (pss_cons (ps_for PassesOwn.never rfl (pi_range1 (by rfl) mR (pa_cons (pe_c cT hr (by omega) (by rfl) (pa_cons (pv 0) (pa_cons pe_int pa_nil))) pa_nil)) (pg_name (i := 6) scNest.nd rfl (Or.inl rfl))
            (pss_one (ps_par (i := 4) (j := 5) (by rfl) scNest.nd rfl rfl (by decide) rfl rfl (pa_cons (pe_tup (pa_cons (pv 4) pa_nil)) (pa_cons (pe_op op_add_str (pe_op op_add_str pe_str (pv 5)) pe_str) pa_nil)) (by rfl))))
          (pss_one (ps_ret (pe_tup (pa_cons (pv 4) (pa_cons (pv 5) pa_nil)))))))) pss_nil)
      hrest)))), ?_⟩
    have h7 := mod_lt' (z := z) (m := 7) (by decide)
    have z7 := div_nn hz (show (0 : Int) < 7 by decide)
    refine ⟨_, rfl, b, z, 7, rfl, hb, by decide, by decide, ?_⟩
    generalize hz1 : z / 7 = z1 at z7
    generalize hH1 : upd H b (.lst [.int z1]) = H1
    have hb1 : Bx H1 b z1 := by rw [← hH1]; exact upd_same
    have k1 : Kept b H H1 := by rw [← hH1]; exact Kept.upd
    generalize hf : z % 7 = fm at h7
    clear hz1 hH1 hf
    -- a whole number
    have int : ∀ y3 y4 y5 y6 y7 y8 y9, tRet (tCall spInt [] E0 (tCons (tVar 0) tNil)) { nx := fun _ H' => Q .non H', rt := Q } [some (.ref b), some (.int (k : Int)), some (.int fm), y3, y4, y5, y6, y7, y8, y9] H1 := by
      intro y3 y4 y5 y6 y7 y8 y9
      refine ⟨_, rfl, b, z1, rfl, hb1, z7, fun n z2 p H2 l2 hz2 hb2 k2 e2 => ?_⟩
      exact q (.int n) z2 p H2 hz2 hb2 (k1.trans k2) ⟨.int n, e2, DVL.leaf (.inr ⟨n, rfl, rfl⟩) _, Nat.le_trans l2 hB.1, ok_num' n _ l2⟩
    refine ⟨_, rfl, rfl, _, rfl, ?_⟩
    refine ite2 (fun e => int _ _ _ _ _ _ _) (fun e0 => ?_)
    refine ⟨_, rfl, rfl, _, rfl, ?_⟩
    refine ite2 (fun e => int _ _ _ _ _ _ _) (fun ek => ?_)
    have kpos : 0 < k := by
      rcases Nat.eq_zero_or_pos k with h0 | h0
      · subst h0
        exact absurd (by decide) ek
      · exact h0
    -- a word
    refine ⟨_, rfl, rfl, _, rfl, ?_⟩
    refine ite2 (fun e => ?_) (fun e1 => ?_)
    · refine ⟨_, rfl, b, z1, rfl, hb1, z7, fun l z2 H2 hl hz2 hb2 k2 => ?_⟩
      refine ⟨_, rfl, _, rfl, by show 2 ≤ sizeLine; decide, fun p hp => ?_⟩
      exact q (.str l) z2 p _ hz2 (hb2.new hp) ((k1.trans k2).trans (Kept.new hp)) ⟨_, upd_same, DVL.leaf (.inl ⟨l, rfl, rfl⟩) _, Nat.le_trans (show l.length ≤ 4401 by have := hl.2.1; omega) hB.1, ok_str (by intro e; have := hl.1; rw [e] at this; exact absurd this (by decide)) hl.2.2 _⟩
    -- a sample
    refine ⟨_, rfl, rfl, _, rfl, ?_⟩
    refine ite2 (fun e => ?_) (fun e2 => ?_)
    · refine ⟨_, rfl, b, z1, rfl, hb1, z7, fun l d v z2 H2 l1 l8 ll hd hz2 hb2 k2 hv => ?_⟩
      have dl := samp_len l8 hd
      refine ⟨_, rfl, _, rfl, v, d, rfl, hv, by omega, fun H3 s3 => ?_⟩
      refine ⟨by show 2 ≤ sizeLine; decide, fun p hp => ?_⟩
      have hb3 : Bx H3 b z2 := s3 _ _ hb2
      exact q d z2 p _ hz2 (hb3.new hp) (((k1.trans k2).trans (Kept.of s3)).trans (Kept.new hp)) ⟨_, upd_same, DVL.mono (DVL.keep (KT.Same.tups (s3.trans (Same.upd_new hp))) (fun _ _ h => h.leaf) hv) (by omega), Nat.le_trans (show d.txt.length ≤ 4401 by omega) hB.1, (samp_ok l1 ll hd).mono (by omega)⟩
    -- a word in many tuples
    refine ⟨_, rfl, rfl, _, rfl, ?_⟩
    refine ite2 (fun e => ?_) (fun e3 => ?_)
    · refine ⟨_, rfl, b, z1, rfl, hb1, z7, fun l z2 H2 hl hz2 hb2 k2 => ?_⟩
      have m60 := mod_lt' (z := z2) (m := 60) (by decide)
      obtain ⟨j, ej⟩ := toNat_of m60.1
      refine ⟨_, rfl, _, rfl, b, z2, 60, rfl, hb2, by decide, by decide, (j : Int), by rw [ej], by omega, by omega, ?_⟩
      refine for_range (n := ((j : Int)).toNat) (fun i σ H3 => ∃ v d y6, σ = [some (.ref b), some (.int (k : Int)), some (.int fm), none, some v, some (.str (SX.S d.txt)), y6, none, none, none] ∧ DV H3 i v d ∧ (d.txt.length ≤ 68 + 2 * i ∧ Okd i d) ∧ Bx H3 b (z2 / 60) ∧ Kept b H H3)
        ⟨.str (SX.S l), .str l, none, rfl, .inl ⟨l, rfl, rfl⟩, ⟨hl.2.1, ok_str (by intro e; have := hl.1; rw [e] at this; exact absurd this (by decide)) hl.2.2 _⟩, upd_same, (k1.trans k2).trans Kept.upd⟩ (fun i σ H3 hi hP => ?_) (fun σ H3 hP => ?_)
      · obtain ⟨v, d, y6, rfl, hv, ⟨hd, hok⟩, hb3, k3⟩ := hP
        refine ⟨_, rfl, by show 1 ≤ sizeLine; decide, fun p hp => ?_⟩
        have e1 : ("(" : Str) = SX.S [40] := by decide +kernel
        have e2 : (")" : Str) = SX.S [41] := by decide +kernel
        refine ⟨_, rfl, _, _, rfl, rfl, ?_, _, _, rfl, rfl, ?_, _, _, rfl, ?_⟩
        · rw [e1, SX.S_len, SX.S_len]
          exact Nat.le_trans (show _ ≤ 1000 by simp; omega) (by decide)
        · rw [e1, e2, SX.S_cat, SX.S_len, SX.S_len]
          exact Nat.le_trans (show _ ≤ 1000 by simp; omega) (by decide)
        · have et : (Dat.tup [d]).txt = 40 :: (d.txt ++ [41]) := by rw [txt_tup]; rfl
          refine ⟨.ref p, .tup [d], some (.int ((0 : Int) + (i : Int))), ?_, DVL.tup upd_same (.cons (DVL.keep (KT.Same.tups (Same.upd_new hp)) (fun _ _ h => h) hv) .nil), ?_, hb3.new hp, k3.trans (Kept.new hp)⟩
          · rw [e1, e2, SX.S_cat, SX.S_cat, et]
            rfl
          · refine ⟨?_, ok_tup fun x hx => by rw [List.mem_singleton.mp hx]; exact hok⟩
            rw [et]
            simp
            omega
      · obtain ⟨v, d, y6, rfl, hv, ⟨hd, hok⟩, hb3, k3⟩ := hP
        refine ⟨_, rfl, _, rfl, by show 2 ≤ sizeLine; decide, fun p hp => ?_⟩
        exact q d (z2 / 60) p _ (div_nn hz2 (by decide)) (hb3.new hp) (k3.trans (Kept.new hp)) ⟨_, upd_same, DVL.mono (DVL.keep (KT.Same.tups (Same.upd_new hp)) (fun _ _ h => h) hv) (by omega), Nat.le_trans (show d.txt.length ≤ 4401 by omega) hB.1, hok.mono (by omega)⟩
    exact qrest kpos _ _ _ _ _ z1 H1 z7 hb1 k1
  intro k
  induction k with
  | zero => exact fun _ => body 0 (by decide) fun j e => by cases e
  | succ k ih =>
    refine fun h => body (k + 1) h fun j e => ?_
    have : k = j := by omega
    subst this
    exact (ih (by omega)).mono (by omega)
end
end KT

namespace KT
open PySem PySem.Spec PyProof.Rows L2
open C8 (Cal pe_c)
abbrev sLaw : Stmt := top 16
abbrev sWrite : Stmt := top 3
theorem scLaw : FnScope ["script", "turn", "value", "text", "told"] ["script"] (defScope sLaw) := ⟨rfl, rfl, rfl, by decide +kernel, rfl, by decide +kernel, by decide +kernel⟩
def spLaw (K : PySem.W.Frag) : Sp := fun vs H Q _ => ∃ (a : Addr) (ns : List Int), vs = [.ref a] ∧ SqL K H a (ns.map V.int) ∧ ∀ H', Q (.bl true) H'
theorem Kept.same {b : Addr} {H H' : Hp} {o : HO} (h : H b = none) (k : Kept b (L2.upd H b o) H') : Same H H' := fun a u e => k a u (ne_of_none e h) (by rw [upd_ne (ne_of_none e h)]; exact e)
end KT

namespace KT
open PySem PySem.Spec PyProof.Rows L2
/-- the last k figures of a number, with zeros ahead -/
def figk : Nat → Nat → List Nat
  | 0, _ => []
  | k + 1, n => figk k (n / 10) ++ [48 + n % 10]
theorem figk_len : ∀ k n, (figk k n).length = k
  | 0, _ => rfl
  | k + 1, n => by simp [figk, figk_len k]
theorem numL_blk : ∀ (k : Nat) {q low : Nat}, 0 < q → low < 10 ^ k → TL.numL (q * 10 ^ k + low) = TL.numL q ++ figk k low
  | 0, q, low, hq, hl => by
    have : low = 0 := by simpa using hl
    subst this
    simp [figk]
  | k + 1, q, low, hq, hl => by
    have hp : 0 < 10 ^ k := Nat.pow_pos (by decide)
    have e0 : q * 10 ^ (k + 1) = 10 * (q * 10 ^ k) := by rw [Nat.pow_succ]; simp [Nat.mul_comm, Nat.mul_left_comm]
    have h10 : 10 ≤ q * 10 ^ (k + 1) + low := by
      rw [e0]
      have : 1 ≤ q * 10 ^ k := Nat.mul_pos hq hp
      omega
    have hl2 : low / 10 < 10 ^ k := by
      rw [Nat.pow_succ] at hl
      omega
    have e1 : (q * 10 ^ (k + 1) + low) / 10 = q * 10 ^ k + low / 10 := by rw [e0]; omega
    have e2 : (q * 10 ^ (k + 1) + low) % 10 = low % 10 := by rw [e0]; omega
    rw [TL.numL_step h10, e1, e2, numL_blk k hq hl2, List.append_assoc]
    rfl
theorem figk_zero : ∀ k, figk k 0 = List.replicate k 48
  | 0 => rfl
  | k + 1 => by
    show figk k (0 / 10) ++ [48 + 0 % 10] = _
    rw [show 0 / 10 = 0 by decide, figk_zero k, List.replicate_succ']
theorem figk_pad : ∀ (k : Nat) {n : Nat}, n < 10 ^ (k + 1) → figk (k + 1) n = List.replicate (k + 1 - (TL.numL n).length) 48 ++ TL.numL n
  | k, n, h => by
    by_cases h9 : n < 10
    · rw [TL.numL_lt h9]
      show figk k (n / 10) ++ [48 + n % 10] = _
      rw [show n / 10 = 0 by omega, show n % 10 = n by omega, figk_zero]
      simp
    · cases k with
      | zero => simp at h; omega
      | succ k =>
        have hl2 : n / 10 < 10 ^ (k + 1) := by
          rw [Nat.pow_succ] at h
          omega
        rw [TL.numL_step (by omega)]
        show figk (k + 1) (n / 10) ++ [48 + n % 10] = _
        rw [figk_pad k hl2, ← List.append_assoc]
        simp
theorem padded_S (l : List Nat) (k c : Nat) : Builtin.Str.padded (SX.S l) k 0 c = SX.S (List.replicate k c ++ l) := by
  refine TL.ext_tl ?_
  show (Array.replicate k c ++ (SX.S l).cps ++ Array.replicate 0 c).toList = _
  simp [SX.S, TL.tl]
theorem zfill_S {l : List Nat} {k : Nat} (h : NumText.AllDigits l) : Txt.zfill (SX.S l) (k : Int) = SX.S (List.replicate (k - l.length) 48 ++ l) := by
  unfold Txt.zfill
  rw [SX.S_len]
  by_cases hk : (k : Int) ≤ (l.length : Int)
  · rw [if_pos hk, show k - l.length = 0 by omega]
    rfl
  · rw [if_neg hk, Int.toNat_natCast]
    have e : zfilled (SX.S l) (k - l.length) = Builtin.Str.padded (SX.S l) (k - l.length) 0 48 := by
      unfold zfilled
      have h0 : (SX.S l).cps[0]? = l[0]? := by simp [SX.S]
      rw [h0]
      cases l with
      | nil => rfl
      | cons c r =>
        have hc := h c (List.mem_cons_self ..)
        show (match some c with | some 43 | some 45 => _ | _ => _) = _
        split
        · rename_i e; have := Option.some.inj e; omega
        · rename_i e; have := Option.some.inj e; omega
        · rfl
    rw [e, padded_S]
theorem zfill_num {n : Nat} (h : n < 10 ^ 18) : Txt.zfill (SX.S (TL.numL n)) 18 = SX.S (figk 18 n) := by
  have e := zfill_S (l := TL.numL n) (k := 18) (TL.numL_digits n)
  rw [figk_pad 17 h]
  exact e
end KT

namespace KT
open PySem PySem.Spec PyProof.Rows L2
open C8 (Cal pe_c)
abbrev sSpaced : Stmt := top 4
abbrev sIT : Stmt := top 5
theorem scIT : FnScope ["number", "rows", "rest", "low"] ["number"] (defScope sIT) := ⟨rfl, rfl, rfl, by decide +kernel, rfl, by decide +kernel, by decide +kernel⟩
def spIT : Sp := fun vs H Q _ => ∃ n : Int, vs = [.int n] ∧ (intL n).length ≤ 10000000 ∧ ∀ H', Same H H' → Q (.str (SX.S (intL n))) H'
theorem join_S' (cs : List (List Nat)) : Txt.join "" (cs.map SX.S) = SX.S cs.flatten := by
  have e := SX.join_S [] cs
  rw [show (("" : Str)) = SX.S [] by decide +kernel]
  refine e.trans (congrArg SX.S (joinL_nil cs))
theorem lens_S (cs : List (List Nat)) : ((cs.map SX.S).map (·.length)).sum = cs.flatten.length := by
  rw [List.map_map, List.length_flatten]
  exact congrArg List.sum (List.map_congr_left fun c _ => SX.S_len c)
theorem ten18 : (1000000000000000000 : Nat) = 10 ^ 18 := by decide
theorem log18 {n : Nat} (h : n < 10 ^ 18) : n.log2 < 1920 := by
  by_cases h0 : n = 0
  · subst h0; decide
  · exact Nat.lt_trans ((Nat.log2_lt h0).mpr (Nat.lt_trans h (show 10 ^ 18 < 2 ^ 60 by decide))) (by decide)
section
variable {P : Program} {w : World} {K : PySem.W.Frag} {mg : Str → Option Value} {base : Heap} {f : Addr} {fd : FuncData}
theorem ok_it {t1 t2 : Tok} (F : Fun K "integer_text" "integer_text" sIT f fd) (mA : mg "abs" = none) (mD : mg "divmod" = none) (mS : mg "str" = none) (gR : mg "ROW" = some (.int 18 t1)) (gL : mg "ROW_LIMIT" = some (.int 1000000000000000000 t2)) : FnOk P w K mg base CX0 1 f fd ["number"] spIT := by
  refine F.ok scIT (fun vs H Q E h => ?_) (fun cdv A outer s H vs Q E hr h => ?_)
  · obtain ⟨n, rfl, _⟩ := h
    rfl
  obtain ⟨n, rfl, hl, q⟩ := h
  refine ⟨_, C8.pss_cut (ps_set (i := 1) scIT.nd rfl (Or.inl rfl) (pe_lst pa_nil))
    (pss_cons (ps_set (i := 2) scIT.nd rfl (Or.inl rfl) (pe_callB call_abs (by rfl) mA boot_abs (pa_cons (pv 0) pa_nil)))
    (pss_cons (ps_while PassesOwn.never (pt_cmpR op_ge (pv 2) (pe_glob (v := .int 1000000000000000000) (by rfl) gL ⟨_, rfl⟩) (nomark _))
      (pss_cons (ps_asg (pe_callB call_divmodW (by rfl) mD boot_divmod (pa_cons (pv 2) (pa_cons (pe_glob (v := .int 1000000000000000000) (by rfl) gL ⟨_, rfl⟩) pa_nil))) (pg_tup rfl (pgs_cons (pg_name (i := 2) scIT.nd rfl (Or.inl rfl)) (pgs_cons (pg_name (i := 3) scIT.nd rfl (Or.inl rfl)) pgs_nil))))
      (pss_one (ps_expr (pe_bm PySem.F.plainAttrs_list PySem.F.slot_list_append PySem.F.type_list_append mt_append (pv 1) (pa_cons (pe_bm PySem.F.plainAttrs_str PySem.F.slot_str_zfill PySem.F.type_str_zfill mt_zfill (pe_callTy call_str_int (by rfl) mS boot_str (pa_cons (pv 3) pa_nil)) (pa_cons (pe_glob (v := .int 18) (by rfl) gR ⟨_, rfl⟩) pa_nil)) pa_nil))))))
    (pss_cons (ps_expr (pe_bm PySem.F.plainAttrs_list PySem.F.slot_list_append PySem.F.type_list_append mt_append (pv 1) (pa_cons (pe_callTy call_str_int (by rfl) mS boot_str (pa_cons (pv 2) pa_nil)) pa_nil)))
    (pss_cons (ps_if (pt_cmpR op_lt (pv 0) pe_int (nomark _)) (pss_one (ps_expr (pe_bm PySem.F.plainAttrs_list PySem.F.slot_list_append PySem.F.type_list_append mt_append (pv 1) (pa_cons pe_str pa_nil)))) pss_nil)
    (pss_cons (ps_expr (pe_bm0 PySem.F.plainAttrs_list PySem.F.slot_list_reverse PySem.F.type_list_reverse mt_reverse (pv 1)))
    (pss_one (ps_ret (pe_join pe_str (pv 1))))))))), ?_⟩
  refine ⟨fun σ H1 => ∃ R, σ = [some (.int n), some (.ref R), none, none] ∧ H R = none ∧ H1 = upd H R (.lst []), ?_, ?_⟩
  · refine ⟨by show 0 ≤ sizeLine; decide, fun R hR => ⟨R, rfl, hR, rfl⟩⟩
  rintro σ H1 ⟨R, rfl, hR, rfl⟩
  refine ⟨_, rfl, n, rfl, ?_⟩
  have eabs : (if n < 0 then -n else n) = ((n.natAbs : Nat) : Int) := by split <;> omega
  rw [eabs]
  -- the loop: the number is what is left, and the rows behind it
  refine while_by (fun σ H2 => ∃ (r : Nat) (cs : List (List Nat)) (y : Option V), σ = [some (.int n), some (.ref R), some (.int (r : Int)), y] ∧ Same H H2 ∧ H2 R = some (.lst ((cs.map SX.S).map V.str)) ∧
      TL.numL n.natAbs = TL.numL r ++ cs.reverse.flatten ∧ cs.length ≤ cs.flatten.length)
    (fun σ _ => match σ with | [_, _, some (.int r), _] => r.natAbs | _ => 0) ⟨n.natAbs, [], none, rfl, Same.upd_new hR, upd_same, by simp, Nat.le_refl _⟩ (fun σ H2 hP => ?_) ?_
  · obtain ⟨r, cs, y, rfl, s2, e2, hn, hcl⟩ := hP
    have hnl : (TL.numL n.natAbs).length ≤ 10000000 := by
      have : (TL.numL n.natAbs).length ≤ (intL n).length := by
        unfold intL
        split <;> simp
      omega
    have hfl : cs.flatten.length ≤ 10000000 := by
      have e := congrArg List.length hn
      rw [List.length_append] at e
      have : cs.reverse.flatten.length = cs.flatten.length := by
        rw [List.length_flatten, List.length_flatten, List.map_reverse, List.sum_reverse]
      omega
    have hsz : cs.length < sizeLine := Nat.lt_of_le_of_lt (Nat.le_trans hcl hfl) (by decide)
    refine ⟨_, rfl, _, _, rfl, rfl, _, rfl, ?_⟩
    refine ite2 (fun hge => ?_) (fun hge => ?_)
    · have hge := of_decide_eq_true hge
      refine ⟨_, rfl, _, _, rfl, ⟨by decide, PyProof.noPylong_of_log2 (by decide +kernel)⟩, fun p hp => ?_⟩
      have npR : R ≠ p := ne_of_none e2 hp
      refine ⟨p, _, rfl, .inl (.inl upd_same), rfl, _, _, rfl, _, _, rfl, rfl, ?_⟩
      have eq1 : (r : Int) / 1000000000000000000 = ((r / 10 ^ 18 : Nat) : Int) := by omega
      have eq2 : (r : Int) % 1000000000000000000 = ((r % 10 ^ 18 : Nat) : Int) := by omega
      have hlow : r % 10 ^ 18 < 10 ^ 18 := Nat.mod_lt _ (by decide)
      rw [eq1, eq2]
      have eR : (upd H2 p (.tup [.int ((r / 10 ^ 18 : Nat) : Int), .int ((r % 10 ^ 18 : Nat) : Int)])) R = some (.lst ((cs.map SX.S).map V.str)) := by rw [upd_ne npR]; exact e2
      refine ⟨_, rfl, .inl ⟨rfl, _, SqL.of eR⟩, _, rfl, _, rfl, log18 hlow, rfl, _, _, rfl, rfl, rfl, ?_⟩
      have ez : Txt.zfill (Str.ofString (toString ((r % 10 ^ 18 : Nat) : Int))) 18 = SX.S (figk 18 (r % 10 ^ 18)) := by rw [SX.num_S]; exact zfill_num hlow
      rw [ez]
      have hq : 0 < r / 10 ^ 18 := by omega
      have er : r / 10 ^ 18 * 10 ^ 18 + r % 10 ^ 18 = r := by omega
      have eb := numL_blk 18 hq hlow
      rw [er] at eb
      refine ⟨_, _, _, rfl, rfl, eR, ?_, ⟨r / 10 ^ 18, cs ++ [figk 18 (r % 10 ^ 18)], _, rfl, ?_, ?_, ?_, ?_⟩, ?_⟩
      · rw [List.length_map, List.length_map]
        exact hsz
      · intro b o e
        have n1 : b ≠ p := ne_of_none (s2 _ _ e) hp
        have n2 : b ≠ R := ne_of_none e hR
        rw [upd_ne n2, upd_ne n1]
        exact s2 _ _ e
      · rw [upd_same, List.map_append, List.map_append]
        rfl
      · rw [hn, eb, List.reverse_append, List.append_assoc]
        simp
      · rw [List.flatten_append, List.length_append, List.length_append, List.length_singleton]
        have : ([figk 18 (r % 10 ^ 18)] : List (List Nat)).flatten.length = 18 := by simp [figk_len]
        omega
      · show ((r / 10 ^ 18 : Nat) : Int).natAbs < ((r : Nat) : Int).natAbs
        rw [Int.natAbs_natCast, Int.natAbs_natCast]
        exact Nat.div_lt_self (by omega) (by decide)
    · have hlt : r < 10 ^ 18 := by
        have : ¬ (1000000000000000000 : Int) ≤ (r : Int) := fun h => hge (decide_eq_true h)
        omega
      refine ⟨_, rfl, .inl ⟨rfl, _, SqL.of e2⟩, _, rfl, _, rfl, log18 (by rw [Int.natAbs_natCast]; exact hlt), _, _, _, rfl, rfl, e2, ?_, ?_⟩
      · rw [List.length_map, List.length_map]
        exact hsz
      have e3 : (cs.map SX.S).map V.str ++ [V.str (Str.ofString (toString ((r : Nat) : Int)))] = ((cs ++ [TL.numL r]).map SX.S).map V.str := by
        rw [SX.num_S, List.map_append, List.map_append]
        rfl
      rw [e3]
      -- the end, over all rows
      have fin : ∀ (H3 : Hp) (xs : List (List Nat)), Same H H3 → H3 R = some (.lst ((xs.map SX.S).map V.str)) → xs.reverse.flatten = intL n → 
          (tSeq (tDrop (tBM0 K "list" rReverse (tVar 1))) (tRet (tM1 (fun x xs H Q => ∃ a p, ∃ ys : List Str, x = .str a ∧ xs = [.ref p] ∧ (SqL K H p (ys.map V.str) ∨ SqT K H p (ys.map V.str)) ∧ (ys.map (·.length)).sum + ys.length * a.length ≤ 16777216 ∧ Q (.str (Txt.join a ys)) H) (tC (.str "")) (tVar 1))))
          { nx := fun _ H' => Q .non H', rt := Q } [some (.int n), some (.ref R), some (.int (r : Int)), y] H3 := by
        intro H3 xs s3 e4 ex
        refine ⟨_, rfl, .inl ⟨rfl, _, SqL.of e4⟩, _, _, rfl, rfl, e4, ?_⟩
        refine ⟨⟨_, rfl⟩, _, rfl, _, _, xs.reverse.map SX.S, rfl, rfl, .inl (SqL.of (by rw [upd_same, List.map_reverse, List.map_reverse])), ?_, ?_⟩
        · rw [lens_S, ex, show (("" : Str)).length = 0 by decide +kernel]
          omega
        · rw [join_S', ex]
          refine q _ fun b o e => ?_
          rw [upd_ne (ne_of_none e hR)]
          exact s3 _ _ e
      have s4 : ∀ (H3 : Hp) (o : HO), Same H H3 → Same H (upd H3 R o) := fun H3 o s b u e => by
        rw [upd_ne (ne_of_none e hR)]
        exact s _ _ e
      have ef : (cs ++ [TL.numL r]).reverse.flatten = TL.numL n.natAbs := by
        rw [List.reverse_append, hn]
        simp
      refine ⟨_, rfl, _, _, rfl, rfl, _, rfl, ?_⟩
      refine ite2 (fun hneg => ?_) (fun hneg => ?_)
      · have hneg := of_decide_eq_true hneg
        refine ⟨_, rfl, .inl ⟨rfl, _, SqL.of upd_same⟩, _, _, _, rfl, rfl, upd_same, ?_, ?_⟩
        · rw [List.length_map, List.length_map, List.length_append, List.length_singleton]
          exact Nat.lt_of_le_of_lt (show _ ≤ 10000001 by omega) (by decide)
        · refine fin _ (cs ++ [TL.numL r] ++ [[45]]) (s4 _ _ (s4 _ _ s2)) ?_ ?_
          · rw [upd_same, show (("-" : Str)) = SX.S [45] by decide +kernel, List.map_append (l₂ := [[45]]), List.map_append (l₂ := [[45]].map SX.S)]
            rfl
          · rw [List.reverse_append]
            show [45] ++ (cs ++ [TL.numL r]).reverse.flatten = _
            rw [ef]
            unfold intL
            rw [if_pos hneg]
            rfl
      · refine fin _ (cs ++ [TL.numL r]) (s4 _ _ s2) upd_same ?_
        rw [ef]
        unfold intL
        rw [if_neg (fun h => hneg (decide_eq_true h))]
  · rintro σ H Q Q' hQ ⟨x, h0, y1, y2, h1, h2, k, h3, h4⟩
    exact ⟨x, h0, y1, y2, h1, h2, k, h3, hQ _ _ h4⟩
end
end KT

namespace KT
open PySem PySem.Spec PyProof.Rows L2
open C8 (Cal pe_c)
theorem scSpaced : FnScope ["parts", "found", "at"] ["parts"] (defScope sSpaced) := ⟨rfl, rfl, rfl, by decide +kernel, rfl, by decide +kernel, by decide +kernel⟩
/-- what stands among the parts put between them -/
def betw {α : Type} (b : α) : List α → List α
  | [] => []
  | [x] => [x]
  | x :: y :: r => x :: b :: betw b (y :: r)
theorem betw_cons {α : Type} {b x : α} {r : List α} (h : r ≠ []) : betw b (x :: r) = x :: b :: betw b r := by
  cases r with
  | nil => exact absurd rfl h
  | cons y r => rfl
theorem betw_len {α : Type} (b : α) : ∀ l : List α, (betw b l).length ≤ 2 * l.length
  | [] => Nat.le_refl _
  | [x] => by simp [betw]
  | x :: y :: r => by
    have := betw_len b (y :: r)
    simp [betw] at this ⊢
    omega
def bl : V := .str " "
def spSpaced (K : PySem.W.Frag) : Sp := fun vs H Q _ => ∃ (p : Addr) (xs : List V), vs = [.ref p] ∧ H p = some (.tup xs) ∧ xs.length ≤ 4000000 ∧
  ∀ l H', Same H H' → H l = none → H' l = some (.lst (betw bl xs.reverse)) → Q (.ref l) H'
section
variable {P : Program} {w : World} {K : PySem.W.Frag} {mg : Str → Option Value} {base : Heap} {f : Addr} {fd : FuncData}
theorem ok_spaced (F : Fun K "spaced_parts" "spaced_parts" sSpaced f fd) (mV : mg "reversed" = none) (mR : mg "range" = none) (mL : mg "len" = none) : FnOk P w K mg base CX0 1 f fd ["parts"] (spSpaced K) := by
  refine F.ok scSpaced (fun vs H Q E h => ?_) (fun cdv A outer s H vs Q E hr h => ?_)
  · obtain ⟨p, xs, rfl, _⟩ := h
    rfl
  obtain ⟨p, xs, rfl, hp, hl, q⟩ := h
  refine ⟨_, pss_cons (ps_set (i := 1) scSpaced.nd rfl (Or.inl rfl) (pe_lst pa_nil))
    (pss_cons (ps_for PassesOwn.never rfl (pi_revR (by rfl) mV (prg_1 (by rfl) mR (pe_callB call_len_seq (by rfl) mL PySem.boot_len (pa_cons (pv 0) pa_nil)))) (pg_name (i := 2) scSpaced.nd rfl (Or.inl rfl))
      (pss_cons (ps_expr (pe_bm PySem.F.plainAttrs_list PySem.F.slot_list_append PySem.F.type_list_append mt_append (pv 1) (pa_cons (pe_ix ix_tup (pv 0) (pv 2) (fun _ _ => rfl)) pa_nil)))
      (pss_one (ps_if (pt_cmpR op_gt (pv 2) pe_int (nomark _)) (pss_one (ps_expr (pe_bm PySem.F.plainAttrs_list PySem.F.slot_list_append PySem.F.type_list_append mt_append (pv 1) (pa_cons pe_str pa_nil)))) pss_nil))))
    (pss_one (ps_ret (pv 1)))), ?_⟩
  refine ⟨by show 0 ≤ sizeLine; decide, fun l hn => ?_⟩
  have npl : p ≠ l := ne_of_none hp hn
  refine ⟨_, rfl, p, _, rfl, .inr (.inl (.inl (by rw [upd_ne npl]; exact hp))), _, rfl, by decide, by decide, by omega, by omega, ?_⟩
  refine for_rangeC (fun i σ H1 => ∃ (fs : List V) (y : Option V), σ = [some (.ref p), some (.ref l), y] ∧ Same H H1 ∧ H1 l = some (.lst fs) ∧ fs ++ betw bl (xs.reverse.drop i) = betw bl xs.reverse)
    ⟨[], none, rfl, Same.upd_new hn, upd_same, rfl⟩ (fun i σ H1 hi hP => ?_) (fun σ H1 hP => ?_)
  · obtain ⟨fs, y, rfl, s1, e1, ef⟩ := hP
    have hi : i < xs.length := by omega
    have hri : i < xs.reverse.length := by rw [List.length_reverse]; exact hi
    have ev : ((0 : Int) + ((((xs.length : Nat) : Int) - 0).toNat : Nat) - 1 + (i : Nat) * (-1)) = ((xs.length - 1 - i : Nat) : Int) := by omega
    have ex : xs[xs.length - 1 - i]? = some xs.reverse[i] := by
      rw [List.getElem_reverse, List.getElem?_eq_getElem (by omega)]
    have hd : xs.reverse.drop i = xs.reverse[i] :: xs.reverse.drop (i + 1) := List.drop_eq_getElem_cons hri
    have fl : fs.length ≤ 8000000 := by
      have e := congrArg List.length ef
      rw [List.length_append] at e
      have := betw_len bl xs.reverse
      rw [List.length_reverse] at this
      omega
    have small : ∀ k, k ≤ 8000001 → k < sizeLine := fun k hk => Nat.lt_of_le_of_lt hk (by decide)
    refine ⟨_, rfl, .inl ⟨rfl, _, SqL.of e1⟩, _, rfl, _, rfl, p, _, _, xs.reverse[i], rfl, rfl, .inl (.inl (s1 _ _ hp)), ?_, _, _, _, rfl, rfl, e1, small _ (by omega), ?_⟩
    · rw [ev]
      exact atI_nat ex
    refine ⟨_, rfl, _, _, rfl, rfl, _, rfl, ?_⟩
    rw [hd] at ef
    have s2 : ∀ (H3 : Hp) (o : HO), Same H H3 → Same H (upd H3 l o) := fun H3 o s b u e => by
      rw [upd_ne (ne_of_none e hn)]
      exact s _ _ e
    refine ite2 (fun hc => ?_) (fun hc => ?_)
    · have hc := of_decide_eq_true hc
      refine ⟨_, rfl, .inl ⟨rfl, _, SqL.of upd_same⟩, _, _, _, rfl, rfl, upd_same, small _ (by rw [List.length_append, List.length_singleton]; omega), _, _, rfl, s2 _ _ (s2 _ _ s1), upd_same, ?_⟩
      have hne : xs.reverse.drop (i + 1) ≠ [] := fun e => by
        have e := congrArg List.length e
        rw [List.length_drop, List.length_reverse, List.length_nil] at e
        omega
      rw [betw_cons hne] at ef
      rw [← ef, List.append_assoc, List.append_assoc]
      rfl
    · have hc : ¬ (0 : Int) < _ := fun h => hc (decide_eq_true h)
      refine ⟨_, _, rfl, s2 _ _ s1, upd_same, ?_⟩
      have he : xs.reverse.drop (i + 1) = [] := by
        refine List.drop_eq_nil_of_le ?_
        rw [List.length_reverse]
        omega
      rw [he] at ef ⊢
      rw [← ef]
      show fs ++ [xs.reverse[i]] ++ [] = fs ++ [xs.reverse[i]]
      simp
  · obtain ⟨fs, y, rfl, s1, e1, ef⟩ := hP
    have he : xs.reverse.drop ((((xs.length : Nat) : Int) - 0).toNat) = [] := by
      refine List.drop_eq_nil_of_le ?_
      rw [List.length_reverse]
      omega
    rw [he] at ef
    refine ⟨_, rfl, q l H1 s1 hn ?_⟩
    rw [e1, ← ef]
    simp [betw]
end
end KT

namespace KT
open PySem PySem.Spec PyProof.Rows L2
open C8 (Cal pe_c)
theorem scWrite : FnScope ["value", "pieces", "waiting", "part"] ["value"] (defScope sWrite) := ⟨rfl, rfl, rfl, by decide +kernel, rfl, by decide +kernel, by decide +kernel⟩
mutual
def wgt : Dat → Nat
  | .str _ => 1
  | .int _ => 1
  | .tup ds => 2 + wgts ds
def wgts : List Dat → Nat
  | [] => 0
  | d :: r => wgt d + 1 + wgts r
end
mutual
theorem wgt_le : ∀ d : Dat, wgt d ≤ 2 * d.txt.length + 1
  | .str l => by simp [wgt]
  | .int n => by simp [wgt]
  | .tup ds => by
    have h := wgts_le ds
    have e := joinL_len (ds.map Dat.txt)
    rw [txt_tup]
    simp only [List.length_cons, List.length_append, List.length_map, List.length_nil] at e ⊢
    rw [wgt]
    split at e <;> omega
theorem wgts_le : ∀ ds : List Dat, wgts ds ≤ 2 * ((ds.map Dat.txt).map (·.length)).sum + 2 * ds.length
  | [] => by simp [wgts]
  | d :: r => by
    have h1 := wgt_le d
    have h2 := wgts_le r
    rw [wgts]
    simp only [List.map_cons, List.sum_cons, List.length_cons]
    omega
end
/-- what is left to do -/
def todo (rd : List Dat) : Nat := (rd.map wgt).sum
theorem todo_betw : ∀ ds : List Dat, todo (betw (.str [32]) ds) ≤ wgts ds
  | [] => Nat.le_refl _
  | [x] => by simp [betw, todo, wgts]
  | x :: y :: r => by
    have ih := todo_betw (y :: r)
    rw [betw, wgts]
    simp only [todo, List.map_cons, List.sum_cons] at ih ⊢
    simp only [wgt]
    omega
theorem betw_flat : ∀ ds : List Dat, ((betw (.str [32]) ds).map Dat.txt).flatten = TL.joinL [32] (ds.map Dat.txt)
  | [] => rfl
  | [x] => by simp [betw, TL.joinL]
  | x :: y :: r => by
    have ih := betw_flat (y :: r)
    rw [betw, List.map_cons, List.map_cons, List.flatten_cons, List.flatten_cons, ih]
    simp [Dat.txt, TL.joinL]
theorem betw_snoc {α : Type} (b : α) : ∀ (l : List α) (x : α), betw b (l ++ [x]) = if l = [] then [x] else betw b l ++ [b, x]
  | [], x => rfl
  | [y], x => rfl
  | y :: z :: r, x => by
    have ih := betw_snoc b (z :: r) x
    rw [if_neg (by simp)] at ih ⊢
    show y :: b :: betw b (z :: r ++ [x]) = y :: b :: betw b (z :: r) ++ [b, x]
    rw [ih]
    rfl
theorem betw_rev {α : Type} (b : α) : ∀ l : List α, (betw b l.reverse).reverse = betw b l
  | [] => rfl
  | [x] => rfl
  | x :: y :: r => by
    have ih := betw_rev b (y :: r)
    rw [List.reverse_cons, betw_snoc, if_neg (by simp), List.reverse_append, ih]
    rfl
theorem betw_paired {α β : Type} {F : α → β → Prop} {b : α} {c : β} (h : F b c) : ∀ {l : List α} {m : List β}, Paired F l m → Paired F (betw b l) (betw c m)
  | _, _, .nil => .nil
  | _, _, .cons x .nil => .cons x .nil
  | _, _, .cons x (.cons y r) => .cons x (.cons h (betw_paired h (.cons y r)))
theorem paired_app {α β : Type} {F : α → β → Prop} : ∀ {l l' : List α} {m m' : List β}, Paired F l m → Paired F l' m' → Paired F (l ++ l') (m ++ m')
  | _, _, _, _, .nil, h => h
  | _, _, _, _, .cons x r, h => .cons x (paired_app r h)
theorem dv_or {H : Hp} : ∀ {n : Nat} {v : V} {d : Dat}, DV H n v d → Leaf v d ∨ ∃ p xs ds, v = .ref p ∧ H p = some (.tup xs) ∧ d = .tup ds ∧ Paired (DV H n) xs ds
  | 0, _, _, h => .inl h
  | n + 1, v, d, h => by
    rcases h.cases with h | ⟨p, xs, ds, e1, e2, e3, r⟩
    · exact .inl h
    · exact .inr ⟨p, xs, ds, e1, e2, e3, Paired.mono (fun _ _ z => DVL.up z) r⟩
/-- a value's text, written by the program -/
def spWrite (n : Nat) : Sp := fun vs H Q _ => ∃ (v : V) (d : Dat), vs = [v] ∧ DV H n v d ∧ d.txt.length ≤ 4000000 ∧ ∀ H', Same H H' → Q (.str (SX.S d.txt)) H'
section
variable {P : Program} {w : World} {K : PySem.W.Frag} {mg : Str → Option Value} {base : Heap} {f : Addr} {fd : FuncData}
theorem ok_write {n : Nat} (F : Fun K "write" "write" sWrite f fd) (mI : mg "isinstance" = none) (mS : mg "str" = none) (mN : mg "int" = none)
    (cS : Cal P w K mg base 1 "spaced_parts" (spSpaced K) []) (cI : Cal P w K mg base 1 "integer_text" spIT []) : FnOk P w K mg base CX0 2 f fd ["value"] (spWrite n) := by
  refine F.ok scWrite (fun vs H Q E h => ?_) (fun cdv A outer s H vs Q E hr h => ?_)
  · obtain ⟨v, d, rfl, _⟩ := h
    rfl
  obtain ⟨v, d, rfl, hv, hl, q⟩ := h
  refine ⟨_, pss_cons (ps_set (i := 1) scWrite.nd rfl (Or.inl rfl) (pe_lst pa_nil))
    (pss_cons (ps_set (i := 2) scWrite.nd rfl (Or.inl rfl) (pe_lst (pa_cons (pv 0) pa_nil)))
    (pss_cons (ps_while PassesOwn.never (pt_truth (pv 2) (fun _ => rfl))
      (pss_cons (ps_set (i := 3) scWrite.nd rfl (Or.inl rfl) (pe_bm0 PySem.F.plainAttrs_list PySem.F.slot_list_pop PySem.F.type_list_pop mt_pop (pv 2)))
      (pss_one (ps_if (pt_val (pe_callB call_isi (by rfl) mI boot_isinstance (pa_cons (pv 3) (pa_cons (pe_bltn (v := .ty "str") (by rfl) mS boot_str rfl) pa_nil))))
        (pss_one (ps_expr (pe_bm PySem.F.plainAttrs_list PySem.F.slot_list_append PySem.F.type_list_append mt_append (pv 1) (pa_cons (pv 3) pa_nil))))
        (pss_one (ps_if (pt_val (pe_callB call_isi (by rfl) mI boot_isinstance (pa_cons (pv 3) (pa_cons (pe_bltn (v := .ty "int") (by rfl) mN boot_int rfl) pa_nil))))
          (pss_one (ps_expr (pe_bm PySem.F.plainAttrs_list PySem.F.slot_list_append PySem.F.type_list_append mt_append (pv 1) (pa_cons (pe_c cI hr (by decide) (by rfl) (pa_cons (pv 3) pa_nil)) pa_nil))))
          (pss_cons (ps_expr (pe_bm PySem.F.plainAttrs_list PySem.F.slot_list_append PySem.F.type_list_append mt_append (pv 1) (pa_cons pe_str pa_nil)))
          (pss_cons (ps_expr (pe_bm PySem.F.plainAttrs_list PySem.F.slot_list_append PySem.F.type_list_append mt_append (pv 2) (pa_cons pe_str pa_nil)))
          (pss_one (ps_expr (pe_bm PySem.F.plainAttrs_list PySem.F.slot_list_extend PySem.F.type_list_extend mt_extend (pv 2) (pa_cons (pe_c cS hr (by decide) (by rfl) (pa_cons (pv 3) pa_nil)) pa_nil))))))))))))
    (pss_one (ps_ret (pe_join pe_str (pv 1)))))), ?_⟩
  refine ⟨by show 0 ≤ sizeLine; decide, fun B hB => ?_⟩
  refine ⟨_, rfl, by show 1 ≤ sizeLine; decide, fun W hW => ?_⟩
  have nBW : B ≠ W := ne_of_none upd_same hW
  have hWH : H W = none := by
    rw [← hW, upd_ne (fun e => nBW e.symm)]
  -- nothing else is touched
  have keep : ∀ (H3 : Hp) (a : Addr) (o : HO), (a = B ∨ a = W) → Same H H3 → Same H (upd H3 a o) := fun H3 a o ha s b u e => by
    have : b ≠ a := by
      rcases ha with rfl | rfl
      · exact ne_of_none e hB
      · exact ne_of_none e hWH
    rw [upd_ne this]
    exact s _ _ e
  refine ⟨fun m σ H1 => ∃ (ps : List (List Nat)) (rs : List V) (rd : List Dat) (y : Option V), σ = [some v, some (.ref B), some (.ref W), y] ∧ m = todo rd ∧ Same H H1 ∧ H1 B = some (.lst ((ps.map SX.S).map V.str)) ∧ H1 W = some (.lst rs.reverse) ∧
      Paired (DV H n) rs rd ∧ ps.flatten ++ (rd.map Dat.txt).flatten = d.txt ∧ ps.length + todo rd ≤ 8000001, ?_, ?_⟩
  · refine ⟨_, [], [v], [d], none, rfl, rfl, (Same.upd_new hB).trans (Same.upd_new hW), ?_, upd_same, .cons hv .nil, by simp, ?_⟩
    · rw [upd_ne nBW, upd_same]
      rfl
    · have := wgt_le d
      simp [todo]
      omega
  rintro m σ H1 ⟨ps, rs, rd, y, rfl, rfl, s1, e1, e2, pr, hflat, hb⟩
  refine ⟨_, rfl, !rs.reverse.isEmpty, .inl ⟨_, SqL.of e2, rfl⟩, ?_⟩
  have small : ∀ k, k ≤ 16000003 → k < sizeLine := fun k hk => Nat.lt_of_le_of_lt hk (by decide)
  have lps : ((ps.map SX.S).map V.str).length = ps.length := by rw [List.length_map, List.length_map]
  cases pr with
  | nil =>
    refine iteF ?_
    have e : ps.flatten = d.txt := by simpa using hflat
    refine ⟨⟨_, rfl⟩, _, rfl, _, B, ps.map SX.S, rfl, rfl, .inl (SqL.of e1), ?_, ?_⟩
    · rw [lens_S, e, show (("" : Str)).length = 0 by decide +kernel]
      omega
    · rw [join_S', e]
      exact q _ s1
  | @cons x e rs rd hx pr =>
    have ne : (rs.reverse ++ [x]).isEmpty = false := by cases rs.reverse <;> rfl
    rw [List.reverse_cons] at e2 ⊢
    rw [ne]
    refine iteT ?_
    refine ⟨fun σ' H' => ∃ m', m' < todo (e :: rd) ∧ _, fun σ' H' h => h, ?_⟩
    have htodo : todo (e :: rd) = wgt e + todo rd := by simp [todo]
    have hlast : (rs.reverse ++ [x])[(rs.reverse ++ [x]).length - 1]? = some x := by simp
    have hdl : (rs.reverse ++ [x]).dropLast = rs.reverse := by simp
    refine ⟨_, rfl, .inl ⟨rfl, _, SqL.of e2⟩, W, _, x, rfl, rfl, e2, hlast, ?_⟩
    rw [hdl]
    have s2 := keep H1 W (.lst rs.reverse) (.inr rfl) s1
    have e1' : (upd H1 W (.lst rs.reverse)) B = some (.lst ((ps.map SX.S).map V.str)) := by rw [upd_ne nBW]; exact e1
    have hflat' : ps.flatten ++ (e.txt ++ (rd.map Dat.txt).flatten) = d.txt := by simpa using hflat
    -- a leaf: its text is a piece more
    have leaf : ∀ (l : List Nat) (H3 : Hp), e.txt = l → wgt e = 1 → Same H H3 → H3 B = some (.lst ((ps.map SX.S).map V.str)) → H3 W = some (.lst rs.reverse) →
        rAppend (.ref B) [.str (SX.S l)] H3 fun _ H4 => ∃ m', m' < todo (e :: rd) ∧ ∃ (ps : List (List Nat)) (rs : List V) (rd : List Dat) (y : Option V), [some v, some (.ref B), some (.ref W), some x] = [some v, some (.ref B), some (.ref W), y] ∧ m' = todo rd ∧ Same H H4 ∧ H4 B = some (.lst ((ps.map SX.S).map V.str)) ∧ H4 W = some (.lst rs.reverse) ∧
      Paired (DV H n) rs rd ∧ ps.flatten ++ (rd.map Dat.txt).flatten = d.txt ∧ ps.length + todo rd ≤ 8000001 := by
      intro l H3 el ew s3 e3 e4
      refine ⟨B, _, _, rfl, rfl, e3, small _ (by omega), todo rd, by omega, ps ++ [l], rs, rd, _, rfl, rfl, keep _ _ _ (.inl rfl) s3, ?_, ?_, pr, ?_, ?_⟩
      · rw [upd_same, List.map_append, List.map_append]
        rfl
      · rw [upd_ne (fun e => nBW e.symm)]
        exact e4
      · rw [← hflat', el]
        simp
      · rw [List.length_append, List.length_singleton]
        omega
    rcases dv_or hx with (⟨l, rfl, rfl⟩ | ⟨i, rfl, rfl⟩) | ⟨p, xs, ds, rfl, hp, rfl, r⟩
    · refine ⟨_, rfl, _, _, _, _, true, rfl, .ty _, .base (.str _), kit_ty (by decide +kernel), _, rfl, ?_⟩
      refine iteT ?_
      refine ⟨_, rfl, .inl ⟨rfl, _, SqL.of e1'⟩, _, rfl, ?_⟩
      exact leaf l _ rfl rfl s2 e1' upd_same
    · refine ⟨_, rfl, _, _, _, _, false, rfl, .ty _, .base (.int _), kit_ty (by decide +kernel), _, rfl, ?_⟩
      refine iteF ?_
      refine ⟨_, rfl, _, _, _, _, true, rfl, .ty _, .base (.int _), kit_ty (by decide +kernel), _, rfl, ?_⟩
      refine iteT ?_
      refine ⟨_, rfl, .inl ⟨rfl, _, SqL.of e1'⟩, _, rfl, i, rfl, ?_, fun H3 s3 => ?_⟩
      · have e := congrArg List.length hflat'
        rw [List.length_append, List.length_append] at e
        have : (Dat.int i).txt.length = (intL i).length := rfl
        omega
      · exact leaf (intL i) H3 rfl rfl (s2.trans s3) (s3 _ _ e1') (s3 _ _ upd_same)
    · refine ⟨_, rfl, _, _, _, _, false, rfl, .ty _, .base (.tup (s2 _ _ hp)), kit_ty (by decide +kernel), _, rfl, ?_⟩
      refine iteF ?_
      refine ⟨_, rfl, _, _, _, _, false, rfl, .ty _, .base (.tup (s2 _ _ hp)), kit_ty (by decide +kernel), _, rfl, ?_⟩
      refine iteF ?_
      have lr : rs.length = rd.length := pr.length
      have ltd : ∀ l : List Dat, l.length ≤ todo l := by
        intro l
        induction l with
        | nil => exact Nat.le_refl _
        | cons z l ih =>
          have : 1 ≤ wgt z := by cases z <;> simp [wgt] <;> omega
          have e : todo (z :: l) = wgt z + todo l := by simp [todo]
          rw [List.length_cons, e]
          omega
      have lrd := ltd rd
      have hw : wgt (.tup ds) = 2 + wgts ds := by rw [wgt]
      have tb := todo_betw ds
      have lb := ltd (betw (.str [32]) ds)
      refine ⟨_, rfl, .inl ⟨rfl, _, SqL.of e1'⟩, _, _, _, rfl, rfl, e1', small _ (by omega), ?_⟩
      have s3 := keep _ B (.lst ((ps.map SX.S).map V.str ++ [V.str "("])) (.inl rfl) s2
      have e2' : (upd (upd H1 W (.lst rs.reverse)) B (.lst ((ps.map SX.S).map V.str ++ [V.str "("]))) W = some (.lst rs.reverse) := by rw [upd_ne (fun e => nBW e.symm), upd_same]
      refine ⟨_, rfl, .inl ⟨rfl, _, SqL.of e2'⟩, _, _, _, rfl, rfl, e2', small _ (by rw [List.length_reverse]; omega), ?_⟩
      have s4 := keep _ W (.lst (rs.reverse ++ [V.str ")"])) (.inr rfl) s3
      refine ⟨_, rfl, .inl ⟨rfl, _, SqL.of upd_same⟩, _, rfl, p, xs, rfl, s4 _ _ hp, ?_, fun l H5 s5 hl5 e5 => ?_⟩
      · have e := congrArg List.length hflat'
        rw [List.length_append, List.length_append] at e
        have := (txt_bounds ds).1
        have := r.length
        omega
      have n5W : l ≠ W := fun e => by rw [e, upd_same] at hl5; cases hl5
      have e6 : H5 W = some (.lst (rs.reverse ++ [V.str ")"])) := s5 _ _ upd_same
      have s6 := s4.trans s5
      have ebW : H5 B = some (.lst ((ps.map SX.S).map V.str ++ [V.str "("])) := by
        refine s5 _ _ ?_
        rw [upd_ne nBW, upd_same]
      have prb : Paired (DV H n) (betw bl xs) (betw (.str [32]) ds) := betw_paired (DVL.leaf (.inl ⟨[32], show V.str " " = _ by decide +kernel, rfl⟩) _) r
      have lb2 : (betw bl xs).length = (betw (.str [32]) ds).length := prb.length
      have wd := wgt_le (.tup ds)
      refine ⟨W, l, _, _, rfl, rfl, e6, e5, ?_, todo (betw (.str [32]) ds ++ .str [41] :: rd), ?_, ps ++ [[40]], betw bl xs ++ .str ")" :: rs, betw (.str [32]) ds ++ .str [41] :: rd, _, rfl, rfl, keep _ _ _ (.inr rfl) s6, ?_, ?_, paired_app prb (.cons (DVL.leaf (.inl ⟨[41], show V.str ")" = _ by decide +kernel, rfl⟩) _) pr), ?_, ?_⟩
      · have : (betw bl xs.reverse).length = (betw bl xs).length := by rw [← betw_rev bl xs, List.length_reverse]
        rw [this, List.length_append, List.length_reverse, List.length_singleton]
        exact Nat.le_trans (show _ ≤ 16000003 by omega) (by decide)
      · have : todo (betw (.str [32]) ds ++ .str [41] :: rd) = todo (betw (.str [32]) ds) + (1 + todo rd) := by simp [todo, wgt]
        omega
      · rw [upd_ne nBW, ebW, List.map_append, List.map_append]
        rfl
      · have : (betw bl xs).reverse = betw bl xs.reverse := by rw [← betw_rev bl xs, List.reverse_reverse]
        rw [upd_same, List.reverse_append, List.reverse_cons, this]
      · rw [← hflat', List.map_append, List.flatten_append, List.flatten_append, betw_flat, txt_tup]
        simp [Dat.txt]
      · have : todo (betw (.str [32]) ds ++ .str [41] :: rd) = todo (betw (.str [32]) ds) + (1 + todo rd) := by simp [todo, wgt]
        rw [List.length_append, List.length_singleton]
        omega
end
end KT

namespace KT
open PySem PySem.Spec PyProof.Rows L2
open C8 (Cal pe_c)
section
variable {P : Program} {w : World} {K : PySem.W.Frag} {mg : Str → Option Value} {base : Heap} {f : Addr} {fd : FuncData}
theorem ok_law {k : Nat} (hk : 11 ≤ k) (F : Fun K "law" "law" sLaw f fd) (mR : mg "range" = none) (mI : mg "isinstance" = none) (mS : mg "str" = none)
    (cB : Cal P w K mg base 1 "_law_box" (spBox K) []) (cN : Cal P w K mg base 11 "_law_nested" (spNest 4) []) (cW : Cal P w K mg base k "write" (spWrite 64) []) : FnOk P w K mg base CX0 (k + 1) f fd ["script"] (spLaw K) := by
  refine F.ok scLaw (fun vs H Q E h => ?_) (fun cdv A outer s H vs Q E hr h => ?_)
  · obtain ⟨a, ns, rfl, _⟩ := h
    rfl
  obtain ⟨a, ns, rfl, hS, q⟩ := h
  refine ⟨_, pss_cons (ps_for PassesOwn.never rfl (pi_range1 (by rfl) mR (pa_cons pe_int pa_nil)) (pg_name (i := 1) scLaw.nd rfl (Or.inl rfl))
      (pss_cons (ps_asg (pe_c cN hr hk (by rfl) (pa_cons (pe_c cB hr (by omega) (by rfl) (pa_cons (pv 0) (pa_cons (pv 1) pa_nil))) (pa_cons pe_int pa_nil))) (pg_tup rfl (pgs_cons (pg_name (i := 2) scLaw.nd rfl (Or.inl rfl)) (pgs_cons (pg_name (i := 3) scLaw.nd rfl (Or.inl rfl)) pgs_nil))))
      (pss_cons (ps_set (i := 4) scLaw.nd rfl (Or.inl rfl) (pe_c cW hr (Nat.le_refl _) (by rfl) (pa_cons (pv 2) pa_nil)))
      (pss_one (ps_if (PW.pt (pw_or (pt_not (pt_val (pe_callB call_isi (by rfl) mI boot_isinstance (pa_cons (pv 4) (pa_cons (pe_bltn (v := .ty "str") (by rfl) mS boot_str rfl) pa_nil))))) (pw_or1 (pt_cmpR op_ne (pv 4) (pv 3) (nomark _)))))
        pss_never pss_nil)))))
    (pss_one (ps_ret pe_bl)), ?_⟩
  refine ⟨4, rfl, by decide, by decide, ?_⟩
  refine for_range (n := 4) (fun i σ H1 => ∃ y1 y2 y3 y4, σ = [some (.ref a), y1, y2, y3, y4] ∧ SqL K H1 a (ns.map V.int)) ⟨none, none, none, none, rfl, hS⟩ (fun i σ H1 hi hP => ?_) (fun σ H1 hP => ?_)
  · obtain ⟨y1, y2, y3, y4, rfl, hS1⟩ := hP
    refine ⟨_, rfl, _, rfl, a, ns, i, by show [V.ref a, V.int (0 + (i : Int))] ++ [] = _; rw [Int.zero_add]; rfl, hS1, fun b z hz hb => ?_⟩
    refine ⟨b, z, rfl, upd_same, hz, fun d z2 p H2 hz2 hb2 k2 hp => ?_⟩
    obtain ⟨v, e2, hv, hl, _⟩ := hp
    have s2 : Same H1 H2 := Kept.same hb k2
    refine ⟨p, _, rfl, .inl (.inl e2), rfl, v, _, rfl, _, _, rfl, rfl, ?_⟩
    refine ⟨_, rfl, v, d, rfl, hv, Nat.le_trans hl (by decide), fun H3 s3 => ?_⟩
    refine ⟨_, rfl, _, _, _, _, true, rfl, .ty _, .base (.str _), kit_ty (by decide +kernel), _, rfl, ?_⟩
    refine iteF ?_
    refine ⟨_, rfl, _, rfl, ?_⟩
    refine ⟨by rfl, _, rfl, ?_⟩
    rw [decide_eq_true rfl]
    refine iteF ?_
    exact ⟨_, _, _, _, rfl, s3.seq (s2.seq hS1)⟩
  · obtain ⟨y1, y2, y3, y4, rfl, hS1⟩ := hP
    exact q H1
end
end KT

namespace KT
open PySem PySem.Spec PyProof.Rows L2
open C8 (Cal pe_c)
theorem whole {P : Program} {w : World} {K : PySem.W.Frag} {mg : Str → Option Value} {base : Heap} {t1 t2 : Tok} {f1 f2 f3 f4 f5 f6 f7 f8 f9 f10 f11 f12 f13 : Addr} {d1 d2 d3 d4 d5 d6 d7 d8 d9 d10 d11 d12 d13 : FuncData} (gR : mg "ROW" = some (.int 18 t1)) (gL : mg "ROW_LIMIT" = some (.int 1000000000000000000 t2))
    (F1 : Fun K "write" "write" sWrite f1 d1) (b1 : Binds K d1 ["value"] []) (g1 : mg "write" = some (.ref f1))
    (F2 : Fun K "spaced_parts" "spaced_parts" sSpaced f2 d2) (b2 : Binds K d2 ["parts"] []) (g2 : mg "spaced_parts" = some (.ref f2))
    (F3 : Fun K "integer_text" "integer_text" sIT f3 d3) (b3 : Binds K d3 ["number"] []) (g3 : mg "integer_text" = some (.ref f3))
    (F4 : Fun K "_law_box" "_law_box" sBox f4 d4) (b4 : Binds K d4 ["script", "at"] []) (g4 : mg "_law_box" = some (.ref f4))
    (F5 : Fun K "_law_take" "_law_take" sTake f5 d5) (b5 : Binds K d5 ["box", "many"] []) (g5 : mg "_law_take" = some (.ref f5))
    (F6 : Fun K "_law_word" "_law_word" sWord f6 d6) (b6 : Binds K d6 ["box"] []) (g6 : mg "_law_word" = some (.ref f6))
    (F7 : Fun K "_law_figures" "_law_figures" sFig f7 d7) (b7 : Binds K d7 ["box"] []) (g7 : mg "_law_figures" = some (.ref f7))
    (F8 : Fun K "_law_number" "_law_number" sNum f8 d8) (b8 : Binds K d8 ["figures"] []) (g8 : mg "_law_number" = some (.ref f8))
    (F9 : Fun K "_law_integer" "_law_integer" sInt f9 d9) (b9 : Binds K d9 ["box"] []) (g9 : mg "_law_integer" = some (.ref f9))
    (F10 : Fun K "_law_sample" "_law_sample" sSamp f10 d10) (b10 : Binds K d10 ["box"] []) (g10 : mg "_law_sample" = some (.ref f10))
    (F11 : Fun K "_law_plain" "_law_plain" sPlain f11 d11) (b11 : Binds K d11 ["value"] []) (g11 : mg "_law_plain" = some (.ref f11))
    (F12 : Fun K "_law_nested" "_law_nested" sNest f12 d12) (b12 : Binds K d12 ["box", "depth"] []) (g12 : mg "_law_nested" = some (.ref f12))
    (F13 : Fun K "law" "law" sLaw f13 d13)
    (mR : mg "range" = none) (mI : mg "isinstance" = none) (mS : mg "str" = none) (mN : mg "int" = none) (mL : mg "len" = none) (mA : mg "abs" = none) (mM : mg "min" = none) (mT : mg "tuple" = none) (mD : mg "divmod" = none) (mV : mg "reversed" = none) :
    FnOk P w K mg base CX0 71 f13 d13 ["script"] (spLaw K) := by
  have cT : Cal P w K mg base 1 "_law_take" spTake [] := ⟨f5, d5, _, _, ok_take F5 mN, g5, F5.kp, b5, .nil⟩
  have cB : Cal P w K mg base 1 "_law_box" (spBox K) [] := ⟨f4, d4, _, _, ok_box F4 mL mA mN, g4, F4.kp, b4, .nil⟩
  have cW : Cal P w K mg base 2 "_law_word" spWord [] := ⟨f6, d6, _, _, ok_word F6 cT mR, g6, F6.kp, b6, .nil⟩
  have cF : Cal P w K mg base 2 "_law_figures" spFig [] := ⟨f7, d7, _, _, ok_fig F7 cT mR mM mS mL, g7, F7.kp, b7, .nil⟩
  have cNu : Cal P w K mg base 1 "_law_number" spNum [] := ⟨f8, d8, _, _, ok_num F8 mR mL mN, g8, F8.kp, b8, .nil⟩
  have cI : Cal P w K mg base 3 "_law_integer" spInt [] := ⟨f9, d9, _, _, ok_int F9 cT cF cNu, g9, F9.kp, b9, .nil⟩
  have cS : Cal P w K mg base 3 "_law_sample" spSamp [] := ⟨f10, d10, _, _, ok_samp F10 cT cW mL, g10, F10.kp, b10, .nil⟩
  have cP : Cal P w K mg base 6 "_law_plain" (spText Small 5) [] := ⟨f11, d11, _, _, ok_plain F11 mI mS mN g11 b11 5, g11, F11.kp, b11, .nil⟩
  have cN : Cal P w K mg base 11 "_law_nested" (spNest 4) [] := ⟨f12, d12, _, _, ok_nest F12 g12 b12 mR mT cT cI cW cS cP 4 (by decide), g12, F12.kp, b12, .nil⟩
  have cSp : Cal P w K mg base 1 "spaced_parts" (spSpaced K) [] := ⟨f2, d2, _, _, ok_spaced F2 mV mR mL, g2, F2.kp, b2, .nil⟩
  have cIT : Cal P w K mg base 1 "integer_text" spIT [] := ⟨f3, d3, _, _, ok_it F3 mA mD mS gR gL, g3, F3.kp, b3, .nil⟩
  have cWr : Cal P w K mg base 70 "write" (spWrite 64) [] := ⟨f1, d1, _, _, (ok_write F1 mI mS mN cSp cIT).mono (by decide), g1, F1.kp, b1, .nil⟩
  exact ok_law (by decide) F13 mR mI mS cB cN cWr
theorem all_mk {l : PySem.W.OpenLaw} {w : World} {K : PySem.W.Frag} {h : Heap} {mg : Str → Option Value} {fa f1 f2 f3 f4 f5 f6 f7 f8 f9 f10 f11 f12 f13 : Addr} (X : K.In h) (G : h.Ns mainGlobals mg) (hfa : mg "law" = some (.ref fa))
    {od1 an1 od2 an2 od3 an3 od4 an4 od5 an5 od6 an6 od7 an7 od8 an8 od9 an9 od10 an10 od11 an11 od12 an12 od13 an13 : Option Addr} {sl1 sl2 sl3 sl4 sl5 sl6 sl7 sl8 sl9 sl10 sl11 sl12 sl13 : Array (Option Value)} {oc1 kV1 dc1 pm1 cd1 ct1 oc2 kV2 dc2 pm2 cd2 ct2 oc3 kV3 dc3 pm3 cd3 ct3 oc4 kV4 dc4 pm4 cd4 ct4 oc5 kV5 dc5 pm5 cd5 ct5 oc6 kV6 dc6 pm6 cd6 ct6 oc7 kV7 dc7 pm7 cd7 ct7 oc8 kV8 dc8 pm8 cd8 ct8 oc9 kV9 dc9 pm9 cd9 ct9 oc10 kV10 dc10 pm10 cd10 ct10 oc11 kV11 dc11 pm11 cd11 ct11 oc12 kV12 dc12 pm12 cd12 ct12 oc13 kV13 dc13 pm13 cd13 ct13 : Value}
    (a1 : PySem.W.nsIn K mainGlobals "write" = some (some (.ref f1))) (l1 : K.lookup f1 = some ⟨oc1, od1, .func (PySem.W.fnOf "write" "write" (defArgs sWrite) (defBody sWrite) (defScope sWrite) .none kV1 dc1 pm1 an1 cd1 ct1), sl1⟩) (c1 : PySem.W.codeIn K cd1 "write" = true) (k1 : PySem.W.keepIn K (.ref f1) = true)
    (a2 : PySem.W.nsIn K mainGlobals "spaced_parts" = some (some (.ref f2))) (l2 : K.lookup f2 = some ⟨oc2, od2, .func (PySem.W.fnOf "spaced_parts" "spaced_parts" (defArgs sSpaced) (defBody sSpaced) (defScope sSpaced) .none kV2 dc2 pm2 an2 cd2 ct2), sl2⟩) (c2 : PySem.W.codeIn K cd2 "spaced_parts" = true) (k2 : PySem.W.keepIn K (.ref f2) = true)
    (a3 : PySem.W.nsIn K mainGlobals "integer_text" = some (some (.ref f3))) (l3 : K.lookup f3 = some ⟨oc3, od3, .func (PySem.W.fnOf "integer_text" "integer_text" (defArgs sIT) (defBody sIT) (defScope sIT) .none kV3 dc3 pm3 an3 cd3 ct3), sl3⟩) (c3 : PySem.W.codeIn K cd3 "integer_text" = true) (k3 : PySem.W.keepIn K (.ref f3) = true)
    (a4 : PySem.W.nsIn K mainGlobals "_law_box" = some (some (.ref f4))) (l4 : K.lookup f4 = some ⟨oc4, od4, .func (PySem.W.fnOf "_law_box" "_law_box" (defArgs sBox) (defBody sBox) (defScope sBox) .none kV4 dc4 pm4 an4 cd4 ct4), sl4⟩) (c4 : PySem.W.codeIn K cd4 "_law_box" = true) (k4 : PySem.W.keepIn K (.ref f4) = true)
    (a5 : PySem.W.nsIn K mainGlobals "_law_take" = some (some (.ref f5))) (l5 : K.lookup f5 = some ⟨oc5, od5, .func (PySem.W.fnOf "_law_take" "_law_take" (defArgs sTake) (defBody sTake) (defScope sTake) .none kV5 dc5 pm5 an5 cd5 ct5), sl5⟩) (c5 : PySem.W.codeIn K cd5 "_law_take" = true) (k5 : PySem.W.keepIn K (.ref f5) = true)
    (a6 : PySem.W.nsIn K mainGlobals "_law_word" = some (some (.ref f6))) (l6 : K.lookup f6 = some ⟨oc6, od6, .func (PySem.W.fnOf "_law_word" "_law_word" (defArgs sWord) (defBody sWord) (defScope sWord) .none kV6 dc6 pm6 an6 cd6 ct6), sl6⟩) (c6 : PySem.W.codeIn K cd6 "_law_word" = true) (k6 : PySem.W.keepIn K (.ref f6) = true)
    (a7 : PySem.W.nsIn K mainGlobals "_law_figures" = some (some (.ref f7))) (l7 : K.lookup f7 = some ⟨oc7, od7, .func (PySem.W.fnOf "_law_figures" "_law_figures" (defArgs sFig) (defBody sFig) (defScope sFig) .none kV7 dc7 pm7 an7 cd7 ct7), sl7⟩) (c7 : PySem.W.codeIn K cd7 "_law_figures" = true) (k7 : PySem.W.keepIn K (.ref f7) = true)
    (a8 : PySem.W.nsIn K mainGlobals "_law_number" = some (some (.ref f8))) (l8 : K.lookup f8 = some ⟨oc8, od8, .func (PySem.W.fnOf "_law_number" "_law_number" (defArgs sNum) (defBody sNum) (defScope sNum) .none kV8 dc8 pm8 an8 cd8 ct8), sl8⟩) (c8 : PySem.W.codeIn K cd8 "_law_number" = true) (k8 : PySem.W.keepIn K (.ref f8) = true)
    (a9 : PySem.W.nsIn K mainGlobals "_law_integer" = some (some (.ref f9))) (l9 : K.lookup f9 = some ⟨oc9, od9, .func (PySem.W.fnOf "_law_integer" "_law_integer" (defArgs sInt) (defBody sInt) (defScope sInt) .none kV9 dc9 pm9 an9 cd9 ct9), sl9⟩) (c9 : PySem.W.codeIn K cd9 "_law_integer" = true) (k9 : PySem.W.keepIn K (.ref f9) = true)
    (a10 : PySem.W.nsIn K mainGlobals "_law_sample" = some (some (.ref f10))) (l10 : K.lookup f10 = some ⟨oc10, od10, .func (PySem.W.fnOf "_law_sample" "_law_sample" (defArgs sSamp) (defBody sSamp) (defScope sSamp) .none kV10 dc10 pm10 an10 cd10 ct10), sl10⟩) (c10 : PySem.W.codeIn K cd10 "_law_sample" = true) (k10 : PySem.W.keepIn K (.ref f10) = true)
    (a11 : PySem.W.nsIn K mainGlobals "_law_plain" = some (some (.ref f11))) (l11 : K.lookup f11 = some ⟨oc11, od11, .func (PySem.W.fnOf "_law_plain" "_law_plain" (defArgs sPlain) (defBody sPlain) (defScope sPlain) .none kV11 dc11 pm11 an11 cd11 ct11), sl11⟩) (c11 : PySem.W.codeIn K cd11 "_law_plain" = true) (k11 : PySem.W.keepIn K (.ref f11) = true)
    (a12 : PySem.W.nsIn K mainGlobals "_law_nested" = some (some (.ref f12))) (l12 : K.lookup f12 = some ⟨oc12, od12, .func (PySem.W.fnOf "_law_nested" "_law_nested" (defArgs sNest) (defBody sNest) (defScope sNest) .none kV12 dc12 pm12 an12 cd12 ct12), sl12⟩) (c12 : PySem.W.codeIn K cd12 "_law_nested" = true) (k12 : PySem.W.keepIn K (.ref f12) = true)
    (a13 : PySem.W.nsIn K mainGlobals "law" = some (some (.ref f13))) (l13 : K.lookup f13 = some ⟨oc13, od13, .func (PySem.W.fnOf "law" "law" (defArgs sLaw) (defBody sLaw) (defScope sLaw) .none kV13 dc13 pm13 an13 cd13 ct13), sl13⟩) (c13 : PySem.W.codeIn K cd13 "law" = true) (k13 : PySem.W.keepIn K (.ref f13) = true)
    {t1 t2 : Tok} (aR : PySem.W.nsIn K mainGlobals "ROW" = some (some (.int 18 t1))) (aL : PySem.W.nsIn K mainGlobals "ROW_LIMIT" = some (some (.int 1000000000000000000 t2)))
    (z_range : PySem.W.nsIn K mainGlobals "range" = some none) (z_isinstance : PySem.W.nsIn K mainGlobals "isinstance" = some none) (z_str : PySem.W.nsIn K mainGlobals "str" = some none) (z_int : PySem.W.nsIn K mainGlobals "int" = some none) (z_len : PySem.W.nsIn K mainGlobals "len" = some none) (z_abs : PySem.W.nsIn K mainGlobals "abs" = some none) (z_min : PySem.W.nsIn K mainGlobals "min" = some none) (z_tuple : PySem.W.nsIn K mainGlobals "tuple" = some none) (z_divmod : PySem.W.nsIn K mainGlobals "divmod" = some none) (z_reversed : PySem.W.nsIn K mainGlobals "reversed" = some none) :
    ∃ fd : FuncData, (∀ (s : Shared) (v : Value), BindsTo s fd ⟨[v], []⟩ [("script", v)]) ∧ ∀ base : Heap, K.In base → base.Ns mainGlobals mg → FnOk l.prog w K mg base CX0 71 fa fd ["script"] (spLaw K) := by
  have e := hfa.symm.trans (PySem.W.mg_of X G a13)
  cases e
  have F1 := fun_mk (st := sWrite) l1 c1 k1
  have b1 := F1.binds (ps := ["value"]) fun _ _ _ _ _ _ us hl => match us, hl with | [_], _ => rfl
  have g1 := PySem.W.mg_of X G a1
  have F2 := fun_mk (st := sSpaced) l2 c2 k2
  have b2 := F2.binds (ps := ["parts"]) fun _ _ _ _ _ _ us hl => match us, hl with | [_], _ => rfl
  have g2 := PySem.W.mg_of X G a2
  have F3 := fun_mk (st := sIT) l3 c3 k3
  have b3 := F3.binds (ps := ["number"]) fun _ _ _ _ _ _ us hl => match us, hl with | [_], _ => rfl
  have g3 := PySem.W.mg_of X G a3
  have F4 := fun_mk (st := sBox) l4 c4 k4
  have b4 := F4.binds (ps := ["script", "at"]) fun _ _ _ _ _ _ us hl => match us, hl with | [_, _], _ => rfl
  have g4 := PySem.W.mg_of X G a4
  have F5 := fun_mk (st := sTake) l5 c5 k5
  have b5 := F5.binds (ps := ["box", "many"]) fun _ _ _ _ _ _ us hl => match us, hl with | [_, _], _ => rfl
  have g5 := PySem.W.mg_of X G a5
  have F6 := fun_mk (st := sWord) l6 c6 k6
  have b6 := F6.binds (ps := ["box"]) fun _ _ _ _ _ _ us hl => match us, hl with | [_], _ => rfl
  have g6 := PySem.W.mg_of X G a6
  have F7 := fun_mk (st := sFig) l7 c7 k7
  have b7 := F7.binds (ps := ["box"]) fun _ _ _ _ _ _ us hl => match us, hl with | [_], _ => rfl
  have g7 := PySem.W.mg_of X G a7
  have F8 := fun_mk (st := sNum) l8 c8 k8
  have b8 := F8.binds (ps := ["figures"]) fun _ _ _ _ _ _ us hl => match us, hl with | [_], _ => rfl
  have g8 := PySem.W.mg_of X G a8
  have F9 := fun_mk (st := sInt) l9 c9 k9
  have b9 := F9.binds (ps := ["box"]) fun _ _ _ _ _ _ us hl => match us, hl with | [_], _ => rfl
  have g9 := PySem.W.mg_of X G a9
  have F10 := fun_mk (st := sSamp) l10 c10 k10
  have b10 := F10.binds (ps := ["box"]) fun _ _ _ _ _ _ us hl => match us, hl with | [_], _ => rfl
  have g10 := PySem.W.mg_of X G a10
  have F11 := fun_mk (st := sPlain) l11 c11 k11
  have b11 := F11.binds (ps := ["value"]) fun _ _ _ _ _ _ us hl => match us, hl with | [_], _ => rfl
  have g11 := PySem.W.mg_of X G a11
  have F12 := fun_mk (st := sNest) l12 c12 k12
  have b12 := F12.binds (ps := ["box", "depth"]) fun _ _ _ _ _ _ us hl => match us, hl with | [_, _], _ => rfl
  have g12 := PySem.W.mg_of X G a12
  have F13 := fun_mk (st := sLaw) l13 c13 k13
  have g13 := PySem.W.mg_of X G a13
  have m_range := PySem.W.mg_none_of X G z_range
  have m_isinstance := PySem.W.mg_none_of X G z_isinstance
  have m_str := PySem.W.mg_none_of X G z_str
  have m_int := PySem.W.mg_none_of X G z_int
  have m_len := PySem.W.mg_none_of X G z_len
  have m_abs := PySem.W.mg_none_of X G z_abs
  have m_min := PySem.W.mg_none_of X G z_min
  have m_tuple := PySem.W.mg_none_of X G z_tuple
  have m_divmod := PySem.W.mg_none_of X G z_divmod
  have m_reversed := PySem.W.mg_none_of X G z_reversed
  exact ⟨PySem.W.fnOf "law" "law" (defArgs sLaw) (defBody sLaw) (defScope sLaw) .none kV13 dc13 pm13 an13 cd13 ct13, fun s v => .of_eq rfl, fun base _ _ => whole (PySem.W.mg_of X G aR) (PySem.W.mg_of X G aL) F1 b1 g1 F2 b2 g2 F3 b3 g3 F4 b4 g4 F5 b5 g5 F6 b6 g6 F7 b7 g7 F8 b8 g8 F9 b9 g9 F10 b10 g10 F11 b11 g11 F12 b12 g12 F13 m_range m_isinstance m_str m_int m_len m_abs m_min m_tuple m_divmod m_reversed⟩
end KT
open PySem PySem.W PyProof.Rows
set_option maxHeartbeats 0 in
theorem PySem.Challenge.cw_isthmus_k01_texts_written_holds : PySem.Challenge.rw_isthmus_k01_texts_written.Holds := by
  w_on; o_law; k_head; (case hw => w_witness2)
  k_fill
  refine L2.walk_of (l := PySem.Challenge.rw_isthmus_k01_texts_written) (n := 63) (k := 71) (x := "script") (CX := fun _ => L2.CX0) (sp := fun w => KT.spLaw _) rfl (by decide) rfl ⟨rfl, by decide, by decide⟩ (fun w h Y => PySem.W.kIn_of Y) ?F (fun _ _ a ns hl _ hS => ⟨a, ns, rfl, hS, fun _ => rfl⟩) (fun _ _ _ _ _ h => h)
  case F =>
    intro w mg fa h KX G hmg
    refine' KT.all_mk KX G hmg ?a1 ?l1 ?c1 ?k1 ?a2 ?l2 ?c2 ?k2 ?a3 ?l3 ?c3 ?k3 ?a4 ?l4 ?c4 ?k4 ?a5 ?l5 ?c5 ?k5 ?a6 ?l6 ?c6 ?k6 ?a7 ?l7 ?c7 ?k7 ?a8 ?l8 ?c8 ?k8 ?a9 ?l9 ?c9 ?k9 ?a10 ?l10 ?c10 ?k10 ?a11 ?l11 ?c11 ?k11 ?a12 ?l12 ?c12 ?k12 ?a13 ?l13 ?c13 ?k13 ?aR ?aL ?z_range ?z_isinstance ?z_str ?z_int ?z_len ?z_abs ?z_min ?z_tuple ?z_divmod ?z_reversed
    (case a1 => k_is); (case l1 => k_is); (case c1 => k_is); (case k1 => k_is); (case a2 => k_is); (case l2 => k_is); (case c2 => k_is); (case k2 => k_is); (case a3 => k_is); (case l3 => k_is); (case c3 => k_is); (case k3 => k_is); (case a4 => k_is); (case l4 => k_is); (case c4 => k_is); (case k4 => k_is); (case a5 => k_is); (case l5 => k_is); (case c5 => k_is); (case k5 => k_is); (case a6 => k_is); (case l6 => k_is); (case c6 => k_is); (case k6 => k_is); (case a7 => k_is); (case l7 => k_is); (case c7 => k_is); (case k7 => k_is); (case a8 => k_is); (case l8 => k_is); (case c8 => k_is); (case k8 => k_is); (case a9 => k_is); (case l9 => k_is); (case c9 => k_is); (case k9 => k_is); (case a10 => k_is); (case l10 => k_is); (case c10 => k_is); (case k10 => k_is); (case a11 => k_is); (case l11 => k_is); (case c11 => k_is); (case k11 => k_is); (case a12 => k_is); (case l12 => k_is); (case c12 => k_is); (case k12 => k_is); (case a13 => k_is); (case l13 => k_is); (case c13 => k_is); (case k13 => k_is); (case aR => k_is); (case aL => k_is); (case z_range => k_is); (case z_isinstance => k_is); (case z_str => k_is); (case z_int => k_is); (case z_len => k_is); (case z_abs => k_is); (case z_min => k_is); (case z_tuple => k_is); (case z_divmod => k_is); (case z_reversed => k_is)
