import PyProof.Rows.All
import Wide.All
import OpenK.AllK
import Wide.FinOn
import HandS.ForMost
import HandS.Codes
import HandS.StrMore
import HandS.RevRange
import HandS.WideBits
import HandS.Wide
import HandS.IsInst
import PyProof.StrBlock2
import PyProof.Rows.StrMul
import HandS.Conv
import HandS.ReplaceLit
import HandS.ExcIs
import HandS.ExcCtx
import HandS.WordsExc
import HandS.ExcOwn
import HandS.Replace
import HandS.ReplaceList
import HandS.Walk
import PySem.Challenge.RW_isthmus_k02_texts_read_back
set_option Elab.async false
set_option linter.all false
set_option maxRecDepth 100000
namespace KT
open PySem PySem.Spec PyProof.Rows L2
def top (i : Nat) : Stmt := PySem.Challenge.pw_isthmus_k02_texts_read_back.main.body.getD i (.Pass ⟨0, 0, 0, 0⟩)
abbrev sBox : Stmt := top 14
abbrev sTake : Stmt := top 15
abbrev sWord : Stmt := top 16
theorem scBox : FnScope ["script", "at", "cell"] ["script", "at"] (defScope sBox) := ⟨rfl, rfl, rfl, by decide +kernel, rfl, by decide +kernel, by decide +kernel⟩
theorem scTake : FnScope ["box", "many", "told"] ["box", "many"] (defScope sTake) := ⟨rfl, rfl, rfl, by decide +kernel, rfl, by decide +kernel, by decide +kernel⟩
theorem scWord : FnScope ["box", "many", "k"] ["box"] (defScope sWord) := ⟨rfl, rfl, rfl, by decide +kernel, rfl, by decide +kernel, by decide +kernel⟩

/-- the box at b holds z -/
def Bx (H : Hp) (b : Addr) (z : Int) : Prop := H b = some (.lst [.int z])

def spTake : Sp := fun vs H Q _ => ∃ (b : Addr) (z m : Int), vs = [.ref b, .int m] ∧ Bx H b z ∧ 0 < m ∧ m < 1073741824 ∧ Q (.int (z % m)) (upd H b (.lst [.int (z / m)]))
section
variable {P : Program} {w : World} {K : PySem.W.Frag} {mg : Str → Option Value} {base : Heap} {f : Addr} {fd : FuncData}
theorem ok_take (F : Fun K "_law_take" "_law_take" sTake f fd) (mI : mg "int" = none) : FnOk P w K mg base CX0 1 f fd ["box", "many"] spTake := by
  refine F.ok scTake (fun vs H Q E h => ?_) (fun cdv A outer s H vs Q E hr h => ?_)
  · obtain ⟨b, z, m, rfl, _⟩ := h
    rfl
  obtain ⟨b, z, m, rfl, hb, m0, m1, q⟩ := h
  refine ⟨_, pss_cons (ps_set (i := 2) scTake.nd rfl (Or.inl rfl) (pe_op op_mod (pe_callTy call_int1 (by rfl) mI boot_int (pa_cons (pe_ix ix_list (pv 0) pe_int (fun _ _ => rfl)) pa_nil)) (pv 1)))
    (pss_cons (ps_asg (pe_op op_fdiv (pe_ix ix_list (pv 0) pe_int (fun _ _ => rfl)) (pv 1)) (pg_sub (pv 0) pe_int set_list))
    (pss_one (ps_ret (pv 2)))), ?_⟩
  refine ⟨_, rfl, b, _, _, _, rfl, rfl, SqL.of hb, rfl, .inl ⟨_, rfl, _, rfl, _, _, rfl, rfl, m0, ?_⟩⟩
  refine ⟨_, rfl, b, _, _, _, rfl, rfl, SqL.of hb, rfl, _, rfl, _, _, rfl, rfl, ⟨m0, m1⟩, ?_⟩
  refine ⟨_, rfl, b, _, _, _, rfl, rfl, hb, rfl, ?_⟩
  exact ⟨_, rfl, q⟩
end
end KT

namespace KT
open PySem PySem.Spec PyProof.Rows L2
/-- what was tracked besides b stands as before -/
def Kept (b : Addr) (H H' : Hp) : Prop := ∀ a o, a ≠ b → H a = some o → H' a = some o
theorem Kept.refl (b : Addr) (H : Hp) : Kept b H H := fun _ _ _ h => h
theorem Kept.trans {b : Addr} {H H1 H2 : Hp} (x : Kept b H H1) (y : Kept b H1 H2) : Kept b H H2 := fun a o n h => y a o n (x a o n h)
theorem Kept.upd {b : Addr} {H : Hp} {o : HO} : Kept b H (upd H b o) := fun a u n h => by rw [upd_ne n]; exact h
theorem Kept.new {b p : Addr} {H : Hp} {o : HO} (h : H p = none) : Kept b H (L2.upd H p o) := fun a u n e => by rw [upd_ne (ne_of_none e h)]; exact e
theorem Bx.new {b p : Addr} {H : Hp} {z : Int} {o : HO} (x : Bx H b z) (h : H p = none) : Bx (upd H p o) b z := by
  unfold Bx
  rw [upd_ne (ne_of_none x h)]
  exact x
def letter (c : Nat) : Prop := 97 ≤ c ∧ c ≤ 122
/-- a word of letters -/
def Word (l : List Nat) : Prop := 1 ≤ l.length ∧ l.length ≤ 68 ∧ ∀ c ∈ l, letter c
def spBox (K : PySem.W.Frag) : Sp := fun vs H Q _ => ∃ (a : Addr) (ns : List Int) (i : Nat), vs = [.ref a, .int i] ∧ SqL K H a (ns.map V.int) ∧
  ∀ p z, 0 ≤ z → H p = none → Q (.ref p) (upd H p (.lst [.int z]))
def spWord : Sp := fun vs H Q _ => ∃ (b : Addr) (z : Int), vs = [.ref b] ∧ Bx H b z ∧ 0 ≤ z ∧
  ∀ l z' H', Word l → 0 ≤ z' → Bx H' b z' → Kept b H H' → Q (.str (SX.S l)) H'
section
variable {P : Program} {w : World} {K : PySem.W.Frag} {mg : Str → Option Value} {base : Heap} {f : Addr} {fd : FuncData}
theorem ok_box (F : Fun K "_law_box" "_law_box" sBox f fd) (mL : mg "len" = none) (mA : mg "abs" = none) (mI : mg "int" = none) : FnOk P w K mg base CX0 1 f fd ["script", "at"] (spBox K) := by
  refine F.ok scBox (fun vs H Q E h => ?_) (fun cdv A outer s H vs Q E hr h => ?_)
  · obtain ⟨a, ns, i, rfl, _⟩ := h
    rfl
  obtain ⟨a, ns, i, rfl, hS, q⟩ := h
  refine ⟨_, pss_cons (ps_set (i := 2) scBox.nd rfl (Or.inl rfl) pe_int)
    (pss_cons (ps_if (pt_cmpR op_lt (pv 1) (pe_callB call_len_seq (by rfl) mL PySem.boot_len (pa_cons (pv 0) pa_nil)) (nomark _))
      (pss_one (ps_set (i := 2) scBox.nd rfl (Or.inl rfl) (pe_callB call_abs (by rfl) mA (by decide +kernel) (pa_cons (pe_callTy call_int1 (by rfl) mI boot_int (pa_cons (pe_ix ix_list (pv 0) (pv 1) (fun _ _ => rfl)) pa_nil)) pa_nil)))) pss_nil)
    (pss_cons (ps_if (pt_cmpR op_lt (pv 2) (pe_op op_pow pe_int pe_int) (nomark _))
      (pss_one (ps_set (i := 2) scBox.nd rfl (Or.inl rfl) (pe_op op_mul (pv 2) pe_int))) pss_nil)
    (pss_one (ps_ret (pe_lst (pa_cons (pe_op op_mul (pe_op op_mul (pe_op op_mul (pe_op op_mul (pe_op op_mul (pe_op op_mul (pe_op op_mul (pe_op op_mul (pv 2) pe_int) pe_int) pe_int) pe_int) pe_int) pe_int) pe_int) pe_int) pa_nil)))))), ?_⟩
  -- the end, for any cell that is not below nought
  have fin : ∀ c : Int, 0 ≤ c → ∀ (H' : Hp), H' = H → tSeq (tIfS (tTest (tOp (rI0 fun i j => .bl (decide (i < j))) (tVar 2) (tOp (rI CPow fun i j => .int (i ^ j.toNat)) (tC (.int 10)) (tC (.int 18))))) (tAsg (tOp (rI CMul fun i j => .int (i * j)) (tVar 2) (tC (.int 998244359987710471))) (gName 2)) tNext)
      (tRet (tLst (tCons (tOp (rI CMul fun i j => .int (i * j)) (tOp (rI CMul fun i j => .int (i * j)) (tOp (rI CMul fun i j => .int (i * j)) (tOp (rI CMul fun i j => .int (i * j)) (tOp (rI CMul fun i j => .int (i * j)) (tOp (rI CMul fun i j => .int (i * j)) (tOp (rI CMul fun i j => .int (i * j)) (tOp (rI CMul fun i j => .int (i * j)) (tVar 2) (tC (.int 2147483647))) (tC (.int 1000000007))) (tC (.int 998244353))) (tC (.int 4294967291))) (tC (.int 982451653))) (tC (.int 67280421310721))) (tC (.int 2305843009213693951))) (tC (.int 999999999989))) tNil)))
      { nx := fun _ H' => Q .non H', rt := Q } [some (.ref a), some (.int (i : Int)), some (.int c)] H' := by
    intro c hc H' e
    subst e
    have last : ∀ d : Int, 0 ≤ d → (tRet (tLst (tCons (tOp (rI CMul fun i j => .int (i * j)) (tOp (rI CMul fun i j => .int (i * j)) (tOp (rI CMul fun i j => .int (i * j)) (tOp (rI CMul fun i j => .int (i * j)) (tOp (rI CMul fun i j => .int (i * j)) (tOp (rI CMul fun i j => .int (i * j)) (tOp (rI CMul fun i j => .int (i * j)) (tOp (rI CMul fun i j => .int (i * j)) (tVar 2) (tC (.int 2147483647))) (tC (.int 1000000007))) (tC (.int 998244353))) (tC (.int 4294967291))) (tC (.int 982451653))) (tC (.int 67280421310721))) (tC (.int 2305843009213693951))) (tC (.int 999999999989))) tNil)))
      { nx := fun _ H' => Q .non H', rt := Q } [some (.ref a), some (.int (i : Int)), some (.int d)] H' := by
      intro d hd
      refine ⟨_, rfl, _, _, rfl, rfl, .inr ⟨by decide, by decide⟩, _, _, rfl, rfl, .inr ⟨by decide, by decide⟩, _, _, rfl, rfl, .inr ⟨by decide, by decide⟩, _, _, rfl, rfl, .inr ⟨by decide, by decide⟩, _, _, rfl, rfl, .inr ⟨by decide, by decide⟩, _, _, rfl, rfl, .inr ⟨by decide, by decide⟩, _, _, rfl, rfl, .inr ⟨by decide, by decide⟩, _, _, rfl, rfl, .inr ⟨by decide, by decide⟩, by show 1 ≤ sizeLine; decide, fun p hp => ?_⟩
      exact q p _ (by omega) hp
    refine ⟨_, rfl, _, _, rfl, rfl, ⟨by decide, by decide, by decide⟩, _, _, rfl, rfl, _, rfl, ?_⟩
    refine ite2 (fun e => ?_) (fun e => ?_)
    · exact ⟨_, rfl, _, _, rfl, rfl, .inr ⟨by decide, by decide⟩, last _ (by omega)⟩
    · exact last c hc
  refine ⟨_, rfl, _, rfl, a, _, rfl, .inl hS, _, _, rfl, rfl, _, rfl, ?_⟩
  refine ite2 (fun e => ?_) (fun e => ?_)
  · have lt : i < ns.length := by
      have h := of_decide_eq_true e
      rw [List.length_map] at h
      omega
    have g : (ns.map V.int)[i]? = some (.int ns[i]) := by
      rw [List.getElem?_map, List.getElem?_eq_getElem lt]
      rfl
    refine ⟨_, rfl, _, rfl, a, _, _, _, rfl, rfl, hS, atI_nat g, .inl ⟨_, rfl, _, rfl, ?_⟩⟩
    exact fin _ (by split <;> omega) H rfl
  · exact fin 0 (by omega) H rfl
end
end KT

namespace KT
open PySem PySem.Spec PyProof.Rows L2
open C8 (Cal pe_c)
theorem mod_lt' {z m : Int} (h : 0 < m) : 0 ≤ z % m ∧ z % m < m := ⟨Int.emod_nonneg _ (by omega), Int.emod_lt_of_pos _ h⟩
theorem div_nn {z m : Int} (h : 0 ≤ z) (hm : 0 < m) : 0 ≤ z / m := Int.ediv_nonneg h (by omega)
def abc : List Nat := [97, 98, 99, 100, 101, 102, 103, 104, 105, 106, 107, 108, 109, 110, 111, 112, 113, 114, 115, 116, 117, 118, 119, 120, 121, 122]
theorem abc_eq : (("abcdefghijklmnopqrstuvwxyz" : Str)) = SX.S abc := by decide +kernel
theorem abc_at {k : Nat} (h : k < 26) : abc[k]? = some (97 + k) := by
  have : ∀ k : Fin 26, abc[k.val]? = some (97 + k.val) := by decide +kernel
  exact this ⟨k, h⟩
theorem joinL_nil : ∀ ys : List (List Nat), TL.joinL [] ys = ys.flatten
  | [] => rfl
  | [x] => by simp [TL.joinL]
  | x :: y :: r => by
    have ih := joinL_nil (y :: r)
    show x ++ ([] ++ TL.joinL [] (y :: r)) = _
    rw [ih]
    simp
section
variable {P : Program} {w : World} {K : PySem.W.Frag} {mg : Str → Option Value} {base : Heap} {f : Addr} {fd : FuncData}
theorem ok_word (F : Fun K "_law_word" "_law_word" sWord f fd) (cT : Cal P w K mg base 1 "_law_take" spTake []) (mR : mg "range" = none) : FnOk P w K mg base CX0 2 f fd ["box"] spWord := by
  refine F.ok scWord (fun vs H Q E h => ?_) (fun cdv A outer s H vs Q E hr h => ?_)
  · obtain ⟨b, z, rfl, _⟩ := h
    rfl
  obtain ⟨b, z, rfl, hb, hz, q⟩ := h
  refine ⟨_, pss_cons (ps_set (i := 1) scWord.nd rfl (Or.inl rfl) (pe_ifExp (pt_cmpR op_gt (pe_c cT hr (by decide) (by rfl) (pa_cons (pv 0) (pa_cons pe_int pa_nil))) pe_int (nomark _))
      (pe_op op_add pe_int (pe_c cT hr (by decide) (by rfl) (pa_cons (pv 0) (pa_cons pe_int pa_nil)))) (pe_op op_add pe_int (pe_c cT hr (by decide) (by rfl) (pa_cons (pv 0) (pa_cons pe_int pa_nil))))))
    (pss_one (ps_ret (pe_join pe_str (pe_lc (own := [("k", 2)]) (g := gName 2) rfl scWord.nd (pi_range1 (by rfl) mR (pa_cons (pv 1) pa_nil)) (blkOk_by (N := ["box", "many", "k"]) (sc := defScope sWord) (by decide +kernel)) (fun _ _ _ _ _ => pg_name (i := 2) scWord.nd rfl (Or.inl rfl)) (fun _ _ _ _ _ => pts_nil)
      (fun _ _ _ _ _ => pe_ix ix_str pe_str (pe_c cT hr (by decide) (by rfl) (pa_cons (pv 0) (pa_cons pe_int pa_nil))) (fun _ _ => rfl)))))), ?_⟩
  have fin : ∀ (m : Int) (z1 : Int) (H1 : Hp), 1 ≤ m → m ≤ 68 → 0 ≤ z1 → Bx H1 b z1 → Kept b H H1 → tRet (tM1 (fun x xs H Q => ∃ a p, ∃ ys : List Str, x = .str a ∧ xs = [.ref p] ∧ (SqL K H p (ys.map V.str) ∨ SqT K H p (ys.map V.str)) ∧ (ys.map (·.length)).sum + ys.length * a.length ≤ 16777216 ∧ Q (.str (Txt.join a ys)) H) (tC (.str "")) (tLc (iRng1 (tCons (tVar 1) tNil)) (gName 2) tYes (tOp rIxS (tC (.str "abcdefghijklmnopqrstuvwxyz")) (tCall spTake [] E0 (tCons (tVar 0) (tCons (tC (.int 26)) tNil)))) [2]))
      { nx := fun _ H' => Q .non H', rt := Q } [some (.ref b), some (.int m), none] H1 := by
    intro m z1 H1 m1 m2 hz1 hb1 k1
    refine ⟨⟨_, rfl⟩, _, rfl, m, rfl, by omega, by omega, fun D hD => ?_⟩
    refine lc_range (n := m.toNat) (fun i H2 => ∃ (l : List Nat) (z2 : Int), l.length = i ∧ (∀ c ∈ l, letter c) ∧ 0 ≤ z2 ∧ Bx H2 b z2 ∧ Kept b H1 H2 ∧ H2 D = some (.lst (l.map fun c => V.str (SX.S [c])))) ⟨[], z1, rfl, (fun _ h => by cases h), hz1, hb1.new hD, Kept.new hD, upd_same⟩ (fun i H2 hi hP => ?_) (fun H2 hP => ?_)
    · obtain ⟨l, z2, rfl, hl, hz2, hb2, k2, hD2⟩ := hP
      have nDb : D ≠ b := fun e => by subst e; rw [hb1] at hD; cases hD
      refine ⟨rfl, ?_⟩
      refine ⟨_, rfl, b, z2, 26, rfl, hb2, by decide, by decide, ?_⟩
      have hm := mod_lt' (z := z2) (m := 26) (by decide)
      obtain ⟨kk, hk⟩ : ∃ kk : Nat, z2 % 26 = (kk : Int) := ⟨(z2 % 26).toNat, by omega⟩
      have hk26 : kk < 26 := by omega
      refine ⟨_, z2 % 26, 97 + kk, rfl, rfl, by decide +kernel, ?_, ?_⟩
      · rw [hk, abc_eq]
        exact atI_nat (abc_at hk26)
      · have eD : (upd H2 b (.lst [.int (z2 / 26)])) D = some (.lst (l.map fun c => V.str (SX.S [c]))) := by rw [upd_ne nDb]; exact hD2
        refine ⟨_, eD, ?_, l ++ [97 + kk], z2 / 26, by simp, ?_, div_nn hz2 (by decide), ?_, ?_, ?_⟩
        · rw [List.length_map]
          exact small1000 (by omega)
        · intro c hc
          rcases List.mem_append.mp hc with h | h
          · exact hl c h
          · rw [List.mem_singleton.mp h]
            exact ⟨by omega, by omega⟩
        · unfold Bx
          rw [upd_ne nDb.symm, upd_same]
        · intro a o hab ha
          have na : a ≠ D := ne_of_none ha hD
          rw [upd_ne na, upd_ne hab]
          exact k2 a o hab ha
        · rw [upd_same, List.map_append]
          rfl
    · obtain ⟨l, z2, hlen, hl, hz2, hb2, k2, hD2⟩ := hP
      refine ⟨_, D, l.map fun c => SX.S [c], rfl, rfl, .inl (SqL.of (by rw [List.map_map]; exact hD2)), ?_, ?_⟩
      · have e1 : ((l.map fun c => SX.S [c]).map (·.length)) = l.map fun _ => 1 := by
          rw [List.map_map]
          exact List.map_congr_left fun c _ => SX.S_len [c]
        have e2 : ∀ l : List Nat, (l.map fun _ => 1).sum = l.length := by
          intro l
          induction l with
          | nil => rfl
          | cons x r ih => simp [ih]; omega
        rw [e1, e2, show (("" : Str)).length = 0 by decide +kernel]
        omega
      · have e3 : Txt.join "" (l.map fun c => SX.S [c]) = SX.S l := by
          have e := SX.join_S [] (l.map fun c => [c])
          rw [List.map_map] at e
          rw [show (("" : Str)) = SX.S [] by decide +kernel]
          refine e.trans (congrArg SX.S ?_)
          rw [joinL_nil]
          clear e hD2 hl hlen
          induction l with
          | nil => rfl
          | cons x r ih => simp [ih]
        rw [e3]
        exact q l z2 H2 ⟨by omega, by omega, hl⟩ hz2 hb2 (k1.trans k2)
  have hm6 := mod_lt' (z := z) (m := 6) (by decide)
  refine ⟨_, rfl, b, z, 6, rfl, hb, by decide, by decide, _, _, rfl, rfl, _, rfl, ?_⟩
  have z6 := div_nn hz (m := 6) (by decide)
  refine ite2 (fun e => ?_) (fun e => ?_)
  · have h8 := mod_lt' (z := z / 6) (m := 8) (by decide)
    refine ⟨_, rfl, b, z / 6, 8, rfl, upd_same, by decide, by decide, _, _, rfl, rfl, ?_⟩
    exact fin _ (z / 6 / 8) _ (by omega) (by omega) (div_nn z6 (by decide)) upd_same (Kept.upd.trans Kept.upd)
  · have h60 := mod_lt' (z := z / 6) (m := 60) (by decide)
    refine ⟨_, rfl, b, z / 6, 60, rfl, upd_same, by decide, by decide, _, _, rfl, rfl, ?_⟩
    exact fin _ (z / 6 / 60) _ (by omega) (by omega) (div_nn z6 (by decide)) upd_same (Kept.upd.trans Kept.upd)
end
end KT

namespace KT
open PySem PySem.Spec PyProof.Rows L2
open C8 (Cal pe_c)
section
variable {X : Cx}
theorem op_repS : OpR X (binaryOp .Mult) (fun x y H Q => ∃ z n, x = .str z ∧ y = .int n ∧ MulOk z n ∧ Q (.str (Txt.mul z n)) H) := by
  intro pins s σ H x y v u Q I rx ry h
  obtain ⟨z, n, rfl, rfl, ok, q⟩ := h
  obtain ⟨t, rfl⟩ := rx
  obtain ⟨t', rfl⟩ := ry
  exact SB.mul ok fun t'' k => ⟨.str _, H, I.tok _, ⟨_, rfl⟩, q⟩
end
theorem mulOk1 {c : Nat} {n : Int} (h0 : -(2 ^ 63 : Int) ≤ n) (h1 : n ≤ 1000000) : MulOk (SX.S [c]) n := by
  have := @mulOk_of
  exact mulOk_of 16 1048576 (by rw [SX.S_len]; show 1 ≤ 16; decide) (by omega) h0 (by decide) (by decide)
theorem foldl_rep (c : Nat) : ∀ (k : Nat) (a : Array Nat), ((List.replicate k #[c]).foldl (· ++ ·) a) = a ++ (List.replicate k c).toArray
  | 0, a => by simp
  | k + 1, a => by
    rw [List.replicate_succ, List.foldl_cons, foldl_rep c k]
    apply Array.ext'
    simp [List.replicate_succ]
theorem mul1 {c : Nat} {n : Int} : Txt.mul (SX.S [c]) n = SX.S (List.replicate n.toNat c) := by
  unfold Txt.mul
  by_cases h : n < 1
  · rw [if_pos h, show n.toNat = 0 by omega]
    rfl
  · rw [if_neg h]
    by_cases h1 : n = 1
    · subst h1
      rfl
    · have h2 : (n == 1 || (SX.S [c]).length == 0) = false := by
        rw [SX.S_len]
        simp [h1]
      rw [h2]
      show (⟨(List.replicate n.toNat #[c]).foldl (· ++ ·) #[]⟩ : Str) = _
      rw [foldl_rep]
      simp
end KT

namespace KT
open PySem PySem.Spec PyProof.Rows L2
open C8 (Cal pe_c)
abbrev sFig : Stmt := top 17
abbrev sNum : Stmt := top 18
abbrev sInt : Stmt := top 19
theorem scFig : FnScope ["box", "many", "row", "k"] ["box"] (defScope sFig) := ⟨rfl, rfl, rfl, by decide +kernel, rfl, by decide +kernel, by decide +kernel⟩
theorem scNum : FnScope ["figures", "whole", "k", "part"] ["figures"] (defScope sNum) := ⟨rfl, rfl, rfl, by decide +kernel, rfl, by decide +kernel, by decide +kernel⟩
theorem scInt : FnScope ["box", "figures"] ["box"] (defScope sInt) := ⟨rfl, rfl, rfl, by decide +kernel, rfl, by decide +kernel, by decide +kernel⟩
/-- figures of a number, without other leading noughts than that of 0 -/
def Figs (l : List Nat) : Prop := NumText.AllDigits l ∧ (l = [48] ∨ ∃ c r, l = c :: r ∧ 49 ≤ c)
theorem Figs.ne {l : List Nat} (h : Figs l) : l ≠ [] := by
  rcases h.2 with rfl | ⟨c, r, rfl, _⟩ <;> simp
theorem Figs.num {l : List Nat} (h : Figs l) : TL.numL (NumText.digitsVal l) = l := by
  have e := NumText.toDigits_digitsVal (l.length - 1) l (by have := List.length_pos_iff.mpr h.ne; omega) h.1 (by
    rcases h.2 with rfl | h2
    · exact .inl rfl
    · exact .inr h2)
  unfold TL.numL
  rw [e, List.map_map]
  have : ∀ l : List Nat, NumText.AllDigits l → l.map (Char.toNat ∘ Char.ofNat) = l := by
    intro l
    induction l with
    | nil => intro _; rfl
    | cons c r ih =>
      intro hd
      rw [List.map_cons, ih hd.tail]
      have hc := hd.head
      have : (Char.ofNat c).toNat = c := by
        have : ∀ d : Fin 10, (Char.ofNat (48 + d.val)).toNat = 48 + d.val := by decide +kernel
        have e := this ⟨c - 48, by omega⟩
        simp only [show 48 + (c - 48) = c by omega] at e
        exact e
      show (Char.ofNat c).toNat :: r = c :: r
      rw [this]
  exact this l h.1
def spFig : Sp := fun vs H Q _ => ∃ (b : Addr) (z : Int), vs = [.ref b] ∧ Bx H b z ∧ 0 ≤ z ∧
  ∀ l z' H', Figs l → l.length ≤ 4400 → 0 ≤ z' → Bx H' b z' → Kept b H H' → Q (.str (SX.S l)) H'
def spNum : Sp := fun vs H Q _ => ∃ l : List Nat, vs = [.str (SX.S l)] ∧ NumText.AllDigits l ∧ l.length ≤ 100000 ∧ Q (.int ((NumText.digitsVal l : Nat) : Int)) H
theorem snocInd {α : Type} {P : List α → Prop} (h0 : P []) (h1 : ∀ b c, P b → P (b ++ [c])) (l : List α) : P l := by
  have : ∀ r : List α, P r.reverse := by
    intro r
    induction r with
    | nil => exact h0
    | cons x r ih =>
      rw [List.reverse_cons]
      exact h1 _ _ ih
  have e := this l.reverse
  rw [List.reverse_reverse] at e
  exact e
theorem digitsVal_app (a b : List Nat) : NumText.digitsVal (a ++ b) = NumText.digitsVal a * 10 ^ b.length + NumText.digitsVal b := by
  induction b using snocInd with
  | h0 => simp [NumText.digitsVal]
  | h1 b c ih =>
    rw [← List.append_assoc, NumText.digitsVal_snoc, ih, NumText.digitsVal_snoc, List.length_append, List.length_singleton, Nat.pow_succ]
    rw [Nat.add_mul, Nat.mul_assoc]
    omega
theorem ten_val (n : Nat) : NumText.digitsVal (49 :: List.replicate n 48) = 10 ^ n := by
  have e := digitsVal_app [49] (List.replicate n 48)
  have z : NumText.digitsVal (List.replicate n 48) = 0 := by
    induction n with
    | zero => rfl
    | succ n ih =>
      rw [List.replicate_succ, NumText.digitsVal_zero]
      exact ih (digitsVal_app [49] (List.replicate n 48))
  rw [z, List.length_replicate] at e
  have e1 : NumText.digitsVal [49] = 1 := rfl
  rw [e1] at e
  rw [show (49 :: List.replicate n 48 : List Nat) = [49] ++ List.replicate n 48 from rfl, e]
  omega
theorem ten_two (n : Nat) : 10 ^ n ≤ 2 ^ (4 * n) := by
  rw [Nat.pow_mul]
  exact Nat.pow_le_pow_left (by decide) n
theorem digitsVal_lt : ∀ l : List Nat, NumText.AllDigits l → NumText.digitsVal l < 10 ^ l.length := by
  intro l
  induction l using snocInd with
  | h0 => intro _; decide
  | h1 b c ih =>
    intro h
    have h1 := ih fun d hd => h d (List.mem_append_left _ hd)
    have h2 := h c (List.mem_append_right _ (List.mem_singleton.mpr rfl))
    rw [NumText.digitsVal_snoc, List.length_append, List.length_singleton, Nat.pow_succ]
    omega
section
variable {P : Program} {w : World} {K : PySem.W.Frag} {mg : Str → Option Value} {base : Heap} {f : Addr} {fd : FuncData}
theorem ok_num (F : Fun K "_law_number" "_law_number" sNum f fd) (mR : mg "range" = none) (mL : mg "len" = none) (mI : mg "int" = none) : FnOk P w K mg base CX0 1 f fd ["figures"] spNum := by
  refine F.ok scNum (fun vs H Q E h => ?_) (fun cdv A outer s H vs Q E hr h => ?_)
  · obtain ⟨l, rfl, _⟩ := h
    rfl
  obtain ⟨l, rfl, hd, hl, q⟩ := h
  refine ⟨_, pss_cons (ps_set (i := 1) scNum.nd rfl (Or.inl rfl) pe_int)
    (pss_cons (ps_for PassesOwn.never rfl (pi_range1 (by rfl) mR (pa_cons (pe_op op_add (pe_op op_fdiv (pe_callB call_len_str (by rfl) mL PySem.boot_len (pa_cons (pv 0) pa_nil)) pe_int) pe_int) pa_nil)) (pg_name (i := 2) scNum.nd rfl (Or.inl rfl))
      (pss_cons (ps_set (i := 3) scNum.nd rfl (Or.inl rfl) (pe_slice sl_str (pv 0) (po_some (pe_op op_mul pe_int (pv 2))) (po_some (pe_op op_add (pe_op op_mul pe_int (pv 2)) pe_int))))
      (pss_one (ps_if (pt_cmpR op_ne (pv 3) pe_str (nomark _)) (pss_one (ps_set (i := 1) scNum.nd rfl (Or.inl rfl)
        (pe_op op_add (pe_op op_mulW (pv 1) (pe_callTy call_int_str (by rfl) mI boot_int (pa_cons (pe_op op_add_str pe_str (pe_op op_repS pe_str (pe_callB call_len_str (by rfl) mL PySem.boot_len (pa_cons (pv 3) pa_nil)))) pa_nil))) (pe_callTy call_int_str (by rfl) mI boot_int (pa_cons (pv 3) pa_nil))))) pss_nil))))
    (pss_one (ps_ret (pv 1)))), ?_⟩
  have e0 : (SX.S l).length = l.length := SX.S_len l
  have hsz : (SX.S l).length ≤ sizeLine := by rw [e0]; exact Nat.le_trans hl (by decide)
  refine ⟨_, rfl, _, rfl, hsz, _, _, rfl, rfl, ⟨by decide, by decide⟩, _, _, rfl, rfl, _, rfl, ?_, ?_, ?_⟩
  · rw [e0]; omega
  · rw [e0]; omega
  rw [e0]
  refine for_range (n := ((l.length : Int) / 500 + 1).toNat) (fun i σ H' => ∃ y2 y3, σ = [some (.str (SX.S l)), some (.int ((NumText.digitsVal (l.take (500 * i)) : Nat) : Int)), y2, y3] ∧ H' = H) ⟨none, none, by rw [Nat.mul_zero, List.take_zero]; rfl, rfl⟩ (fun i σ H' hi hP => ?_) (fun σ H' hP => ?_)
  · obtain ⟨y2, y3, rfl, rfl⟩ := hP
    have ei : (0 : Int) + (i : Int) = ((i : Nat) : Int) := by omega
    have cut : cutS (SX.S l) (some (500 * ((0 : Int) + (i : Int)))) (some (500 * ((0 : Int) + (i : Int)) + 500)) = SX.S ((l.drop (500 * i)).take 500) := by
      have e1 : (500 * ((0 : Int) + (i : Int))) = ((500 * i : Nat) : Int) := by omega
      have e2 : (500 * ((0 : Int) + (i : Int)) + 500) = ((500 * i + 500 : Nat) : Int) := by omega
      rw [e2, e1]
      unfold cutS
      rw [HT.sIx_nat, HT.sIx_nat, e0]
      show SX.S ((l.drop _).take _) = _
      congr 1
      by_cases h : 500 * i ≤ l.length
      · rw [Nat.min_eq_left h]
        by_cases h2 : 500 * i + 500 ≤ l.length
        · rw [Nat.min_eq_left h2, show 500 * i + 500 - 500 * i = 500 by omega]
        · rw [Nat.min_eq_right (by omega), List.take_of_length_le (by rw [List.length_drop]; omega), List.take_of_length_le (by rw [List.length_drop]; omega)]
      · have h1 : min (500 * i) l.length = l.length := Nat.min_eq_right (by omega)
        have h2 : min (500 * i + 500) l.length = l.length := Nat.min_eq_right (by omega)
        rw [h1, h2, List.drop_eq_nil_of_le (Nat.le_refl _), List.drop_eq_nil_of_le (show l.length ≤ 500 * i by omega)]
        simp
    refine ⟨_, rfl, _, rfl, _, _, rfl, rfl, .inl ⟨by decide, by decide⟩, _, rfl, _, rfl, _, _, rfl, rfl, .inl ⟨by decide, by decide⟩, _, _, rfl, rfl, _, rfl, _, rfl, hsz, ?_⟩
    rw [cut]
    have epart : l.take (500 * (i + 1)) = l.take (500 * i) ++ (l.drop (500 * i)).take 500 := by
      rw [show 500 * (i + 1) = 500 * i + 500 by omega, List.take_add]
    generalize hp : (l.drop (500 * i)).take 500 = part at epart ⊢
    have plen : part.length ≤ 500 := by rw [← hp, List.length_take]; omega
    have pd : NumText.AllDigits part := fun d hm => hd d (by rw [← hp] at hm; exact List.mem_of_mem_drop (List.mem_of_mem_take hm))
    have ep0 : (SX.S part).length = part.length := SX.S_len part
    have psz : (SX.S part).length ≤ sizeLine := by rw [ep0]; exact Nat.le_trans plen (by decide)
    refine ⟨_, rfl, rfl, _, rfl, ?_⟩
    by_cases hne : part = []
    · subst hne
      rw [show (!decide (V.str (SX.S []) = V.str "")) = false by decide +kernel]
      refine iteF ?_
      exact ⟨_, _, by rw [epart, List.append_nil]; rfl, rfl⟩
    · have hn : (!decide (V.str (SX.S part) = V.str "")) = true := by
        rw [Bool.not_eq_true', decide_eq_false_iff_not]
        intro e
        have e2 : SX.S part = SX.S [] := V.str.inj e
        exact hne (SX.S_inj e2)
      rw [hn]
      refine iteT ?_
      have i1 : intText? (("1" : Str) ++ Txt.mul "0" ((SX.S part).length : Int)) = some (((10 ^ part.length : Nat)) : Int) := by
        rw [show (("1" : Str)) = SX.S [49] by decide +kernel, show (("0" : Str)) = SX.S [48] by decide +kernel, mul1, SX.S_cat, ep0]
        rw [SX.int_S (by
          rw [List.all_eq_true]
          intro c hc
          rcases List.mem_append.mp hc with h | h
          · rw [List.mem_singleton.mp h]; decide
          · rw [List.eq_of_mem_replicate h]; decide) (by simp) (by simp; omega)]
        rw [show [49] ++ List.replicate ((part.length : Int)).toNat 48 = 49 :: List.replicate part.length 48 by simp, ten_val]
      have i2 : intText? (SX.S part) = some ((NumText.digitsVal part : Nat) : Int) := SX.int_S (by
          rw [List.all_eq_true]
          intro c hc
          have := pd c hc
          simp [this]) hne (by omega)
      have l1 : (("1" : Str) ++ Txt.mul "0" ((SX.S part).length : Int)).length ≤ 640 := by
        rw [show (("1" : Str)) = SX.S [49] by decide +kernel, show (("0" : Str)) = SX.S [48] by decide +kernel, mul1, SX.S_cat, ep0, SX.S_len]
        simp
        omega
      refine ⟨_, rfl, _, rfl, _, rfl, psz, _, _, rfl, rfl, ?_, _, _, rfl, rfl, ?_, _, _, rfl, i1, l1, _, _, rfl, rfl, ?_, _, rfl, _, _, rfl, i2, by omega, _, _, rfl, rfl, some (.int ((0 : Int) + (i : Int))), some (.str (SX.S part)), ?_, rfl⟩
      · rw [show (("0" : Str)) = SX.S [48] by decide +kernel]
        exact mulOk1 (by omega) (by omega)
      · rw [show (("0" : Str)) = SX.S [48] by decide +kernel, show (("1" : Str)) = SX.S [49] by decide +kernel, mul1, SX.S_len, SX.S_len, List.length_replicate, ep0]
        exact Nat.le_trans (show _ ≤ 1000 by simp; omega) (by decide)
      · have b1 := digitsVal_lt (l.take (500 * i)) fun d hm => hd d (List.mem_of_mem_take hm)
        have b2 : (l.take (500 * i)).length ≤ 100000 := by rw [List.length_take]; omega
        exact wide_mul (a := 4 * 100000) (b := 4 * 500 + 1) (by
          rw [Int.natAbs_natCast]
          exact Nat.lt_of_lt_of_le b1 (Nat.le_trans (Nat.pow_le_pow_right (by decide) b2) (ten_two _))) (by
          rw [Int.natAbs_natCast]
          exact Nat.lt_of_le_of_lt (Nat.le_trans (Nat.pow_le_pow_right (by decide) plen) (ten_two _)) (Nat.pow_lt_pow_right (by decide) (by decide))) (by decide) (by decide) (by decide)
      · rw [epart, digitsVal_app]
        show [some (V.str (SX.S l)), some (V.int _), some (V.int (0 + (i : Int))), some (V.str (SX.S part))] = _
        simp
  · obtain ⟨y2, y3, rfl, rfl⟩ := hP
    refine ⟨_, rfl, ?_⟩
    rw [List.take_of_length_le (by omega)]
    exact q
end
end KT

namespace KT
open PySem PySem.Spec PyProof.Rows L2
open C8 (Cal pe_c)
theorem Bx.ne {H : Hp} {b D : Addr} {z : Int} (x : Bx H b z) (h : H D = none) : D ≠ b := fun e => by
  subst e
  rw [x] at h
  cases h
theorem figs9 {k : Nat} (h : k < 9) : ∃ m : Int, ([.int 1, .int 2, .int 3, .int 4, .int 9, .int 19, .int 41, .int 51, .int 4400] : List V)[k]? = some (.int m) ∧ 1 ≤ m ∧ m ≤ 4400 := by
  have : ∀ k : Fin 9, ∃ m : Nat, ([.int 1, .int 2, .int 3, .int 4, .int 9, .int 19, .int 41, .int 51, .int 4400] : List V)[k.val]? = some (.int (m : Int)) ∧ 1 ≤ m ∧ m ≤ 4400 := by
    intro k
    match k with
    | ⟨0, _⟩ => exact ⟨1, rfl, by decide, by decide⟩
    | ⟨1, _⟩ => exact ⟨2, rfl, by decide, by decide⟩
    | ⟨2, _⟩ => exact ⟨3, rfl, by decide, by decide⟩
    | ⟨3, _⟩ => exact ⟨4, rfl, by decide, by decide⟩
    | ⟨4, _⟩ => exact ⟨9, rfl, by decide, by decide⟩
    | ⟨5, _⟩ => exact ⟨19, rfl, by decide, by decide⟩
    | ⟨6, _⟩ => exact ⟨41, rfl, by decide, by decide⟩
    | ⟨7, _⟩ => exact ⟨51, rfl, by decide, by decide⟩
    | ⟨8, _⟩ => exact ⟨4400, rfl, by decide, by decide⟩
  obtain ⟨m, e, h1, h2⟩ := this ⟨k, h⟩
  exact ⟨m, e, by omega, by omega⟩
theorem heads3 {k : Nat} (h : k < 3) : ∃ c : Nat, ([.str "1", .str "9", .str "5"] : List V)[k]? = some (.str (SX.S [c])) ∧ 49 ≤ c ∧ c ≤ 57 := by
  have : ∀ k : Fin 3, ∃ c : Nat, ([.str "1", .str "9", .str "5"] : List V)[k.val]? = some (.str (SX.S [c])) ∧ 49 ≤ c ∧ c ≤ 57 := by
    intro k
    match k with
    | ⟨0, _⟩ => exact ⟨49, show some (V.str "1") = _ by decide +kernel, by decide, by decide⟩
    | ⟨1, _⟩ => exact ⟨57, show some (V.str "9") = _ by decide +kernel, by decide, by decide⟩
    | ⟨2, _⟩ => exact ⟨53, show some (V.str "5") = _ by decide +kernel, by decide, by decide⟩
  exact this ⟨k, h⟩
theorem toNat_of {z : Int} (h : 0 ≤ z) : ∃ k : Nat, z = (k : Int) := ⟨z.toNat, by omega⟩
theorem str1 {k : Nat} (h : k < 10) : (toString ((k : Nat) : Int) : Str) = SX.S [48 + k] := by
  have : ∀ k : Fin 10, (Str.ofString (toString ((k.val : Nat) : Int))) = SX.S [48 + k.val] := by decide +kernel
  exact this ⟨k, h⟩
/-- the items of a list of texts of one sign, joined -/
theorem join1 (l : List Nat) : Txt.join "" (l.map fun c => SX.S [c]) = SX.S l := by
  have e := SX.join_S [] (l.map fun c => [c])
  rw [List.map_map] at e
  rw [show (("" : Str)) = SX.S [] by decide +kernel]
  refine e.trans (congrArg SX.S ?_)
  rw [joinL_nil]
  clear e
  induction l with
  | nil => rfl
  | cons x r ih => simp [ih]
theorem len1 (l : List Nat) : ((l.map fun c => SX.S [c]).map (·.length)).sum = l.length := by
  have e1 : ((l.map fun c => SX.S [c]).map (·.length)) = l.map fun _ => 1 := by
    rw [List.map_map]
    exact List.map_congr_left fun c _ => SX.S_len [c]
  rw [e1]
  induction l with
  | nil => rfl
  | cons x r ih =>
    have := ih (by
      rw [List.map_map]
      exact List.map_congr_left fun c _ => SX.S_len [c])
    simp [this]
    omega
section
variable {P : Program} {w : World} {K : PySem.W.Frag} {mg : Str → Option Value} {base : Heap} {f : Addr} {fd : FuncData}
theorem ok_fig (F : Fun K "_law_figures" "_law_figures" sFig f fd) (cT : Cal P w K mg base 1 "_law_take" spTake []) (mR : mg "range" = none) (mM : mg "min" = none) (mS : mg "str" = none) (mL : mg "len" = none) : FnOk P w K mg base CX0 2 f fd ["box"] spFig := by
  refine F.ok scFig (fun vs H Q E h => ?_) (fun cdv A outer s H vs Q E hr h => ?_)
  · obtain ⟨b, z, rfl, _⟩ := h
    rfl
  obtain ⟨b, z, rfl, hb, hz, q⟩ := h
  refine ⟨_, C8.pss_cut (ps_set (i := 1) scFig.nd rfl (Or.inl rfl) (pe_ifExp (pt_cmpR op_eq (pe_c cT hr (by decide) (by rfl) (pa_cons (pv 0) (pa_cons pe_int pa_nil))) pe_int (nomark _))
      (pe_ix ix_list (pe_lst (pa_cons pe_int (pa_cons pe_int (pa_cons pe_int (pa_cons pe_int (pa_cons pe_int (pa_cons pe_int (pa_cons pe_int (pa_cons pe_int (pa_cons pe_int pa_nil)))))))))) (pe_c cT hr (by decide) (by rfl) (pa_cons (pv 0) (pa_cons pe_int pa_nil))) (fun _ _ => rfl))
      (pe_op op_add pe_int (pe_c cT hr (by decide) (by rfl) (pa_cons (pv 0) (pa_cons pe_int pa_nil))))))
    (C8.pss_cut (ps_set (i := 2) scFig.nd rfl (Or.inl rfl) (pe_join pe_str (pe_lc (own := [("k", 3)]) (g := gName 3) rfl scFig.nd (pi_range1 (by rfl) mR (pa_cons (pe_callB (call_min2 rfl) (by rfl) mM boot_min (pa_cons (pv 1) (pa_cons pe_int pa_nil))) pa_nil)) (blkOk_by (N := ["box", "many", "row", "k"]) (sc := defScope sFig) (by decide +kernel)) (fun _ _ _ _ _ => pg_name (i := 3) scFig.nd rfl (Or.inl rfl)) (fun _ _ _ _ _ => pts_nil)
      (fun _ _ _ _ _ => pe_callTy call_str_int (by rfl) mS boot_str (pa_cons (pe_c cT hr (by decide) (by rfl) (pa_cons (pv 0) (pa_cons pe_int pa_nil))) pa_nil)))))
    (C8.pss_cut (ps_set (i := 2) scFig.nd rfl (Or.inl rfl) (pe_op op_add_str (pe_op op_add_str (pe_ix ix_list (pe_lst (pa_cons pe_str (pa_cons pe_str (pa_cons pe_str pa_nil)))) (pe_c cT hr (by decide) (by rfl) (pa_cons (pv 0) (pa_cons pe_int pa_nil))) (fun _ _ => rfl)) (pe_slice C8.sl_txt (pv 2) (po_some pe_int) po_none))
      (pe_op op_repS pe_str (pe_op op_sub (pv 1) (pe_callB call_len_str (by rfl) mL PySem.boot_len (pa_cons (pv 2) pa_nil))))))
    (pss_one (ps_ret (pe_ifExp (PW.pt (pw_and (pt_cmpR op_eq (pv 1) pe_int (nomark _)) (pw_and1 (pt_cmpR op_eq (pe_c cT hr (by decide) (by rfl) (pa_cons (pv 0) (pa_cons pe_int pa_nil))) pe_int (nomark _))))) pe_str (pv 2))))))
    , ?_⟩
  have nn : ∀ {x m : Int}, 0 ≤ x → 0 < m → 0 ≤ x / m := fun h1 h2 => div_nn h1 h2
  -- many
  refine ⟨fun σ H1 => ∃ (m z1 : Int), σ = [some (.ref b), some (.int m), none, none] ∧ 1 ≤ m ∧ m ≤ 4400 ∧ 0 ≤ z1 ∧ Bx H1 b z1 ∧ Kept b H H1, ?_, ?_⟩
  · refine ⟨_, rfl, b, z, 12, rfl, hb, by decide, by decide, rfl, _, rfl, ?_⟩
    have z1 := nn hz (show (0 : Int) < 12 by decide)
    refine ite2 (fun e => ?_) (fun e => ?_)
    · refine ⟨by show 9 ≤ sizeLine; decide, fun p hp => ?_⟩
      have hb1 : Bx (upd H b (.lst [.int (z / 12)])) b (z / 12) := upd_same
      have npb := hb1.ne hp
      obtain ⟨k, ek⟩ := toNat_of (mod_lt' (z := z / 12) (m := 9) (by decide)).1
      have k9 := (mod_lt' (z := z / 12) (m := 9) (by decide)).2
      obtain ⟨m, em, m1, m2⟩ := figs9 (k := k) (by omega)
      refine ⟨_, rfl, b, z / 12, 9, rfl, hb1.new hp, by decide, by decide, p, _, (k : Int), .int m, rfl, by rw [ek], .inl (.inl ?_), atI_nat em, m, z / 12 / 9, rfl, m1, m2, nn z1 (by decide), upd_same, ?_⟩
      · rw [upd_ne npb, upd_same]
      · exact (Kept.upd.trans (Kept.new hp)).trans Kept.upd
    · have h12 := mod_lt' (z := z / 12) (m := 12) (by decide)
      refine ⟨_, rfl, b, z / 12, 12, rfl, upd_same, by decide, by decide, _, _, rfl, rfl, _, z / 12 / 12, rfl, by omega, by omega, nn z1 (by decide), upd_same, Kept.upd.trans Kept.upd⟩
  rintro σ H1 ⟨m, z1, rfl, m1, m2, hz1, hb1, k1⟩
  -- the figures
  refine ⟨fun σ H2 => ∃ (l : List Nat) (z2 : Int) (y : Option V), σ = [some (.ref b), some (.int m), some (.str (SX.S l)), y] ∧ NumText.AllDigits l ∧ 1 ≤ l.length ∧ (l.length : Int) ≤ m ∧ 0 ≤ z2 ∧ Bx H2 b z2 ∧ Kept b H H2, ?_, ?_⟩
  · refine ⟨⟨_, rfl⟩, _, rfl, _, _, rfl, ?_⟩
    have e40 : (if (40 : Int) < m then (40 : Int) else m) = min m 40 := by split <;> omega
    refine ⟨min m 40, by rw [← e40], by omega, by omega, fun D hD => ?_⟩
    have nDb := hb1.ne hD
    refine lc_range (n := (min m 40).toNat) (fun i H2 => ∃ (l : List Nat) (z2 : Int), l.length = i ∧ NumText.AllDigits l ∧ 0 ≤ z2 ∧ Bx H2 b z2 ∧ Kept b H1 H2 ∧ H2 D = some (.lst (l.map fun c => V.str (SX.S [c])))) ⟨[], z1, rfl, (fun _ h => by cases h), hz1, hb1.new hD, Kept.new hD, upd_same⟩ (fun i H2 hi hP => ?_) (fun H2 hP => ?_)
    · obtain ⟨l, z2, rfl, hl, hz2, hb2, k2, hD2⟩ := hP
      refine ⟨rfl, ?_⟩
      have hm := mod_lt' (z := z2) (m := 10) (by decide)
      obtain ⟨kk, hk⟩ := toNat_of hm.1
      have hk10 : kk < 10 := by omega
      refine ⟨_, rfl, b, z2, 10, rfl, hb2, by decide, by decide, z2 % 10, rfl, ?_, ?_⟩
      · rw [hk, Int.natAbs_natCast]
        exact Nat.lt_of_le_of_lt (Nat.log2_le_self kk) (by omega)
      · have eD : (upd H2 b (.lst [.int (z2 / 10)])) D = some (.lst (l.map fun c => V.str (SX.S [c]))) := by rw [upd_ne nDb]; exact hD2
        refine ⟨_, eD, ?_, l ++ [48 + kk], z2 / 10, by simp, ?_, div_nn hz2 (by decide), ?_, ?_, ?_⟩
        · rw [List.length_map]
          exact small1000 (by omega)
        · intro c hc
          rcases List.mem_append.mp hc with h | h
          · exact hl c h
          · rw [List.mem_singleton.mp h]
            exact ⟨by omega, by omega⟩
        · unfold Bx
          rw [upd_ne nDb.symm, upd_same]
        · intro a o hab ha
          have na : a ≠ D := ne_of_none ha hD
          rw [upd_ne na, upd_ne hab]
          exact k2 a o hab ha
        · rw [upd_same, List.map_append, hk, str1 hk10]
          rfl
    · obtain ⟨l, z2, hlen, hl, hz2, hb2, k2, hD2⟩ := hP
      refine ⟨_, D, l.map fun c => SX.S [c], rfl, rfl, .inl (SqL.of (by rw [List.map_map]; exact hD2)), ?_, l, z2, none, ?_, hl, by omega, by omega, hz2, hb2, k1.trans k2⟩
      · rw [len1, List.length_map, show (("" : Str)).length = 0 by decide +kernel]
        omega
      · rw [join1]
        rfl
  rintro σ H2 ⟨l, z2, y, rfl, hl, l1, l2, hz2, hb2, k2⟩
  -- the row
  refine ⟨fun σ H3 => ∃ (l : List Nat) (z3 : Int) (y : Option V), σ = [some (.ref b), some (.int m), some (.str (SX.S l)), y] ∧ Figs l ∧ (l.length : Int) = m ∧ 0 ≤ z3 ∧ Bx H3 b z3 ∧ Kept b H H3, ?_, ?_⟩
  · have e0 : (SX.S l).length = l.length := SX.S_len l
    have hsz : (SX.S l).length ≤ sizeLine := by rw [e0]; exact Nat.le_trans (show l.length ≤ 4400 by omega) (by decide)
    refine ⟨by show 3 ≤ sizeLine; decide, fun p hp => ?_⟩
    have npb := hb2.ne hp
    obtain ⟨k, ek⟩ := toNat_of (mod_lt' (z := z2) (m := 3) (by decide)).1
    have k3 := (mod_lt' (z := z2) (m := 3) (by decide)).2
    obtain ⟨c, ec, c1, c2⟩ := heads3 (k := k) (by omega)
    refine ⟨_, rfl, b, z2, 3, rfl, hb2.new hp, by decide, by decide, p, _, (k : Int), _, rfl, by rw [ek], .inl (.inl ?_), atI_nat ec, ?_⟩
    · rw [upd_ne npb, upd_same]
    have es : Txt.slice (SX.S l) (some 1) none = SX.S (l.drop 1) := SX.slice_from (a := l) (i := 1) (by decide)
    refine ⟨_, rfl, 1, rfl, _, rfl, hsz, ?_⟩
    rw [es]
    refine ⟨_, _, rfl, rfl, ?_, ?_⟩
    · rw [SX.S_len, SX.S_len, List.length_drop]
      exact Nat.le_trans (show _ ≤ 4401 by simp; omega) (by decide)
    rw [SX.S_cat]
    refine ⟨_, rfl, _, rfl, _, rfl, hsz, _, _, rfl, rfl, _, _, rfl, rfl, ?_, _, _, rfl, rfl, ?_, ?_⟩
    · rw [show (("0" : Str)) = SX.S [48] by decide +kernel, e0]
      exact mulOk1 (by omega) (by omega)
    · rw [show (("0" : Str)) = SX.S [48] by decide +kernel, mul1, SX.S_len, SX.S_len, e0, List.length_replicate]
      exact Nat.le_trans (show _ ≤ 8900 by simp; omega) (by decide)
    rw [show (("0" : Str)) = SX.S [48] by decide +kernel, mul1, SX.S_cat, e0]
    refine ⟨[c] ++ l.drop 1 ++ List.replicate (m - (l.length : Int)).toNat 48, z2 / 3, y, rfl, ⟨?_, .inr ⟨c, _, rfl, c1⟩⟩, ?_, nn hz2 (by decide), upd_same, (k2.trans (Kept.new hp)).trans Kept.upd⟩
    · intro d hd
      rcases List.mem_append.mp hd with h | h
      · rcases List.mem_append.mp h with h | h
        · rw [List.mem_singleton.mp h]
          omega
        · exact hl d (List.mem_of_mem_drop h)
      · rw [List.eq_of_mem_replicate h]
        decide
    · simp
      omega
  rintro σ H3 ⟨l, z3, y, rfl, hl, hlm, hz3, hb3, k3⟩
  -- the end
  refine ⟨_, rfl, rfl, _, rfl, ?_⟩
  have last : ∀ z4 H4, 0 ≤ z4 → Bx H4 b z4 → Kept b H H4 → tVar 2 [some (.ref b), some (.int m), some (.str (SX.S l)), y] H4 Q := fun z4 H4 h1 h2 h3 => ⟨_, rfl, q l z4 H4 hl (by omega) h1 h2 h3⟩
  refine ite2 (fun e => ?_) (fun e => ?_)
  · refine ⟨_, rfl, b, z3, 3, rfl, hb3, by decide, by decide, rfl, _, rfl, ?_⟩
    have z4 := nn hz3 (show (0 : Int) < 3 by decide)
    refine ite2 (fun e => ?_) (fun e => ?_)
    · have e2 := q [48] (z3 / 3) (upd H3 b (.lst [.int (z3 / 3)])) ⟨(fun d hd => by rw [List.mem_singleton.mp hd]; decide), .inl rfl⟩ (by decide) z4 upd_same (k3.trans Kept.upd)
      rw [show SX.S [48] = (("0" : Str)) by decide +kernel] at e2
      exact e2
    · exact last _ _ z4 upd_same (k3.trans Kept.upd)
  · exact last _ _ hz3 hb3 k3
end
end KT

namespace KT
open PySem PySem.Spec PyProof.Rows L2
open C8 (Cal pe_c)
/-- the text of a whole number -/
def intL (n : Int) : List Nat := if n < 0 then 45 :: TL.numL n.natAbs else TL.numL n.natAbs
theorem str_int (n : Int) : (toString n : Str) = SX.S (intL n) := by
  unfold intL
  by_cases h : n < 0
  · rw [if_pos h]
    have e := PyProof.Rows.toString_neg h
    obtain ⟨k, hk⟩ : ∃ k : Nat, 0 - n = (k : Int) := ⟨n.natAbs, by omega⟩
    rw [hk] at e
    have ek : n.natAbs = k := by omega
    rw [ek]
    show Str.ofString (toString n) = _
    rw [e]
    have ea : ∀ a b : String, Str.ofString (a ++ b) = Str.ofString a ++ Str.ofString b := by
      intro a b
      rw [Str.ofString_eq_toList, Str.ofString_eq_toList, Str.ofString_eq_toList]
      refine TL.ext_tl ?_
      rw [TL.tl_append]
      simp [TL.tl]
    rw [ea, SX.num_S k]
    rw [show Str.ofString "-" = SX.S [45] by decide +kernel, SX.S_cat]
    rfl
  · rw [if_neg h]
    obtain ⟨k, rfl⟩ := toNat_of (show 0 ≤ n by omega)
    rw [Int.natAbs_natCast]
    exact SX.num_S k
/-- what is written and read: words, whole numbers, tuples of these -/
inductive Dat where
  | str (l : List Nat) | int (n : Int) | tup (ds : List Dat)
mutual
def Dat.txt : Dat → List Nat
  | .str l => l
  | .int n => intL n
  | .tup ds => 40 :: (TL.joinL [32] (txts ds) ++ [41])
def txts : List Dat → List (List Nat)
  | [] => []
  | d :: r => d.txt :: txts r
end
theorem txts_map : ∀ ds : List Dat, txts ds = ds.map Dat.txt
  | [] => by simp [txts]
  | d :: r => by simp [txts, txts_map r]
theorem txt_tup (ds : List Dat) : (Dat.tup ds).txt = 40 :: (TL.joinL [32] (ds.map Dat.txt) ++ [41]) := by
  rw [Dat.txt, txts_map]
/-- v is the value d, at most n tuples deep; L tells of what is no tuple -/
def Leaf (v : V) (d : Dat) : Prop := (∃ l, v = .str (SX.S l) ∧ d = .str l) ∨ ∃ n, v = .int n ∧ d = .int n
def DStep (L : V → Dat → Prop) (H : Hp) (R : V → Dat → Prop) (v : V) (d : Dat) : Prop := L v d ∨ ∃ p xs ds, v = .ref p ∧ H p = some (.tup xs) ∧ d = .tup ds ∧ Paired R xs ds
def DVL (L : V → Dat → Prop) (H : Hp) (n : Nat) : V → Dat → Prop := Nat.rec (motive := fun _ => V → Dat → Prop) L (fun _ R => DStep L H R) n
abbrev DV : Hp → Nat → V → Dat → Prop := DVL Leaf
section
variable {L L' : V → Dat → Prop} {H H' : Hp}
theorem DVL.leaf {v : V} {d : Dat} (h : L v d) : ∀ n, DVL L H n v d
  | 0 => h
  | _ + 1 => Or.inl h
theorem DVL.tup {n : Nat} {p : Addr} {xs : List V} {ds : List Dat} (h : H p = some (.tup xs)) (r : Paired (DVL L H n) xs ds) : DVL L H (n + 1) (.ref p) (.tup ds) := Or.inr ⟨p, xs, ds, rfl, h, rfl, r⟩
theorem DVL.cases {n : Nat} {v : V} {d : Dat} (h : DVL L H (n + 1) v d) : L v d ∨ ∃ p xs ds, v = .ref p ∧ H p = some (.tup xs) ∧ d = .tup ds ∧ Paired (DVL L H n) xs ds := h
theorem DVL.up : ∀ {n : Nat} {v : V} {d : Dat}, DVL L H n v d → DVL L H (n + 1) v d
  | 0, _, _, h => Or.inl h
  | n + 1, v, d, h => by
    rcases h.cases with h | ⟨p, xs, ds, e1, e2, e3, r⟩
    · exact Or.inl h
    · exact Or.inr ⟨p, xs, ds, e1, e2, e3, Paired.mono (fun _ _ z => DVL.up z) r⟩
theorem DVL.mono {n m : Nat} {v : V} {d : Dat} (h : DVL L H n v d) (le : n ≤ m) : DVL L H m v d := by
  induction le with
  | refl => exact h
  | step _ ih => exact ih.up
/-- tuples stand still -/
def Tups (H H' : Hp) : Prop := ∀ p xs, H p = some (.tup xs) → H' p = some (.tup xs)
theorem Tups.trans {H1 : Hp} (a : Tups H H1) (b : Tups H1 H') : Tups H H' := fun p xs h => b p xs (a p xs h)
theorem DVL.keep (k : Tups H H') (hL : ∀ v d, L v d → L' v d) : ∀ {n : Nat} {v : V} {d : Dat}, DVL L H n v d → DVL L' H' n v d
  | 0, _, _, h => hL _ _ h
  | n + 1, v, d, h => by
    rcases h.cases with h | ⟨p, xs, ds, e1, e2, e3, r⟩
    · exact Or.inl (hL _ _ h)
    · exact Or.inr ⟨p, xs, ds, e1, k _ _ e2, e3, Paired.mono (fun _ _ z => DVL.keep k hL z) r⟩
end
theorem Kept.tups {b : Addr} {H H' : Hp} {z : Int} (x : Bx H b z) (k : Kept b H H') : Tups H H' := fun p xs h => k p _ (fun e => by
  subst e
  rw [x] at h
  cases h) h
theorem Same.tups {H H' : Hp} (k : Same H H') : Tups H H' := fun p xs h => k p _ h
def spInt : Sp := fun vs H Q _ => ∃ (b : Addr) (z : Int), vs = [.ref b] ∧ Bx H b z ∧ 0 ≤ z ∧
  ∀ n z' p H', (intL n).length ≤ 4401 → 0 ≤ z' → Bx H' b z' → Kept b H H' → H' p = some (.tup [.int n, .str (SX.S (intL n))]) → Q (.ref p) H'
section
variable {P : Program} {w : World} {K : PySem.W.Frag} {mg : Str → Option Value} {base : Heap} {f : Addr} {fd : FuncData}
theorem figs_pos {l : List Nat} (h : Figs l) (h0 : l ≠ [48]) : 0 < NumText.digitsVal l := by
  rcases h.2 with e | ⟨c, r, rfl, h2⟩
  · exact absurd e h0
  · exact NumText.digitsVal_pos h2
theorem figs_int {l : List Nat} (h : Figs l) : intL ((NumText.digitsVal l : Nat) : Int) = l := by
  unfold intL
  rw [if_neg (by omega), Int.natAbs_natCast, h.num]
theorem figs_neg {l : List Nat} (h : Figs l) (h0 : l ≠ [48]) : intL (-((NumText.digitsVal l : Nat) : Int)) = 45 :: l := by
  have hp := figs_pos h h0
  unfold intL
  rw [if_pos (by omega), Int.natAbs_neg, Int.natAbs_natCast, h.num]
theorem ok_int (F : Fun K "_law_integer" "_law_integer" sInt f fd) (cT : Cal P w K mg base 1 "_law_take" spTake []) (cF : Cal P w K mg base 2 "_law_figures" spFig []) (cN : Cal P w K mg base 1 "_law_number" spNum []) : FnOk P w K mg base CX0 3 f fd ["box"] spInt := by
  refine F.ok scInt (fun vs H Q E h => ?_) (fun cdv A outer s H vs Q E hr h => ?_)
  · obtain ⟨b, z, rfl, _⟩ := h
    rfl
  obtain ⟨b, z, rfl, hb, hz, q⟩ := h
  refine ⟨_, pss_cons (ps_set (i := 1) scInt.nd rfl (Or.inl rfl) (pe_c cF hr (by decide) (by rfl) (pa_cons (pv 0) pa_nil)))
    (pss_cons (ps_if (PW.pt (pw_and (pt_cmpR op_ne (pv 1) pe_str (nomark _)) (pw_and1 (pt_cmpR op_eq (pe_c cT hr (by decide) (by rfl) (pa_cons (pv 0) (pa_cons pe_int pa_nil))) pe_int (nomark _)))))
      (pss_one (ps_ret (pe_tup (pa_cons (pe_un un_neg (pe_c cN hr (by decide) (by rfl) (pa_cons (pv 1) pa_nil))) (pa_cons (pe_op op_add_str pe_str (pv 1)) pa_nil))))) pss_nil)
    (pss_one (ps_ret (pe_tup (pa_cons (pe_c cN hr (by decide) (by rfl) (pa_cons (pv 1) pa_nil)) (pa_cons (pv 1) pa_nil)))))), ?_⟩
  refine ⟨_, rfl, b, z, rfl, hb, hz, fun l z1 H1 hl l2 hz1 hb1 k1 => ?_⟩
  have l3 : l.length ≤ 100000 := by omega
  have plain : ∀ z2 H2, 0 ≤ z2 → Bx H2 b z2 → Kept b H H2 → (tRet (tTup (tCons (tCall spNum [] E0 (tCons (tVar 1) tNil)) (tCons (tVar 1) tNil)))) { nx := fun _ H' => Q .non H', rt := Q } [some (.ref b), some (.str (SX.S l))] H2 := by
    intro z2 H2 h1 h2 h3
    refine ⟨_, rfl, l, rfl, hl.1, l3, _, rfl, by show 2 ≤ sizeLine; decide, fun p hp => ?_⟩
    refine q ((NumText.digitsVal l : Nat) : Int) z2 p _ (by rw [figs_int hl]; omega) h1 (h2.new hp) (h3.trans (Kept.new hp)) ?_
    rw [upd_same, figs_int hl] <;> rfl
  refine ⟨_, rfl, rfl, _, rfl, ?_⟩
  refine ite2 (fun e => ?_) (fun e => ?_)
  · have h0 : l ≠ [48] := fun e0 => by
      subst e0
      revert e
      decide +kernel
    refine ⟨_, rfl, b, z1, 3, rfl, hb1, by decide, by decide, rfl, _, rfl, ?_⟩
    have z2 := div_nn hz1 (show (0 : Int) < 3 by decide)
    refine ite2 (fun e => ?_) (fun e => ?_)
    · refine ⟨_, rfl, l, rfl, hl.1, l3, _, rfl, _, rfl, _, _, rfl, rfl, ?_, by show 2 ≤ sizeLine; decide, fun p hp => ?_⟩
      · rw [show (("-" : Str)) = SX.S [45] by decide +kernel, SX.S_len, SX.S_len]
        exact Nat.le_trans (show _ ≤ 4401 by simp; omega) (by decide)
      refine q (-((NumText.digitsVal l : Nat) : Int)) (z1 / 3) p _ (by rw [figs_neg hl h0]; simp; omega) z2 (Bx.new (z := z1 / 3) upd_same hp) ((k1.trans Kept.upd).trans (Kept.new hp)) ?_
      rw [upd_same, figs_neg hl h0, show (("-" : Str)) = SX.S [45] by decide +kernel, SX.S_cat] <;> rfl
    · exact plain _ _ z2 upd_same (k1.trans Kept.upd)
  · exact plain _ _ hz1 hb1 k1
end
end KT

namespace KT
open PySem PySem.Spec PyProof.Rows L2
open C8 (Cal pe_c)
abbrev sPlain : Stmt := top 21
theorem scPlain : FnScope ["value", "part"] ["value"] (defScope sPlain) := ⟨rfl, rfl, rfl, by decide +kernel, rfl, by decide +kernel, by decide +kernel⟩
/-- words, and whole numbers that are not great -/
def Small (v : V) (d : Dat) : Prop := (∃ l, v = .str (SX.S l) ∧ d = .str l) ∨ ∃ n : Int, v = .int n ∧ d = .int n ∧ n.natAbs < 2 ^ 60
theorem Small.leaf {v : V} {d : Dat} (h : Small v d) : Leaf v d := by
  rcases h with h | ⟨n, h1, h2, _⟩
  · exact .inl h
  · exact .inr ⟨n, h1, h2⟩
/-- the text of a value is told; what was tracked stands as before -/
def spText (L : V → Dat → Prop) (n : Nat) : Sp := fun vs H Q _ => ∃ (v : V) (d : Dat), vs = [v] ∧ DVL L H n v d ∧ d.txt.length ≤ 10000000 ∧ ∀ H', Same H H' → Q (.str (SX.S d.txt)) H'
theorem Same.upd_new {H : Hp} {p : Addr} {o : HO} (h : H p = none) : Same H (upd H p o) := fun b u e => by
  rw [upd_ne (ne_of_none e h)]
  exact e
theorem joinL_len : ∀ ys : List (List Nat), (TL.joinL [32] ys).length + 1 = (ys.map (·.length)).sum + ys.length + (if ys = [] then 1 else 0)
  | [] => rfl
  | [x] => by simp [TL.joinL]
  | x :: y :: r => by
    have ih := joinL_len (y :: r)
    have e : TL.joinL [32] (x :: y :: r) = x ++ ([32] ++ TL.joinL [32] (y :: r)) := rfl
    rw [e]
    simp at ih ⊢
    omega
theorem join_dat (ds : List Dat) : Txt.join " " (ds.map fun d => SX.S d.txt) = SX.S (TL.joinL [32] (ds.map Dat.txt)) := by
  have e := SX.join_S [32] (ds.map Dat.txt)
  rw [List.map_map] at e
  rw [show ((" " : Str)) = SX.S [32] by decide +kernel]
  exact e
theorem sum_le : ∀ {l : List Nat} {x : Nat}, x ∈ l → x ≤ l.sum
  | y :: r, x, h => by
    rw [List.sum_cons]
    rcases List.mem_cons.mp h with e | h
    · omega
    · have := sum_le h
      omega
theorem txt_bounds (ds : List Dat) : ((ds.map Dat.txt).map (·.length)).sum + ds.length ≤ (Dat.tup ds).txt.length ∧ ∀ d ∈ ds, d.txt.length ≤ (Dat.tup ds).txt.length := by
  have e := joinL_len (ds.map Dat.txt)
  rw [txt_tup]
  simp only [List.length_cons, List.length_append, List.length_map, List.length_nil] at e ⊢
  have h1 : ((ds.map Dat.txt).map (·.length)).sum + ds.length ≤ (TL.joinL [32] (ds.map Dat.txt)).length + (0 + 1) + 1 := by
    split at e <;> omega
  refine ⟨h1, fun d hd => ?_⟩
  have : d.txt.length ≤ ((ds.map Dat.txt).map (·.length)).sum := by
    refine sum_le ?_
    rw [List.map_map]
    exact List.mem_map.mpr ⟨d, hd, rfl⟩
  omega
theorem Paired.at {α β : Type} {F : α → β → Prop} : ∀ {l : List α} {m : List β} {i : Nat} {x : α}, Paired F l m → l[i]? = some x → ∃ y, m[i]? = some y ∧ F x y
  | _, _, 0, _, .cons h _, e => by
    simp at e
    subst e
    exact ⟨_, rfl, h⟩
  | _, _, i + 1, _, .cons _ t, e => by
    obtain ⟨y, h1, h2⟩ := Paired.at (i := i) t (by simpa using e)
    exact ⟨y, by simpa using h1, h2⟩
section
variable {P : Program} {w : World} {K : PySem.W.Frag} {mg : Str → Option Value} {base : Heap} {f : Addr} {fd : FuncData}
theorem ok_plain (F : Fun K "_law_plain" "_law_plain" sPlain f fd) (mI : mg "isinstance" = none) (mS : mg "str" = none) (mN : mg "int" = none) (gP : mg "_law_plain" = some (.ref f)) (bP : Binds K fd ["value"] []) :
    ∀ n, FnOk P w K mg base CX0 (n + 1) f fd ["value"] (spText Small n) := by
  have body : ∀ n, (∀ k, n = k + 1 → FnOk P w K mg base CX0 (k + 1) f fd ["value"] (spText Small k)) → FnOk P w K mg base CX0 (n + 1) f fd ["value"] (spText Small n) := by
    intro n ih
    refine F.ok scPlain (fun vs H Q E h => ?_) (fun cdv A outer s H vs Q E hr h => ?_)
    · obtain ⟨v, d, rfl, _⟩ := h
      rfl
    obtain ⟨v, d, rfl, hd, hl, q⟩ := h
    have leaf : Small v d → ∃ t, PSs (cxOf CX0 P w K mg base ["value", "part"] "_law_plain" (defScope sPlain) f cdv A outer s H E).nox (defBody sPlain) t ∧ t { nx := fun _ H' => Q .non H', rt := Q } (start ["value", "part"] [v]) H := by
      intro hs
      refine ⟨_, pss_cons (ps_if (pt_val (pe_callB call_isi (by rfl) mI boot_isinstance (pa_cons (pv 0) (pa_cons (pe_bltn (v := .ty "str") (by rfl) mS boot_str rfl) pa_nil)))) (pss_one (ps_ret (pv 0))) pss_nil)
        (pss_cons (ps_if (pt_val (pe_callB call_isi (by rfl) mI boot_isinstance (pa_cons (pv 0) (pa_cons (pe_bltn (v := .ty "int") (by rfl) mN boot_int rfl) pa_nil)))) (pss_one (ps_ret (pe_callTy call_str_int (by rfl) mS boot_str (pa_cons (pv 0) pa_nil)))) pss_nil)
        pss_never), ?_⟩
      rcases hs with ⟨l, rfl, rfl⟩ | ⟨i, rfl, rfl, hi⟩
      · refine ⟨_, rfl, _, _, _, _, true, rfl, .ty _, .base (.str _), kit_ty (by decide +kernel), _, rfl, ?_⟩
        exact ⟨_, rfl, q H (Same.refl H)⟩
      · refine ⟨_, rfl, _, _, _, _, false, rfl, .ty _, .base (.int _), kit_ty (by decide +kernel), _, rfl, ?_⟩
        refine ⟨_, rfl, _, _, _, _, true, rfl, .ty _, .base (.int _), kit_ty (by decide +kernel), _, rfl, ?_⟩
        refine ⟨_, rfl, i, rfl, ?_, ?_⟩
        · by_cases h0 : i.natAbs = 0
          · rw [h0]; decide
          · exact Nat.lt_trans ((Nat.log2_lt h0).mpr hi) (by decide)
        · rw [str_int]
          exact q H (Same.refl H)
    cases n with
    | zero => exact leaf hd
    | succ n =>
      rcases hd.cases with hs | ⟨p, xs, ds, rfl, hp, rfl, r⟩
      · exact leaf hs
      have cP : Cal P w K mg base (n + 1) "_law_plain" (spText Small n) [] := ⟨f, fd, _, _, ih n rfl, gP, F.kp, bP, .nil⟩
      refine ⟨_, pss_cons (ps_if (pt_val (pe_callB call_isi (by rfl) mI boot_isinstance (pa_cons (pv 0) (pa_cons (pe_bltn (v := .ty "str") (by rfl) mS boot_str rfl) pa_nil)))) pss_never pss_nil)
        (pss_cons (ps_if (pt_val (pe_callB call_isi (by rfl) mI boot_isinstance (pa_cons (pv 0) (pa_cons (pe_bltn (v := .ty "int") (by rfl) mN boot_int rfl) pa_nil)))) pss_never pss_nil)
        (pss_one (ps_ret (pe_op op_add_str (pe_op op_add_str pe_str (pe_join pe_str (pe_lc (own := [("part", 1)]) (g := gName 1) rfl scPlain.nd (pi_tup (pv 0)) (blkOk_by (N := ["value", "part"]) (sc := defScope sPlain) (by decide +kernel)) (fun _ _ _ _ _ => pg_name (i := 1) scPlain.nd rfl (Or.inl rfl)) (fun _ _ _ _ _ => pts_nil)
          (fun _ _ _ _ _ => pe_c cP hr (Nat.le_refl _) (by rfl) (pa_cons (pv 1) pa_nil))))) pe_str)))), ?_⟩
      obtain ⟨hsum, hone⟩ := txt_bounds ds
      have hlen := r.length
      refine ⟨_, rfl, _, _, _, _, false, rfl, .ty _, .base (.tup hp), kit_ty (by decide +kernel), _, rfl, ?_⟩
      refine ⟨_, rfl, _, _, _, _, false, rfl, .ty _, .base (.tup hp), kit_ty (by decide +kernel), _, rfl, ?_⟩
      have hT : SqT K H p xs := .inl (.inl hp)
      refine ⟨⟨_, rfl⟩, _, rfl, p, rfl, ⟨_, hT⟩, fun D hD => ?_⟩
      refine lc_tup (xs := xs) (fun i H1 => Same H H1 ∧ H1 D = some (.lst ((ds.take i).map fun d => V.str (SX.S d.txt)))) ⟨Same.upd_new hD, upd_same⟩ (fun i H1 _ hP => .inl (.inl (hP.1 _ _ hp))) (fun i x H1 hx hP => ?_) (fun H1 hP => ?_)
      · obtain ⟨s1, hD1⟩ := hP
        obtain ⟨d, hd1, hd2⟩ := Paired.at r hx
        refine ⟨rfl, ?_⟩
        refine ⟨_, rfl, x, d, rfl, DVL.keep (KT.Same.tups s1) (fun _ _ h => h) hd2, Nat.le_trans (hone d (List.mem_of_getElem? hd1)) hl, fun H2 s2 => ?_⟩
        have hD2 := s2 _ _ hD1
        refine ⟨_, hD2, ?_, ?_, ?_⟩
        · rw [List.length_map, List.length_take]
          exact Nat.lt_of_le_of_lt (show _ ≤ 10000000 by omega) (by decide)
        · intro a o ha
          have na : a ≠ D := ne_of_none ha hD
          rw [upd_ne na]
          exact s2 _ _ (s1 _ _ ha)
        · rw [upd_same, List.take_add_one, hd1, List.map_append]
          rfl
      · obtain ⟨s1, hD1⟩ := hP
        rw [List.take_of_length_le (by omega)] at hD1
        refine ⟨_, D, ds.map fun d => SX.S d.txt, rfl, rfl, .inl (SqL.of (by rw [List.map_map]; exact hD1)), ?_, ?_⟩
        · have e : ((ds.map fun d => SX.S d.txt).map (·.length)) = (ds.map Dat.txt).map (·.length) := by
            rw [List.map_map, List.map_map]
            exact List.map_congr_left fun d _ => SX.S_len d.txt
          rw [e, List.length_map, show ((" " : Str)).length = 1 by decide +kernel]
          omega
        · have et := txt_tup ds
          have el : (TL.joinL [32] (ds.map Dat.txt)).length + 2 = (Dat.tup ds).txt.length := by
            rw [et]
            simp
          rw [join_dat]
          refine ⟨_, _, rfl, rfl, ?_, _, _, rfl, rfl, ?_, ?_⟩
          · rw [show (("(" : Str)) = SX.S [40] by decide +kernel, SX.S_len, SX.S_len]
            exact Nat.le_trans (show _ ≤ 10000000 by simp; omega) (by decide)
          · rw [show (("(" : Str)) = SX.S [40] by decide +kernel, show ((")" : Str)) = SX.S [41] by decide +kernel, SX.S_cat, SX.S_len, SX.S_len]
            exact Nat.le_trans (show _ ≤ 10000000 by simp; omega) (by decide)
          · rw [show (("(" : Str)) = SX.S [40] by decide +kernel, show ((")" : Str)) = SX.S [41] by decide +kernel, SX.S_cat, SX.S_cat]
            have e := q H1 s1
            rw [et] at e
            exact e
  intro n
  induction n with
  | zero => exact body 0 fun k e => by cases e
  | succ n ih =>
    refine body (n + 1) fun k e => ?_
    have : n = k := by omega
    subst this
    exact ih
end
end KT

namespace KT
open PySem PySem.Spec PyProof.Rows L2
open C8 (Cal pe_c)
abbrev sSamp : Stmt := top 20
theorem scSamp : FnScope ["box", "name", "rows"] ["box"] (defScope sSamp) := ⟨rfl, rfl, rfl, by decide +kernel, rfl, by decide +kernel, by decide +kernel⟩
/-! ### displays of data: words, whole numbers, the name in slot i, tuples of these -/
def tDat (i n : Nat) (d : List Nat → Dat) : TE := fun σ H Q => ∃ l, σ[i]? = some (some (.str (SX.S l))) ∧ ∀ v H', Same H H' → DVL Small H' n v (d l) → Q v H'
def tDats (i n : Nat) (ds : List Nat → List Dat) : TA := fun σ H Q => ∃ l, σ[i]? = some (some (.str (SX.S l))) ∧ ∀ vs H', Same H H' → Paired (DVL Small H' n) vs (ds l) → Q vs H'
section
variable {X : Cx} {i : Nat} {n : Nat}
theorem pe_imp {e : Expr} {t t' : TE} (h : PE X e t) (k : ∀ σ H Q, t' σ H Q → t σ H Q) : PE X e t' := ⟨fun pins s σ H Q I q => h.run pins s σ H Q I (k σ H Q q)⟩
theorem pa_imp {es : List Expr} {t t' : TA} (h : PA X es t) (k : ∀ σ H Q, t' σ H Q → t σ H Q) : PA X es t' := ⟨fun pos pins s σ H Q I q => h.run pos pins s σ H Q I (k σ H Q q)⟩
theorem pd_int {k : Int} {j : Nat} {pos : Pos} (h : k.natAbs < 2 ^ 60) : PE X (.Constant (.int k) j pos) (tDat i n fun _ => .int k) :=
  pe_imp pe_int fun σ H Q ⟨l, _, q⟩ => q _ H (Same.refl H) (DVL.leaf (.inr ⟨k, rfl, rfl, h⟩) n)
theorem pd_str {x : Str} {w : List Nat} {j : Nat} {pos : Pos} (h : x = SX.S w) : PE X (.Constant (.str x) j pos) (tDat i n fun _ => .str w) :=
  pe_imp pe_str fun σ H Q ⟨l, _, q⟩ => q _ H (Same.refl H) (DVL.leaf (.inl ⟨w, by rw [h], rfl⟩) n)
theorem pd_nm {e : Expr} (h : PE X e (tVar i)) : PE X e (tDat i n fun l => .str l) :=
  pe_imp h fun σ H Q ⟨l, e, q⟩ => ⟨_, e, q _ H (Same.refl H) (DVL.leaf (.inl ⟨l, rfl, rfl⟩) n)⟩
theorem pd_nil : PA X [] (tDats i n fun _ => []) := pa_imp pa_nil fun σ H Q ⟨_, _, q⟩ => q [] H (Same.refl H) .nil
theorem DVL.tups {L : V → Dat → Prop} {H H' : Hp} {n : Nat} {v : V} {d : Dat} (k : Same H H') (h : DVL L H n v d) : DVL L H' n v d := DVL.keep (KT.Same.tups k) (fun _ _ h => h) h
theorem str_inj {a b : List Nat} (h : some (some (V.str (SX.S a))) = some (some (V.str (SX.S b)))) : a = b := SX.S_inj (V.str.inj (Option.some.inj (Option.some.inj h)))
theorem pd_cons {e : Expr} {es : List Expr} {d : List Nat → Dat} {ds : List Nat → List Dat} (h : PE X e (tDat i n d)) (r : PA X es (tDats i n ds)) (hs : starEach (e :: es) X.env = (false, eval e X.env) :: starEach es X.env := by rfl) : PA X (e :: es) (tDats i n fun l => d l :: ds l) :=
  pa_imp (pa_cons h r hs) fun σ H Q ⟨l, el, q⟩ => ⟨l, el, fun v H1 s1 h1 => ⟨l, el, fun vs H2 s2 h2 => q _ H2 (s1.trans s2) (.cons (DVL.tups s2 h1) h2)⟩⟩
theorem pd_tup {es : List Expr} {ds : List Nat → List Dat} {x1} {pos : Pos} (r : PA X es (tDats i n ds)) (h : ∀ l, (ds l).length ≤ 1000 := by intro _; simp) : PE X (.Tuple es x1 pos) (tDat i (n + 1) fun l => .tup (ds l)) :=
  pe_imp (pe_tup r) fun σ H Q ⟨l, el, q⟩ => ⟨l, el, fun vs H1 s1 h1 => ⟨by rw [h1.length]; exact Nat.le_of_lt (small1000 (h l)), fun p hp => q _ _ (s1.trans (Same.upd_new hp)) (DVL.tup upd_same (Paired.mono (fun _ _ z => DVL.tups (Same.upd_new hp) z) h1))⟩⟩
end
def chars (x : String) : List Nat := x.toList.map Char.toNat
theorem chars_eq (x : String) : Str.ofString x = SX.S (chars x) := Str.ofString_eq_toList x
abbrev dS (x : String) : Dat := .str (chars x)
abbrev dI (n : Int) : Dat := .int n
def samp (l : List Nat) : List Dat :=
  [.tup [dS "set", dI 3], .tup [dS "pairs", .str l, .tup [dS "sizes", dI 4], .tup [dS "of", dI 4, .tup [dS "name", .str l]]], .tup [.tup [.str l, .tup [dS "sizes", dI 2]]], .tup [.str l, .tup [dS "point", dI 4, dI 0]], .tup [],
   .tup [dS "case", dI 2, .str l, .tup [dS "set", dI 3], .tup [dS "point", dI 2, dI 0], .tup [.tup [dS "point", dI 3, dI 1], .tup [dS "name", dS "y"]]],
   .tup [dS "maps", .str l, .tup [dS "classes", .tup [dS "sizes", dI 3]], .tup [dS "either", .tup [dS "set", dI 0], .tup [dS "ways", .tup [dS "set", dI 2], .tup [dS "name", .str l], .tup [dS "point", dI 2, dI 1]]]],
   .tup [dS "carry", .str l, .tup [dS "set", dI 2], .tup [dS "set", dI 1], .tup [dS "point", dI 2, dI 1], .tup [dS "point", dI 2, dI 0], .tup [], .tup [dS "name", .str l]]]
def spSamp : Sp := fun vs H Q _ => ∃ (b : Addr) (z : Int), vs = [.ref b] ∧ Bx H b z ∧ 0 ≤ z ∧
  ∀ l d v z' H', 1 ≤ l.length → l.length ≤ 8 → (∀ c ∈ l, letter c) → d ∈ samp l → 0 ≤ z' → Bx H' b z' → Kept b H H' → DVL Small H' 5 v d → Q v H'
theorem Kept.of {b : Addr} {H H' : Hp} (k : Same H H') : Kept b H H' := fun a o _ h => k a o h
section
variable {P : Program} {w : World} {K : PySem.W.Frag} {mg : Str → Option Value} {base : Heap} {f : Addr} {fd : FuncData}
theorem ok_samp (F : Fun K "_law_sample" "_law_sample" sSamp f fd) (cT : Cal P w K mg base 1 "_law_take" spTake []) (cW : Cal P w K mg base 2 "_law_word" spWord []) (mL : mg "len" = none) : FnOk P w K mg base CX0 3 f fd ["box"] spSamp := by
  refine F.ok scSamp (fun vs H Q E h => ?_) (fun cdv A outer s H vs Q E hr h => ?_)
  · obtain ⟨b, z, rfl, _⟩ := h
    rfl
  obtain ⟨b, z, rfl, hb, hz, q⟩ := h
  have pdS : ∀ {X : Cx} {i n j : Nat} {pos : Pos} {x : String}, PE X (.Constant (.str (Str.ofString x)) j pos) (tDat i n fun _ => .str (chars x)) := fun {X i n j pos x} => pd_str (chars_eq x)
  refine ⟨_, pss_cons (ps_set (i := 1) scSamp.nd rfl (Or.inl rfl) (pe_slice C8.sl_txt (pe_c cW hr (by decide) (by rfl) (pa_cons (pv 0) pa_nil)) po_none (po_some pe_int)))
    (pss_cons (ps_set (i := 2) scSamp.nd rfl (Or.inl rfl) (pe_lst (t := tDats 1 4 fun l => (samp l).take 5)
      (pd_cons (pd_tup (pd_cons pdS (pd_cons (pd_int (by decide)) pd_nil)))
      (pd_cons (pd_tup (pd_cons pdS (pd_cons (pd_nm (pv 1)) (pd_cons (pd_tup (pd_cons pdS (pd_cons (pd_int (by decide)) pd_nil))) (pd_cons (pd_tup (pd_cons pdS (pd_cons (pd_int (by decide)) (pd_cons (pd_tup (pd_cons pdS (pd_cons (pd_nm (pv 1)) pd_nil))) pd_nil)))) pd_nil)))))
      (pd_cons (pd_tup (pd_cons (pd_tup (pd_cons (pd_nm (pv 1)) (pd_cons (pd_tup (pd_cons pdS (pd_cons (pd_int (by decide)) pd_nil))) pd_nil))) pd_nil))
      (pd_cons (pd_tup (pd_cons (pd_nm (pv 1)) (pd_cons (pd_tup (pd_cons pdS (pd_cons (pd_int (by decide)) (pd_cons (pd_int (by decide)) pd_nil)))) pd_nil)))
      (pd_cons (pd_tup pd_nil) pd_nil)))))))
    (pss_cons (ps_expr (pe_bm PySem.F.plainAttrs_list PySem.F.slot_list_append PySem.F.type_list_append mt_append (pv 2) (t := tDats 1 4 fun l => [(samp l).getD 5 (.int 0)])
      (pd_cons (pd_tup (pd_cons pdS (pd_cons (pd_int (by decide)) (pd_cons (pd_nm (pv 1)) (pd_cons (pd_tup (pd_cons pdS (pd_cons (pd_int (by decide)) pd_nil))) (pd_cons (pd_tup (pd_cons pdS (pd_cons (pd_int (by decide)) (pd_cons (pd_int (by decide)) pd_nil)))) (pd_cons (pd_tup (pd_cons (pd_tup (pd_cons pdS (pd_cons (pd_int (by decide)) (pd_cons (pd_int (by decide)) pd_nil)))) (pd_cons (pd_tup (pd_cons pdS (pd_cons pdS pd_nil))) pd_nil))) pd_nil))))))) pd_nil)))
    (pss_cons (ps_expr (pe_bm PySem.F.plainAttrs_list PySem.F.slot_list_append PySem.F.type_list_append mt_append (pv 2) (t := tDats 1 4 fun l => [(samp l).getD 6 (.int 0)])
      (pd_cons (pd_tup (pd_cons pdS (pd_cons (pd_nm (pv 1)) (pd_cons (pd_tup (pd_cons pdS (pd_cons (pd_tup (pd_cons pdS (pd_cons (pd_int (by decide)) pd_nil))) pd_nil))) (pd_cons (pd_tup (pd_cons pdS (pd_cons (pd_tup (pd_cons pdS (pd_cons (pd_int (by decide)) pd_nil))) (pd_cons (pd_tup (pd_cons pdS (pd_cons (pd_tup (pd_cons pdS (pd_cons (pd_int (by decide)) pd_nil))) (pd_cons (pd_tup (pd_cons pdS (pd_cons (pd_nm (pv 1)) pd_nil))) (pd_cons (pd_tup (pd_cons pdS (pd_cons (pd_int (by decide)) (pd_cons (pd_int (by decide)) pd_nil)))) pd_nil))))) pd_nil)))) pd_nil))))) pd_nil)))
    (pss_cons (ps_expr (pe_bm PySem.F.plainAttrs_list PySem.F.slot_list_append PySem.F.type_list_append mt_append (pv 2) (t := tDats 1 4 fun l => [(samp l).getD 7 (.int 0)])
      (pd_cons (pd_tup (pd_cons pdS (pd_cons (pd_nm (pv 1)) (pd_cons (pd_tup (pd_cons pdS (pd_cons (pd_int (by decide)) pd_nil))) (pd_cons (pd_tup (pd_cons pdS (pd_cons (pd_int (by decide)) pd_nil))) (pd_cons (pd_tup (pd_cons pdS (pd_cons (pd_int (by decide)) (pd_cons (pd_int (by decide)) pd_nil)))) (pd_cons (pd_tup (pd_cons pdS (pd_cons (pd_int (by decide)) (pd_cons (pd_int (by decide)) pd_nil)))) (pd_cons (pd_tup pd_nil) (pd_cons (pd_tup (pd_cons pdS (pd_cons (pd_nm (pv 1)) pd_nil))) pd_nil))))))))) pd_nil)))
    (pss_one (ps_ret (pe_ix ix_list (pv 2) (pe_c cT hr (by decide) (by rfl) (pa_cons (pv 0) (pa_cons (pe_callB call_len_seq (by rfl) mL PySem.boot_len (pa_cons (pv 2) pa_nil)) pa_nil))) (fun _ _ => rfl)))))))), ?_⟩
  refine ⟨_, rfl, b, z, rfl, hb, hz, fun l0 z1 H1 hl hz1 hb1 k1 => ?_⟩
  obtain ⟨l1, l2, l3⟩ := hl
  refine ⟨8, rfl, _, rfl, by rw [SX.S_len]; exact Nat.le_of_lt (small1000 (by omega)), ?_⟩
  rw [show Txt.slice (SX.S l0) none (some 8) = SX.S (l0.take 8) from SX.slice_to (a := l0) (i := 8) (by decide)]
  generalize hl : l0.take 8 = l
  have m1 : 1 ≤ l.length := by rw [← hl, List.length_take]; omega
  have m2 : l.length ≤ 8 := by rw [← hl, List.length_take]; omega
  have m3 : ∀ c ∈ l, letter c := fun c hc => l3 c (by rw [← hl] at hc; exact List.mem_of_mem_take hc)
  -- the rows
  refine ⟨l, rfl, fun vs H2 s2 r2 => ?_⟩
  refine ⟨by rw [r2.length]; show 5 ≤ sizeLine; decide, fun R hR => ?_⟩
  have kb : Kept b H H2 := k1.trans (Kept.of s2)
  have hb2 : Bx H2 b z1 := s2 _ _ hb1
  have hb3 : Bx (upd H2 R (.lst vs)) b z1 := hb2.new hR
  have k3 : Kept b H (upd H2 R (.lst vs)) := kb.trans (Kept.new hR)
  have nRb := hb2.ne hR
  have r3 : Paired (DVL Small (upd H2 R (.lst vs)) 4) vs ((samp l).take 5) := Paired.mono (fun _ _ z => DVL.tups (Same.upd_new hR) z) r2
  generalize hH3 : upd H2 R (.lst vs) = H3 at hb3 k3 r3
  have e3 : H3 R = some (.lst vs) := by rw [← hH3, upd_same]
  have fresh : ∀ a, H a ≠ none → a ≠ R := fun a ha e => by
    subst e
    cases hh : H a with
    | none => exact ha hh
    | some o =>
      by_cases hab : a = b
      · exact nRb hab
      · have := kb a o hab hh
        rw [this] at hR
        cases hR
  clear hH3 r2 s2 hR
  -- one row more
  have more : ∀ (H4 : Hp) (us : List V) (ds : List Dat) (d : Dat) (xs : List V) (H5 : Hp), Kept b H H4 → Bx H4 b z1 → H4 R = some (.lst us) → Paired (DVL Small H4 4) us ds → Same H4 H5 → Paired (DVL Small H5 4) xs [d] →
      ∃ x, xs = [x] ∧ Kept b H (upd H5 R (.lst (us ++ [x]))) ∧ Bx (upd H5 R (.lst (us ++ [x]))) b z1 ∧ upd H5 R (.lst (us ++ [x])) R = some (.lst (us ++ [x])) ∧ Paired (DVL Small (upd H5 R (.lst (us ++ [x]))) 4) (us ++ [x]) (ds ++ [d]) := by
    intro H4 us ds d xs H5 k4 hb4 e4 r4 s5 rx
    obtain ⟨x, rfl, hx⟩ : ∃ x, xs = [x] ∧ DVL Small H5 4 x d := by
      cases rx with
      | cons hx t =>
        cases t
        exact ⟨_, rfl, hx⟩
    have tk : Tups H5 (upd H5 R (.lst (us ++ [x]))) := fun p ys hp => by
      rw [upd_ne (fun e => by
        subst e
        rw [s5 _ _ e4] at hp
        cases hp)]
      exact hp
    refine ⟨x, rfl, fun a o hab ha => ?_, ?_, upd_same, Paired.snoc (Paired.mono (fun _ _ z => DVL.keep tk (fun _ _ h => h) (DVL.tups s5 z)) r4) (DVL.keep tk (fun _ _ h => h) hx)⟩
    · rw [upd_ne (fresh a (by rw [ha]; exact Option.some_ne_none _))]
      exact s5 _ _ (k4 a o hab ha)
    · unfold Bx
      rw [upd_ne nRb.symm]
      exact s5 _ _ hb4
  refine ⟨_, rfl, .inl ⟨rfl, _, SqL.of e3⟩, l, rfl, fun xs H4 s4 r4 => ?_⟩
  obtain ⟨x, rfl, k5, hb5, e5, r5⟩ := more _ _ _ _ _ _ k3 hb3 e3 r3 s4 r4
  have len3 := r3.length
  refine ⟨R, _, _, rfl, rfl, s4 _ _ e3, by rw [len3]; show 5 < sizeLine; decide, ?_⟩
  refine ⟨_, rfl, .inl ⟨rfl, _, SqL.of e5⟩, l, rfl, fun xs H6 s6 r6 => ?_⟩
  obtain ⟨x2, rfl, k7, hb7, e7, r7⟩ := more _ _ _ _ _ _ k5 hb5 e5 r5 s6 r6
  have len5 := r5.length
  refine ⟨R, _, _, rfl, rfl, s6 _ _ e5, by rw [len5]; show 6 < sizeLine; decide, ?_⟩
  refine ⟨_, rfl, .inl ⟨rfl, _, SqL.of e7⟩, l, rfl, fun xs H8 s8 r8 => ?_⟩
  obtain ⟨x3, rfl, k9, hb9, e9, r9⟩ := more _ _ _ _ _ _ k7 hb7 e7 r7 s8 r8
  have len7 := r7.length
  refine ⟨R, _, _, rfl, rfl, s8 _ _ e7, by rw [len7]; show 7 < sizeLine; decide, ?_⟩
  have len9 := r9.length
  have len9' : ((((vs ++ [x]) ++ [x2]) ++ [x3]).length : Int) = 8 := by rw [len9]; rfl
  have m8 := mod_lt' (z := z1) (m := 8) (by decide)
  obtain ⟨k, ek⟩ := toNat_of m8.1
  refine ⟨_, rfl, _, rfl, _, rfl, R, _, rfl, .inl (SqL.of e9), b, z1, 8, by rw [len9']; rfl, hb9, by decide, by decide, ?_⟩
  have e10 := upd_ne (H := upd H8 R (.lst (((vs ++ [x]) ++ [x2]) ++ [x3]))) (o := .lst [.int (z1 / 8)]) nRb
  rw [e9] at e10
  have kl : k < (((vs ++ [x]) ++ [x2]) ++ [x3]).length := by omega
  obtain ⟨d, hd1, hd2⟩ := Paired.at r9 (List.getElem?_eq_getElem kl)
  refine ⟨R, _, (k : Int), _, rfl, by rw [ek], SqL.of e10, atI_nat (List.getElem?_eq_getElem kl), ?_⟩
  refine q l d _ (z1 / 8) _ m1 m2 m3 ?_ (div_nn hz1 (by decide)) upd_same (k9.trans Kept.upd) (DVL.mono (DVL.keep (Kept.tups hb9 Kept.upd) (fun _ _ h => h) hd2) (by decide))
  exact List.mem_of_getElem? hd1
end
end KT

namespace KT
open PySem PySem.Spec PyProof.Rows L2
/-! ### reading: what a text is the text of -/
def isL (c : Nat) : Bool := decide (97 ≤ c) && decide (c ≤ 122)
def isD (c : Nat) : Bool := decide (48 ≤ c) && decide (c ≤ 57)
/-- the figures f, behind a sign or not, are a number's -/
def numOk (neg : Bool) (f : List Nat) : Bool := !(f == []) && (!(f.head? == some 48) || (f == [48] && !neg))
def atom (t : List Nat) : Option (Dat × List Nat) :=
  if t.takeWhile isL ≠ [] then some (.str (t.takeWhile isL), t.dropWhile isL)
  else if t.head? = some 45 then (if numOk true (t.tail.takeWhile isD) then some (.int (-((NumText.digitsVal (t.tail.takeWhile isD) : Nat) : Int)), t.tail.dropWhile isD) else none)
  else if numOk false (t.takeWhile isD) then some (.int ((NumText.digitsVal (t.takeWhile isD) : Nat) : Int), t.dropWhile isD) else none
mutual
def item : Nat → List Nat → Option (Dat × List Nat)
  | 0, _ => none
  | n + 1, t => if t.head? = some 40 then (if t.tail.head? = some 41 then some (.tup [], t.tail.tail) else (match items n t.tail with | none => none | some (ds, r) => some (.tup ds, r))) else atom t
def items : Nat → List Nat → Option (List Dat × List Nat)
  | 0, _ => none
  | n + 1, t => match item n t with
    | none => none
    | some (d, r) => if r.head? = some 41 then some ([d], r.tail) else if r.head? = some 32 then (match items n r.tail with | none => none | some (ds, r') => some (d :: ds, r')) else none
end
theorem fuel : ∀ n, (∀ t x, item n t = some x → item (n + 1) t = some x) ∧ (∀ t x, items n t = some x → items (n + 1) t = some x)
  | 0 => ⟨fun t x h => (by rw [item] at h; cases h), fun t x h => (by rw [items] at h; cases h)⟩
  | n + 1 => by
    obtain ⟨h1, h2⟩ := fuel n
    refine ⟨fun t x h => ?_, fun t x h => ?_⟩
    · rw [item] at h ⊢
      by_cases c : t.head? = some 40
      · rw [if_pos c] at h ⊢
        by_cases c2 : t.tail.head? = some 41
        · rw [if_pos c2] at h ⊢
          exact h
        · rw [if_neg c2] at h ⊢
          cases e : items n t.tail with
          | none => rw [e] at h; cases h
          | some y =>
            rw [e] at h
            rw [h2 _ _ e]
            exact h
      · rw [if_neg c] at h ⊢
        exact h
    · rw [items] at h ⊢
      cases e : item n t with
      | none => rw [e] at h; cases h
      | some y =>
        obtain ⟨d, r⟩ := y
        rw [e] at h
        rw [h1 _ _ e]
        simp only at h ⊢
        by_cases c : r.head? = some 41
        · rw [if_pos c] at h ⊢
          exact h
        · rw [if_neg c] at h ⊢
          by_cases c2 : r.head? = some 32
          · rw [if_pos c2] at h ⊢
            cases e2 : items n r.tail with
            | none => rw [e2] at h; cases h
            | some z =>
              rw [e2] at h
              rw [h2 _ _ e2]
              exact h
          · rw [if_neg c2] at h
            cases h
theorem item_up {n m : Nat} {t : List Nat} {x : Dat × List Nat} (h : item n t = some x) (le : n ≤ m) : item m t = some x := by
  induction le with
  | refl => exact h
  | step _ ih => exact (fuel _).1 _ _ ih
theorem items_up {n m : Nat} {t : List Nat} {x : List Dat × List Nat} (h : items n t = some x) (le : n ≤ m) : items m t = some x := by
  induction le with
  | refl => exact h
  | step _ ih => exact (fuel _).2 _ _ ih
def Item (t : List Nat) (d : Dat) (r : List Nat) : Prop := ∃ n, item n t = some (d, r)
def Items (t : List Nat) (ds : List Dat) (r : List Nat) : Prop := ∃ n, items n t = some (ds, r)
def NoItem (t : List Nat) : Prop := ∀ n, item n t = none
def NoItems (t : List Nat) : Prop := ∀ n, items n t = none
theorem item_or (t : List Nat) : NoItem t ∨ ∃ d r, Item t d r := by
  by_cases h : ∃ n x, item n t = some x
  · obtain ⟨n, ⟨d, r⟩, h⟩ := h
    exact .inr ⟨d, r, n, h⟩
  · refine .inl fun n => ?_
    cases e : item n t with
    | none => rfl
    | some x => exact absurd ⟨n, x, e⟩ h
theorem items_or (t : List Nat) : NoItems t ∨ ∃ ds r, Items t ds r := by
  by_cases h : ∃ n x, items n t = some x
  · obtain ⟨n, ⟨d, r⟩, h⟩ := h
    exact .inr ⟨d, r, n, h⟩
  · refine .inl fun n => ?_
    cases e : items n t with
    | none => rfl
    | some x => exact absurd ⟨n, x, e⟩ h
theorem Item.one {t : List Nat} {d d' : Dat} {r r' : List Nat} (a : Item t d r) (b : Item t d' r') : d = d' ∧ r = r' := by
  obtain ⟨n, a⟩ := a
  obtain ⟨m, b⟩ := b
  have e := (item_up a (Nat.le_max_left n m)).symm.trans (item_up b (Nat.le_max_right n m))
  have e := Option.some.inj e
  exact ⟨congrArg Prod.fst e, congrArg Prod.snd e⟩
theorem NoItem.not {t : List Nat} {d : Dat} {r : List Nat} (a : NoItem t) (b : Item t d r) : False := by
  obtain ⟨n, b⟩ := b
  rw [a n] at b
  cases b
theorem NoItems.not {t : List Nat} {d : List Dat} {r : List Nat} (a : NoItems t) (b : Items t d r) : False := by
  obtain ⟨n, b⟩ := b
  rw [a n] at b
  cases b
/-! the ways of an item -/
theorem item_atom {t : List Nat} (h : t.head? ≠ some 40) {d : Dat} {r : List Nat} (e : atom t = some (d, r)) : Item t d r := ⟨1, by rw [item, if_neg h, e]⟩
theorem noitem_atom {t : List Nat} (h : t.head? ≠ some 40) (e : atom t = none) : NoItem t
  | 0 => by rw [item]
  | n + 1 => by rw [item, if_neg h, e]
theorem item_empty {r : List Nat} : Item (40 :: 41 :: r) (.tup []) r := ⟨1, by rw [item, if_pos (show (40 :: 41 :: r).head? = some 40 from rfl), List.tail_cons, if_pos (show (41 :: r).head? = some 41 from rfl)] <;> rfl⟩
theorem item_tup {t r : List Nat} {ds : List Dat} (h : t.head? ≠ some 41) (i : Items t ds r) : Item (40 :: t) (.tup ds) r := by
  obtain ⟨n, i⟩ := i
  exact ⟨n + 1, by rw [item, if_pos (show (40 :: t).head? = some 40 from rfl), List.tail_cons, if_neg h, i]⟩
theorem noitem_tup {t : List Nat} (h : t.head? ≠ some 41) (i : NoItems t) : NoItem (40 :: t)
  | 0 => by rw [item]
  | n + 1 => by rw [item, if_pos (show (40 :: t).head? = some 40 from rfl), List.tail_cons, if_neg h, i n]
theorem items_last {t r : List Nat} {d : Dat} (i : Item t d (41 :: r)) : Items t [d] r := by
  obtain ⟨n, i⟩ := i
  exact ⟨n + 1, by rw [items, i]; rfl⟩
theorem items_more {t r r' : List Nat} {d : Dat} {ds : List Dat} (i : Item t d (32 :: r)) (j : Items r ds r') : Items t (d :: ds) r' := by
  obtain ⟨n, i⟩ := i
  obtain ⟨m, j⟩ := j
  refine ⟨max n m + 1, ?_⟩
  rw [items, item_up i (Nat.le_max_left n m)]
  show (if (32 :: r).head? = some 41 then _ else if (32 :: r).head? = some 32 then (match items (max n m) r with | none => none | some (ds, r') => some (d :: ds, r')) else none) = _
  rw [items_up j (Nat.le_max_right n m)]
  rfl
theorem noitems_no {t : List Nat} (i : NoItem t) : NoItems t
  | 0 => by rw [items]
  | n + 1 => by rw [items, i n]
theorem noitems_more {t r : List Nat} {d : Dat} (i : Item t d (32 :: r)) (j : NoItems r) : NoItems t
  | 0 => by rw [items]
  | n + 1 => by
    rw [items]
    cases e : item n t with
    | none => rfl
    | some x =>
      obtain ⟨d', r'⟩ := x
      obtain ⟨e1, e2⟩ := Item.one i ⟨n, e⟩
      subst e2
      show (if (32 :: r).head? = some 41 then _ else if (32 :: r).head? = some 32 then (match items n r with | none => none | some (ds, r') => some (d' :: ds, r')) else none) = _
      rw [j n]
      rfl
theorem noitems_bad {t r : List Nat} {d : Dat} (i : Item t d r) (h1 : r.head? ≠ some 41) (h2 : r.head? ≠ some 32) : NoItems t
  | 0 => by rw [items]
  | n + 1 => by
    rw [items]
    cases e : item n t with
    | none => rfl
    | some x =>
      obtain ⟨d', r'⟩ := x
      obtain ⟨e1, e2⟩ := Item.one i ⟨n, e⟩
      subst e2
      show (if r.head? = some 41 then _ else if r.head? = some 32 then _ else none) = _
      rw [if_neg h1, if_neg h2]
/-! what is read away leaves the balance of parentheses -/
def bal : List Nat → Int
  | [] => 0
  | c :: r => (if c = 40 then 1 else if c = 41 then -1 else 0) + bal r
theorem bal_app : ∀ a b : List Nat, bal (a ++ b) = bal a + bal b
  | [], b => by simp [bal]
  | c :: r, b => by
    rw [List.cons_append, bal, bal, bal_app r b]
    omega
theorem bal_flat {l : List Nat} (h : ∀ c ∈ l, c ≠ 40 ∧ c ≠ 41) : bal l = 0 := by
  induction l with
  | nil => rfl
  | cons c r ih =>
    have h1 := h c (List.mem_cons_self ..)
    rw [bal, if_neg h1.1, if_neg h1.2, ih fun d hd => h d (List.mem_cons_of_mem _ hd)]
    rfl
/-- no prefix opens more than k parentheses that it does not close -/
def Sh (k : Int) (t : List Nat) : Prop := ∀ a b, t = a ++ b → bal a ≤ k
theorem Sh.behind {k : Int} {a b : List Nat} (h : Sh k (a ++ b)) : Sh (k - bal a) b := fun x y e => by
  have := h (a ++ x) y (by rw [e, List.append_assoc])
  rw [bal_app] at this
  omega
theorem Sh.nn {k : Int} {t : List Nat} (h : Sh k t) : 0 ≤ k := h [] t rfl
theorem takeD (p : Nat → Bool) (t : List Nat) : t.takeWhile p ++ t.dropWhile p = t := List.takeWhile_append_dropWhile
theorem in_take {p : Nat → Bool} : ∀ {t : List Nat} {c : Nat}, c ∈ t.takeWhile p → p c = true
  | x :: r, c, h => by
    rw [List.takeWhile_cons] at h
    split at h
    · rcases List.mem_cons.mp h with e | h
      · rw [e]; assumption
      · exact in_take h
    · cases h
theorem isL_flat {t : List Nat} : ∀ c ∈ t.takeWhile isL, c ≠ 40 ∧ c ≠ 41 := fun c hc => by
  have := in_take hc
  simp [isL] at this
  omega
theorem isD_flat {t : List Nat} : ∀ c ∈ t.takeWhile isD, c ≠ 40 ∧ c ≠ 41 := fun c hc => by
  have := in_take hc
  simp [isD] at this
  omega
theorem atom_flat {t r : List Nat} {d : Dat} (h : atom t = some (d, r)) : ∃ a, t = a ++ r ∧ bal a = 0 := by
  unfold atom at h
  split at h
  · injection h with h
    injection h with h1 h2
    exact ⟨t.takeWhile isL, by rw [← h2, takeD], bal_flat isL_flat⟩
  · split at h
    · rename_i h45
      split at h
      · injection h with h
        injection h with h1 h2
        obtain ⟨x, rfl⟩ : ∃ x, t = 45 :: x := by
          cases t with
          | nil => cases h45
          | cons c x =>
            simp at h45
            exact ⟨x, by rw [h45]⟩
        refine ⟨45 :: x.takeWhile isD, by rw [← h2, List.cons_append, List.tail_cons, takeD], ?_⟩
        rw [bal, bal_flat isD_flat]
        decide
      · cases h
    · split at h
      · injection h with h
        injection h with h1 h2
        exact ⟨t.takeWhile isD, by rw [← h2, takeD], bal_flat isD_flat⟩
      · cases h
theorem head_cons {t : List Nat} {c : Nat} (h : t.head? = some c) : t = c :: t.tail := by
  cases t with
  | nil => cases h
  | cons x r =>
    simp at h
    rw [h]
    rfl
theorem flat : ∀ n, (∀ t d r, item n t = some (d, r) → ∃ a, t = a ++ r ∧ bal a = 0) ∧ (∀ t d r, items n t = some (d, r) → ∃ a, t = a ++ r ∧ bal a = -1)
  | 0 => ⟨fun t d r h => (by rw [item] at h; cases h), fun t d r h => (by rw [items] at h; cases h)⟩
  | n + 1 => by
    obtain ⟨h1, h2⟩ := flat n
    refine ⟨fun t d r h => ?_, fun t d r h => ?_⟩
    · rw [item] at h
      split at h
      · rename_i c
        split at h
        · rename_i c2
          injection h with h
          injection h with h3 h4
          refine ⟨[40, 41], ?_, rfl⟩
          rw [head_cons c, head_cons c2, h4]
          rfl
        · split at h
          · cases h
          · rename_i ds r' e
            injection h with h
            injection h with h3 h4
            subst h4
            obtain ⟨a, ea, eb⟩ := h2 _ _ _ e
            refine ⟨40 :: a, by rw [head_cons c, ea]; rfl, ?_⟩
            rw [bal, eb]
            rfl
      · exact atom_flat h
    · rw [items] at h
      split at h
      · cases h
      · rename_i d' r' e
        obtain ⟨a, ea, eb⟩ := h1 _ _ _ e
        split at h
        · rename_i c
          injection h with h
          injection h with h3 h4
          refine ⟨a ++ [41], ?_, by rw [bal_app, eb]; rfl⟩
          rw [ea, head_cons c, h4]
          simp
        · split at h
          · rename_i c
            split at h
            · cases h
            · rename_i ds r'' e2
              injection h with h
              injection h with h3 h4
              subst h4
              obtain ⟨b, ec, ed⟩ := h2 _ _ _ e2
              refine ⟨a ++ 32 :: b, ?_, by rw [bal_app, eb, bal, ed]; rfl⟩
              rw [ea, head_cons c, ec]
              simp
          · cases h
theorem Item.flat {t r : List Nat} {d : Dat} (i : Item t d r) : ∃ a, t = a ++ r ∧ bal a = 0 := by
  obtain ⟨n, i⟩ := i
  exact (KT.flat n).1 _ _ _ i
theorem Items.flat {t r : List Nat} {d : List Dat} (i : Items t d r) : ∃ a, t = a ++ r ∧ bal a = -1 := by
  obtain ⟨n, i⟩ := i
  exact (KT.flat n).2 _ _ _ i
end KT

namespace KT
open PySem PySem.Spec PyProof.Rows L2
/-- what may follow a value -/
def Ends (r : List Nat) : Prop := ∀ c, r.head? = some c → c = 32 ∨ c = 41
/-- the text of d is read as d, whatever follows -/
def Rd1 (d : Dat) : Prop := ∀ r, Ends r → Item (d.txt ++ r) d r
/-- no prefix closes more than it opens -/
def Lo (t : List Nat) : Prop := ∀ a b, t = a ++ b → 0 ≤ bal a
/-- no block of figures is longer -/
def Runs (n : Nat) (t : List Nat) : Prop := ∀ a b c, t = a ++ (b ++ c) → (∀ x ∈ b, isD x = true) → b.length ≤ n
def Okd (k : Nat) (d : Dat) : Prop := Rd1 d ∧ Sh (k : Int) d.txt ∧ bal d.txt = 0 ∧ Lo d.txt ∧ Runs 4401 d.txt
theorem take_all {p : Nat → Bool} {l r : List Nat} (h : ∀ c ∈ l, p c = true) (hr : ∀ c, r.head? = some c → p c = false) : (l ++ r).takeWhile p = l ∧ (l ++ r).dropWhile p = r := by
  induction l with
  | nil =>
    cases r with
    | nil => exact ⟨rfl, rfl⟩
    | cons c r =>
      have := hr c rfl
      rw [List.nil_append, List.takeWhile_cons, List.dropWhile_cons, this]
      exact ⟨rfl, rfl⟩
  | cons c l ih =>
    obtain ⟨h1, h2⟩ := ih fun d hd => h d (List.mem_cons_of_mem _ hd)
    have hc := h c (List.mem_cons_self ..)
    rw [List.cons_append, List.takeWhile_cons, List.dropWhile_cons, hc]
    exact ⟨by rw [if_pos rfl, h1], by rw [if_pos rfl, h2]⟩
theorem Ends.notL {r : List Nat} (h : Ends r) : ∀ c, r.head? = some c → isL c = false := fun c hc => by
  rcases h c hc with rfl | rfl <;> rfl
theorem Ends.notD {r : List Nat} (h : Ends r) : ∀ c, r.head? = some c → isD c = false := fun c hc => by
  rcases h c hc with rfl | rfl <;> rfl
theorem letter_isL {c : Nat} (h : letter c) : isL c = true := by
  have h1 : 97 ≤ c := h.1
  have h2 : c ≤ 122 := h.2
  simp [isL, h1, h2]
theorem rd_word {l : List Nat} (h0 : l ≠ []) (h : ∀ c ∈ l, letter c) : Rd1 (.str l) := by
  intro r hr
  obtain ⟨e1, e2⟩ := take_all (fun c hc => letter_isL (h c hc)) hr.notL
  show Item (l ++ r) (.str l) r
  refine item_atom ?_ ?_
  · cases l with
    | nil => exact absurd rfl h0
    | cons c x =>
      have := (h c (List.mem_cons_self ..)).1
      intro e
      rw [List.cons_append, List.head?_cons] at e
      have := Option.some.inj e
      omega
  · unfold atom
    rw [e1, e2, if_pos h0]
theorem numL_head (n : Nat) : ∃ c r, TL.numL n = c :: r ∧ (c = 48 → n = 0 ∧ r = []) ∧ 48 ≤ c ∧ c ≤ 57 := by
  induction n using Nat.strongRecOn with
  | _ n ih =>
    by_cases h : n < 10
    · rw [TL.numL_lt h]
      exact ⟨48 + n, [], rfl, fun e => ⟨by omega, rfl⟩, by omega, by omega⟩
    · rw [TL.numL_step (by omega)]
      obtain ⟨c, r, e, h1, h2⟩ := ih (n / 10) (by omega)
      rw [e]
      exact ⟨c, r ++ [48 + n % 10], rfl, fun e0 => by have := (h1 e0).1; omega, h2⟩
theorem numL_isD (n : Nat) : ∀ c ∈ TL.numL n, isD c = true := fun c hc => by
  have := TL.numL_digits n c hc
  simp [isD, this]
theorem numL_zero : TL.numL 0 = [48] := by decide +kernel
theorem rd_int (n : Int) : Rd1 (.int n) := by
  intro r hr
  show Item (intL n ++ r) (.int n) r
  obtain ⟨c, x, ec, h0, h1, h2⟩ := numL_head n.natAbs
  obtain ⟨e1, e2⟩ := take_all (numL_isD n.natAbs) hr.notD
  have notL : ∀ (y : List Nat) (c : Nat), c ≤ 57 → (c :: y).takeWhile isL = [] := by
    intro y c h
    rw [List.takeWhile_cons]
    have : isL c = false := by
      simp [isL]
      omega
    rw [this]
    rfl
  unfold intL
  by_cases h : n < 0
  · rw [if_pos h]
    refine item_atom (by simp) ?_
    unfold atom
    rw [List.cons_append, notL _ _ (by decide), if_neg (by simp), if_pos (show (45 :: (TL.numL n.natAbs ++ r)).head? = some 45 from rfl), List.tail_cons, e1, e2]
    have hok : numOk true (TL.numL n.natAbs) = true := by
      unfold numOk
      rw [ec]
      have : c ≠ 48 := fun e => by
        have := (h0 e).1
        omega
      simp [this]
    rw [if_pos hok, TL.numL_val, show -((n.natAbs : Nat) : Int) = n by omega]
  · rw [if_neg h]
    refine item_atom ?_ ?_
    · rw [ec, List.cons_append, List.head?_cons]
      intro e
      have := Option.some.inj e
      omega
    · unfold atom
      rw [e1, e2]
      rw [show (TL.numL n.natAbs ++ r).takeWhile isL = [] by rw [ec, List.cons_append]; exact notL _ _ h2, if_neg (by simp)]
      rw [if_neg (by rw [ec, List.cons_append, List.head?_cons]; intro e; have := Option.some.inj e; omega)]
      have hok : numOk false (TL.numL n.natAbs) = true := by
        by_cases e : c = 48
        · have := h0 e
          rw [this.1, numL_zero]
          rfl
        · unfold numOk
          rw [ec]
          simp [e]
      rw [if_pos hok, TL.numL_val, show ((n.natAbs : Nat) : Int) = n by omega]
theorem rd_items : ∀ (ds : List Dat), ds ≠ [] → (∀ d ∈ ds, Rd1 d) → ∀ r, Items (TL.joinL [32] (ds.map Dat.txt) ++ 41 :: r) ds r
  | [d], _, h, r => items_last (h d (List.mem_cons_self ..) (41 :: r) fun c hc => by
      have := Option.some.inj hc
      omega)
  | d :: e :: ds, _, h, r => by
    have ih := rd_items (e :: ds) (List.cons_ne_nil _ _) (fun x hx => h x (List.mem_cons_of_mem _ hx)) r
    have i := h d (List.mem_cons_self ..) (32 :: (TL.joinL [32] ((e :: ds).map Dat.txt) ++ 41 :: r)) fun c hc => by
      have := Option.some.inj hc
      omega
    have e1 : TL.joinL [32] ((d :: e :: ds).map Dat.txt) ++ 41 :: r = d.txt ++ 32 :: (TL.joinL [32] ((e :: ds).map Dat.txt) ++ 41 :: r) := by
      show (d.txt ++ ([32] ++ TL.joinL [32] ((e :: ds).map Dat.txt))) ++ 41 :: r = _
      simp
    rw [e1]
    exact items_more i ih
theorem Rd1.head {d : Dat} (h : Rd1 d) : d.txt.head? ≠ some 41 := by
  intro e
  have i := h [] (fun c hc => by cases hc)
  rw [List.append_nil, head_cons e] at i
  have : NoItem (41 :: d.txt.tail) := noitem_atom (by simp) (by
    unfold atom
    have e1 : (41 :: d.txt.tail).takeWhile isL = [] := by
      rw [List.takeWhile_cons]
      rfl
    have e2 : (41 :: d.txt.tail).takeWhile isD = [] := by
      rw [List.takeWhile_cons]
      rfl
    rw [e1, e2]
    simp [numOk])
  exact this.not i
theorem head_app {l m : List Nat} (h : l ≠ []) : (l ++ m).head? = l.head? := by
  cases l with
  | nil => exact absurd rfl h
  | cons c r => rfl
theorem rd_tup {ds : List Dat} (h : ∀ d ∈ ds, Rd1 d) : Rd1 (.tup ds) := by
  intro r hr
  rw [txt_tup]
  cases ds with
  | nil => exact item_empty
  | cons d ds =>
    have i := rd_items (d :: ds) (List.cons_ne_nil _ _) h r
    have e : (40 :: (TL.joinL [32] ((d :: ds).map Dat.txt) ++ [41])) ++ r = 40 :: (TL.joinL [32] ((d :: ds).map Dat.txt) ++ 41 :: r) := by simp
    rw [e]
    refine item_tup ?_ i
    have hd := (h d (List.mem_cons_self ..)).head
    have hne : d.txt ≠ [] := by
      intro e0
      have i0 := h d (List.mem_cons_self ..) [] (fun c hc => by cases hc)
      rw [e0] at i0
      have : NoItem [] := noitem_atom (by simp) (by unfold atom; simp [numOk])
      exact this.not i0
    cases ds with
    | nil =>
      show (d.txt ++ 41 :: r).head? ≠ _
      rw [head_app hne]
      exact hd
    | cons e2 ds =>
      show ((d.txt ++ ([32] ++ TL.joinL [32] ((e2 :: ds).map Dat.txt))) ++ 41 :: r).head? ≠ _
      rw [List.append_assoc, head_app hne]
      exact hd
/-! ### how deep -/
theorem Sh.mono {j k : Int} {t : List Nat} (h : Sh j t) (le : j ≤ k) : Sh k t := fun a b e => Int.le_trans (h a b e) le
theorem sh_flat {l : List Nat} (h : ∀ c ∈ l, c ≠ 40 ∧ c ≠ 41) : Sh 0 l := fun a b e => by
  rw [bal_flat fun c hc => h c (by rw [e]; exact List.mem_append_left _ hc)]
  exact Int.le_refl 0
theorem sh_app {k : Int} {a b : List Nat} (h1 : Sh k a) (h2 : Sh (k - bal a) b) : Sh k (a ++ b) := by
  intro x y e
  rcases List.append_eq_append_iff.mp e with ⟨m, e1, e2⟩ | ⟨m, e1, e2⟩
  · rw [e1, bal_app]
    have := h2 m y e2
    omega
  · exact h1 x m e1
theorem sh_one {k : Int} {c : Nat} (h : (if c = 40 then 1 else 0) ≤ k) : Sh k [c] := by
  intro a b e
  cases a with
  | nil =>
    show (0 : Int) ≤ k
    split at h <;> omega
  | cons x r =>
    have e1 : c = x := by
      simp at e
      exact e.1
    have e2 : r = [] := by
      simp at e
      exact e.2.1
    subst e1 e2
    rw [bal, bal]
    split at h
    · rw [if_pos (by assumption)]
      omega
    · rw [if_neg (by assumption)]
      split <;> omega
theorem joinL_bal : ∀ (ds : List Dat), (∀ d ∈ ds, bal d.txt = 0) → bal (TL.joinL [32] (ds.map Dat.txt)) = 0
  | [], _ => rfl
  | [d], h => h d (List.mem_cons_self ..)
  | d :: e :: ds, h => by
    have ih := joinL_bal (e :: ds) fun x hx => h x (List.mem_cons_of_mem _ hx)
    show bal (d.txt ++ ([32] ++ TL.joinL [32] ((e :: ds).map Dat.txt))) = 0
    rw [bal_app, bal_app, ih, h d (List.mem_cons_self ..)]
    rfl
theorem joinL_sh {k : Nat} : ∀ (ds : List Dat), (∀ d ∈ ds, Sh (k : Int) d.txt ∧ bal d.txt = 0) → Sh (k : Int) (TL.joinL [32] (ds.map Dat.txt))
  | [], _ => (sh_flat (fun c hc => by cases hc)).mono (by omega)
  | [d], h => (h d (List.mem_cons_self ..)).1
  | d :: e :: ds, h => by
    have ih := joinL_sh (e :: ds) fun x hx => h x (List.mem_cons_of_mem _ hx)
    have hd := h d (List.mem_cons_self ..)
    show Sh (k : Int) (d.txt ++ ([32] ++ TL.joinL [32] ((e :: ds).map Dat.txt)))
    refine sh_app hd.1 (sh_app (sh_one (by rw [hd.2]; simp)) ?_)
    rw [hd.2, show bal [32] = 0 from rfl]
    exact ih.mono (by omega)
/-! ### prefixes that do not fall below nought -/
theorem lo_flat {l : List Nat} (h : ∀ c ∈ l, c ≠ 40 ∧ c ≠ 41) : Lo l := fun a b e => by
  rw [bal_flat fun c hc => h c (by rw [e]; exact List.mem_append_left _ hc)]
  exact Int.le_refl 0
theorem lo_app {a b : List Nat} (h1 : Lo a) (h2 : ∀ x y, b = x ++ y → 0 ≤ bal a + bal x) : Lo (a ++ b) := by
  intro x y e
  rcases List.append_eq_append_iff.mp e with ⟨m, e1, e2⟩ | ⟨m, e1, e2⟩
  · rw [e1, bal_app]
    exact h2 m y e2
  · exact h1 x m e1
theorem joinL_lo : ∀ (ds : List Dat), (∀ d ∈ ds, Lo d.txt ∧ bal d.txt = 0) → Lo (TL.joinL [32] (ds.map Dat.txt))
  | [], _ => lo_flat (fun c hc => by cases hc)
  | [d], h => (h d (List.mem_cons_self ..)).1
  | d :: e :: ds, h => by
    have ih := joinL_lo (e :: ds) fun x hx => h x (List.mem_cons_of_mem _ hx)
    have hd := h d (List.mem_cons_self ..)
    show Lo (d.txt ++ ([32] ++ TL.joinL [32] ((e :: ds).map Dat.txt)))
    have l2 : Lo ([32] ++ TL.joinL [32] ((e :: ds).map Dat.txt)) := lo_app (lo_flat fun c hc => by rw [List.mem_singleton.mp hc]; decide) fun x y exy => by
      have := ih x y exy
      rw [show bal [32] = 0 from rfl]
      omega
    exact lo_app hd.1 fun x y exy => by
      have := l2 x y exy
      rw [hd.2]
      omega
/-! ### blocks of figures -/
theorem Runs.mono {n m : Nat} {t : List Nat} (h : Runs n t) (le : n ≤ m) : Runs m t := fun a b c e x => Nat.le_trans (h a b c e x) le
theorem runs_len (t : List Nat) : Runs t.length t := fun a b c e _ => by
  rw [e, List.length_append, List.length_append]
  omega
theorem runs_none {t : List Nat} (h : ∀ c ∈ t, isD c = false) : Runs 0 t := fun a b c e x => by
  cases b with
  | nil => exact Nat.le_refl 0
  | cons y r =>
    have h1 := x y (List.mem_cons_self ..)
    rw [h y (by rw [e]; simp)] at h1
    cases h1
theorem runs_app {n m : Nat} {s t : List Nat} (h1 : Runs n s) (h2 : Runs m t) : Runs (n + m) (s ++ t) := by
  intro a b c e x
  rcases List.append_eq_append_iff.mp e with ⟨z, e1, e2⟩ | ⟨z, e1, e2⟩
  · have := h2 z b c e2 x
    omega
  · rcases List.append_eq_append_iff.mp e2 with ⟨y, e3, e4⟩ | ⟨y, e3, e4⟩
    · have := h1 a b y (by rw [e1, e3]) x
      omega
    · have hz : z.length ≤ n := h1 a z [] (by rw [e1, List.append_nil]) fun q hq => x q (by rw [e3]; exact List.mem_append_left _ hq)
      have hy : y.length ≤ m := h2 [] y c (by rw [e4]; rfl) fun q hq => x q (by rw [e3]; exact List.mem_append_right _ hq)
      rw [e3, List.length_append]
      omega
/-- a sign that is no figure parts the blocks -/
theorem runs_sep {n : Nat} {s t : List Nat} {c : Nat} (h1 : Runs n s) (hc : isD c = false) (h2 : Runs n t) : Runs n (s ++ c :: t) := by
  intro a b d e x
  rcases List.append_eq_append_iff.mp e with ⟨z, e1, e2⟩ | ⟨z, e1, e2⟩
  · cases z with
    | nil =>
      cases b with
      | nil => exact Nat.zero_le _
      | cons y r =>
        rw [List.nil_append, List.cons_append] at e2
        injection e2 with e3 e4
        have := x y (List.mem_cons_self ..)
        rw [← e3, hc] at this
        cases this
    | cons y r =>
      rw [List.cons_append] at e2
      injection e2 with e3 e4
      exact h2 r b d e4 x
  · rcases List.append_eq_append_iff.mp e2 with ⟨y, e3, e4⟩ | ⟨y, e3, e4⟩
    · exact h1 a b y (by rw [e1, e3]) x
    · cases y with
      | nil => exact h1 a b [] (by rw [e1, e3, List.append_nil, List.append_nil]) x
      | cons q r =>
        rw [List.cons_append] at e4
        injection e4 with e5 e6
        have := x q (by rw [e3]; exact List.mem_append_right _ (List.mem_cons_self ..))
        rw [← e5, hc] at this
        cases this
theorem joinL_runs {n : Nat} : ∀ (ds : List Dat), (∀ d ∈ ds, Runs n d.txt) → Runs n (TL.joinL [32] (ds.map Dat.txt))
  | [], _ => (runs_none (fun c hc => by cases hc)).mono (Nat.zero_le _)
  | [d], h => h d (List.mem_cons_self ..)
  | d :: e :: ds, h => by
    have ih := joinL_runs (e :: ds) fun x hx => h x (List.mem_cons_of_mem _ hx)
    exact runs_sep (h d (List.mem_cons_self ..)) rfl ih
theorem ok_tup {k : Nat} {ds : List Dat} (h : ∀ d ∈ ds, Okd k d) : Okd (k + 1) (.tup ds) := by
  have h1 := joinL_sh ds fun d hd => ⟨(h d hd).2.1, (h d hd).2.2.1⟩
  have h2 := joinL_bal ds fun d hd => (h d hd).2.2.1
  have h3 := joinL_lo ds fun d hd => ⟨(h d hd).2.2.2.1, (h d hd).2.2.1⟩
  have h4 := joinL_runs ds fun d hd => (h d hd).2.2.2.2
  have nil0 : Runs 4401 ([] : List Nat) := (runs_none (fun c hc => by cases hc)).mono (Nat.zero_le _)
  refine ⟨rd_tup fun d hd => (h d hd).1, ?_, ?_, ?_, ?_⟩
  · rw [txt_tup]
    show Sh _ ([40] ++ (_ ++ [41]))
    refine sh_app (sh_one (by simp; omega)) (sh_app (h1.mono (by rw [show bal [40] = 1 from rfl]; omega)) (sh_one ?_))
    rw [h2, show bal [40] = 1 from rfl]
    simp
  · rw [txt_tup, bal, bal_app, h2]
    rfl
  · rw [txt_tup]
    intro a b e
    cases a with
    | nil => exact Int.le_refl 0
    | cons c r =>
      rw [List.cons_append] at e
      injection e with e1 e2
      subst e1
      rw [bal, if_pos rfl]
      rcases List.append_eq_append_iff.mp e2 with ⟨m, e3, e4⟩ | ⟨m, e3, e4⟩
      · rw [e3, bal_app, h2]
        cases m with
        | nil => decide
        | cons q m =>
          rw [List.cons_append] at e4
          injection e4 with e5 e6
          cases m with
          | nil =>
            subst e5
            decide
          | cons _ _ => cases e6
      · have := h3 r m e3
        omega
  · rw [txt_tup]
    exact runs_sep (s := []) nil0 rfl (runs_sep (t := []) h4 rfl nil0)
theorem Okd.mono {j k : Nat} {d : Dat} (h : Okd j d) (le : j ≤ k) : Okd k d := ⟨h.1, h.2.1.mono (by omega), h.2.2.1, h.2.2.2.1, h.2.2.2.2⟩
theorem letter_flat {l : List Nat} (h : ∀ c ∈ l, letter c) : ∀ c ∈ l, c ≠ 40 ∧ c ≠ 41 := fun c hc => by
  have := (h c hc).1
  omega
theorem ok_str {l : List Nat} (h0 : l ≠ []) (h : ∀ c ∈ l, letter c) (k : Nat) : Okd k (.str l) := ⟨rd_word h0 h, (sh_flat (letter_flat h)).mono (by omega), bal_flat (letter_flat h), lo_flat (letter_flat h), (runs_none fun c hc => by
    have := (h c hc).1
    simp [isD]
    omega).mono (Nat.zero_le _)⟩
theorem intL_flat (n : Int) : ∀ c ∈ intL n, c ≠ 40 ∧ c ≠ 41 := by
  intro c hc
  unfold intL at hc
  have hn : ∀ c ∈ TL.numL n.natAbs, c ≠ 40 ∧ c ≠ 41 := fun c hc => by
    have := TL.numL_digits n.natAbs c hc
    omega
  split at hc
  · rcases List.mem_cons.mp hc with rfl | hc
    · decide
    · exact hn c hc
  · exact hn c hc
theorem ok_num' (n : Int) (k : Nat) (h : (intL n).length ≤ 4401) : Okd k (.int n) := ⟨rd_int n, (sh_flat (intL_flat n)).mono (by omega), bal_flat (intL_flat n), lo_flat (intL_flat n), (runs_len (intL n)).mono h⟩
end KT

namespace KT
open PySem PySem.Spec PyProof.Rows L2
open C8 (Cal pe_c)
theorem intL_small : ∀ n : Fin 5, (intL (n.val : Int)).length = 1 := by decide +kernel
theorem samp_len {l : List Nat} {d : Dat} (hl : l.length ≤ 8) (h : d ∈ samp l) : d.txt.length ≤ 400 := by
  have i0 : (intL 0).length = 1 := intL_small 0
  have i1 : (intL 1).length = 1 := intL_small 1
  have i2 : (intL 2).length = 1 := intL_small 2
  have i3 : (intL 3).length = 1 := intL_small 3
  have i4 : (intL 4).length = 1 := intL_small 4
  simp only [samp, List.mem_cons, List.not_mem_nil, or_false] at h
  rcases h with rfl | rfl | rfl | rfl | rfl | rfl | rfl | rfl <;>
    simp [Dat.txt, txts, TL.joinL, i0, i1, i2, i3, i4, dS, dI, chars] <;> omega
theorem chars_str {x : String} (h0 : chars x ≠ []) (h : (chars x).all (fun c => decide (97 ≤ c) && decide (c ≤ 122)) = true) (k : Nat) : Okd k (.str (chars x)) :=
  ok_str h0 (fun c hc => by
    have := List.all_eq_true.mp h c hc
    simp at this
    exact this) k
theorem samp_ok {l : List Nat} {d : Dat} (h0 : 1 ≤ l.length) (hl : ∀ c ∈ l, letter c) (h : d ∈ samp l) : Okd 5 d := by
  have w : ∀ k, Okd k (.str l) := fun k => ok_str (by intro e; rw [e] at h0; exact absurd h0 (by decide)) hl k
  have i : ∀ (n : Fin 5) k, Okd k (dI (n.val : Int)) := fun n k => ok_num' _ k (by rw [intL_small n]; decide)
  have iN : ∀ (n : Int) k, (0 ≤ n ∧ n < 5) → Okd k (dI n) := fun n k h => by
    have := i ⟨n.toNat, by omega⟩ k
    rw [show ((n.toNat : Nat) : Int) = n by omega] at this
    exact this
  have t1 : ∀ {k : Nat} {a : Dat}, Okd k a → Okd (k + 1) (.tup [a]) := fun ha => ok_tup fun x hx => by rw [List.mem_singleton.mp hx]; exact ha
  have hm : ∀ {k : Nat} {a : Dat} {r : List Dat}, Okd k a → (∀ x ∈ r, Okd k x) → ∀ x ∈ a :: r, Okd k x := fun ha hr x hx => by
    rcases List.mem_cons.mp hx with e | hx
    · rw [e]; exact ha
    · exact hr x hx
  have hn : ∀ {k : Nat}, ∀ x ∈ ([] : List Dat), Okd k x := fun x hx => by cases hx
  have s : ∀ (x : String) (k : Nat), (!(chars x == []) && (chars x).all (fun c => decide (97 ≤ c) && decide (c ≤ 122))) = true → Okd k (dS x) := fun x k hx => by
    rw [Bool.and_eq_true] at hx
    exact chars_str (by
      intro e
      rw [e] at hx
      exact absurd hx.1 (by decide)) hx.2 k
  simp only [samp, List.mem_cons, List.not_mem_nil, or_false] at h
  rcases h with rfl | rfl | rfl | rfl | rfl | rfl | rfl | rfl
  · exact (ok_tup (k := 0) (hm (s _ _ (by decide +kernel)) (hm (iN _ _ (by decide)) hn))).mono (by decide)
  · exact (ok_tup (k := 2) (hm (s _ _ (by decide +kernel)) (hm (w _) (hm ((ok_tup (k := 0) (hm (s _ _ (by decide +kernel)) (hm (iN _ _ (by decide)) hn))).mono (by decide)) (hm (ok_tup (k := 1) (hm (s _ _ (by decide +kernel)) (hm (iN _ _ (by decide)) (hm (ok_tup (k := 0) (hm (s _ _ (by decide +kernel)) (hm (w _) hn))) hn)))) hn))))).mono (by decide)
  · exact (ok_tup (k := 2) (hm (ok_tup (k := 1) (hm (w _) (hm (ok_tup (k := 0) (hm (s _ _ (by decide +kernel)) (hm (iN _ _ (by decide)) hn))) hn))) hn)).mono (by decide)
  · exact (ok_tup (k := 1) (hm (w _) (hm (ok_tup (k := 0) (hm (s _ _ (by decide +kernel)) (hm (iN _ _ (by decide)) (hm (iN _ _ (by decide)) hn)))) hn))).mono (by decide)
  · exact (ok_tup (k := 0) hn).mono (by decide)
  · exact (ok_tup (k := 2) (hm (s _ _ (by decide +kernel)) (hm (iN _ _ (by decide)) (hm (w _) (hm ((ok_tup (k := 0) (hm (s _ _ (by decide +kernel)) (hm (iN _ _ (by decide)) hn))).mono (by decide)) (hm ((ok_tup (k := 0) (hm (s _ _ (by decide +kernel)) (hm (iN _ _ (by decide)) (hm (iN _ _ (by decide)) hn)))).mono (by decide)) (hm (ok_tup (k := 1) (hm (ok_tup (k := 0) (hm (s _ _ (by decide +kernel)) (hm (iN _ _ (by decide)) (hm (iN _ _ (by decide)) hn)))) (hm (ok_tup (k := 0) (hm (s _ _ (by decide +kernel)) (hm (s _ _ (by decide +kernel)) hn))) hn))) hn))))))).mono (by decide)
  · refine (ok_tup (k := 3) (hm (s _ _ (by decide +kernel)) (hm (w _) (hm ?_ (hm ?_ hn))))).mono (by decide)
    · exact (ok_tup (k := 1) (hm (s _ _ (by decide +kernel)) (hm (ok_tup (k := 0) (hm (s _ _ (by decide +kernel)) (hm (iN _ _ (by decide)) hn))) hn))).mono (by decide)
    · refine ok_tup (k := 2) (hm (s _ _ (by decide +kernel)) (hm ?_ (hm ?_ hn)))
      · exact (ok_tup (k := 0) (hm (s _ _ (by decide +kernel)) (hm (iN _ _ (by decide)) hn))).mono (by decide)
      · exact ok_tup (k := 1) (hm (s _ _ (by decide +kernel)) (hm (ok_tup (k := 0) (hm (s _ _ (by decide +kernel)) (hm (iN _ _ (by decide)) hn))) (hm (ok_tup (k := 0) (hm (s _ _ (by decide +kernel)) (hm (w _) hn))) (hm (ok_tup (k := 0) (hm (s _ _ (by decide +kernel)) (hm (iN _ _ (by decide)) (hm (iN _ _ (by decide)) hn)))) hn))))
  · exact (ok_tup (k := 1) (hm (s _ _ (by decide +kernel)) (hm (w _) (hm (ok_tup (k := 0) (hm (s _ _ (by decide +kernel)) (hm (iN _ _ (by decide)) hn))) (hm (ok_tup (k := 0) (hm (s _ _ (by decide +kernel)) (hm (iN _ _ (by decide)) hn))) (hm (ok_tup (k := 0) (hm (s _ _ (by decide +kernel)) (hm (iN _ _ (by decide)) (hm (iN _ _ (by decide)) hn)))) (hm (ok_tup (k := 0) (hm (s _ _ (by decide +kernel)) (hm (iN _ _ (by decide)) (hm (iN _ _ (by decide)) hn)))) (hm (ok_tup (k := 0) hn) (hm (ok_tup (k := 0) (hm (s _ _ (by decide +kernel)) (hm (w _) hn))) hn))))))))).mono (by decide)
abbrev sNest : Stmt := top 22
theorem scNest : FnScope ["box", "depth", "form", "word", "value", "text", "k", "many", "rows", "row"] ["box", "depth"] (defScope sNest) := ⟨rfl, rfl, rfl, by decide +kernel, rfl, by decide +kernel, by decide +kernel⟩
/-- the greatest length of a text -/
def Bnd : Nat → Nat
  | 0 => 4401
  | 1 => 13210
  | 2 => 39640
  | 3 => 118930
  | _ => 1665040
theorem bnd_step : ∀ k, k < 4 → (if k + 1 = 4 then 14 else 3) * (Bnd k + 1) + 2 ≤ Bnd (k + 1) ∧ 4401 ≤ Bnd k ∧ 4401 ≤ Bnd (k + 1)
  | 0, _ => by decide
  | 1, _ => by decide
  | 2, _ => by decide
  | 3, _ => by decide
  | _ + 4, h => by omega
theorem bnd_all : ∀ k, 4401 ≤ Bnd k ∧ Bnd k ≤ 1665040
  | 0 => by decide
  | 1 => by decide
  | 2 => by decide
  | 3 => by decide
  | _ + 4 => by show _ ≤ 1665040 ∧ 1665040 ≤ 1665040; decide
/-- at p stands the pair of a value and its text -/
def Pair (H : Hp) (n m : Nat) (p : Addr) (d : Dat) : Prop := ∃ v, H p = some (.tup [v, .str (SX.S d.txt)]) ∧ DV H n v d ∧ d.txt.length ≤ m ∧ Okd n d
theorem Pair.keep {H H' : Hp} {n m : Nat} {p : Addr} {d : Dat} (k : Tups H H') (x : Pair H n m p d) : Pair H' n m p d := by
  obtain ⟨v, h1, h2, h3, h4⟩ := x
  exact ⟨v, k _ _ h1, DVL.keep k (fun _ _ h => h) h2, h3, h4⟩
def spNest (k : Nat) : Sp := fun vs H Q _ => ∃ (b : Addr) (z : Int), vs = [.ref b, .int (k : Int)] ∧ Bx H b z ∧ 0 ≤ z ∧
  ∀ d z' p H', 0 ≤ z' → Bx H' b z' → Kept b H H' → Pair H' (60 + k) (Bnd k) p d → Q (.ref p) H'
theorem counts8 {k : Nat} (h : k < 8) : ∃ m : Nat, ([.int 0, .int 1, .int 2, .int 3, .int 4, .int 5, .int 7, .int 14] : List V)[k]? = some (.int (m : Int)) ∧ m ≤ 14 := by
  have : ∀ k : Fin 8, ∃ m : Nat, ([.int 0, .int 1, .int 2, .int 3, .int 4, .int 5, .int 7, .int 14] : List V)[k.val]? = some (.int (m : Int)) ∧ m ≤ 14 := by
    intro k
    match k with
    | ⟨0, _⟩ => exact ⟨0, rfl, by decide⟩
    | ⟨1, _⟩ => exact ⟨1, rfl, by decide⟩
    | ⟨2, _⟩ => exact ⟨2, rfl, by decide⟩
    | ⟨3, _⟩ => exact ⟨3, rfl, by decide⟩
    | ⟨4, _⟩ => exact ⟨4, rfl, by decide⟩
    | ⟨5, _⟩ => exact ⟨5, rfl, by decide⟩
    | ⟨6, _⟩ => exact ⟨7, rfl, by decide⟩
    | ⟨7, _⟩ => exact ⟨14, rfl, by decide⟩
  exact this ⟨k, h⟩
section
variable {P : Program} {w : World} {K : PySem.W.Frag} {mg : Str → Option Value} {base : Heap} {f : Addr} {fd : FuncData}
theorem ok_nest (F : Fun K "_law_nested" "_law_nested" sNest f fd) (gN : mg "_law_nested" = some (.ref f)) (bN : Binds K fd ["box", "depth"] []) (mR : mg "range" = none) (mT : mg "tuple" = none)
    (cT : Cal P w K mg base 1 "_law_take" spTake []) (cI : Cal P w K mg base 3 "_law_integer" spInt []) (cW : Cal P w K mg base 2 "_law_word" spWord []) (cS : Cal P w K mg base 3 "_law_sample" spSamp []) (cP : Cal P w K mg base 6 "_law_plain" (spText Small 5) []) :
    ∀ k, k ≤ 4 → FnOk P w K mg base CX0 (7 + k) f fd ["box", "depth"] (spNest k) := by
  have body : ∀ k, k ≤ 4 → (∀ j, k = j + 1 → FnOk P w K mg base CX0 (6 + k) f fd ["box", "depth"] (spNest j)) → FnOk P w K mg base CX0 (7 + k) f fd ["box", "depth"] (spNest k) := by
    intro k k4 ih
    rw [show 7 + k = (6 + k) + 1 by omega]
    refine F.ok scNest (fun vs H Q E h => ?_) (fun cdv A outer s H vs Q E hr h => ?_)
    · obtain ⟨b, z, rfl, _⟩ := h
      rfl
    obtain ⟨b, z, rfl, hb, hz, q⟩ := h
    have hB := bnd_all k
    -- the calls that do not hang on the depth
    have rest : ∃ t, PSs (cxOf CX0 P w K mg base ["box", "depth", "form", "word", "value", "text", "k", "many", "rows", "row"] "_law_nested" (defScope sNest) f cdv A outer s H E).nox ((defBody sNest).drop 5) t ∧
        (0 < k → ∀ y2 y3 y4 y5 y6 z1 H1, 0 ≤ z1 → Bx H1 b z1 → Kept b H H1 → t { nx := fun _ H' => Q .non H', rt := Q } [some (.ref b), some (.int (k : Int)), y2, y3, y4, y5, y6, none, none, none] H1) := by
      rcases Nat.eq_zero_or_pos k with k0 | k0
      · exact ⟨_, pss_never, fun h => absurd h (by omega)⟩
      obtain ⟨j, rfl⟩ : ∃ j, k = j + 1 := ⟨k - 1, by omega⟩
      have cN : Cal P w K mg base (6 + (j + 1)) "_law_nested" (spNest j) [] := ⟨f, fd, _, _, ih j rfl, gN, F.kp, bN, .nil⟩
      refine ⟨_, C8.pss_cut (ps_set (i := 7) scNest.nd rfl (Or.inl rfl) (pe_ifExp (pt_cmpR op_eq (pv 1) pe_int (nomark _))
          (pe_ix ix_list (pe_lst (pa_cons pe_int (pa_cons pe_int (pa_cons pe_int (pa_cons pe_int (pa_cons pe_int (pa_cons pe_int (pa_cons pe_int (pa_cons pe_int pa_nil))))))))) (pe_c cT hr (by omega) (by rfl) (pa_cons (pv 0) (pa_cons pe_int pa_nil))) (fun _ _ => rfl))
          (pe_c cT hr (by omega) (by rfl) (pa_cons (pv 0) (pa_cons pe_int pa_nil)))))
        (pss_cons (ps_setLc (i := 8) (own := [("k", 6)]) (g := gName 6) (by rfl) scNest.nd rfl rfl (sw_true rfl rfl rfl (by decide +kernel)) (pi_range1 (by rfl) mR (pa_cons (pv 7) pa_nil)) (blkOk_by (N := ["box", "depth", "form", "word", "value", "text", "k", "many", "rows", "row"]) (sc := defScope sNest) (by decide +kernel)) (fun _ _ _ _ _ => pg_name (i := 6) scNest.nd rfl (Or.inl rfl)) (fun _ _ _ _ _ => pts_nil)
          (fun _ _ _ _ _ => pe_c cN hr (Nat.le_refl _) (by rfl) (pa_cons (pv 0) (pa_cons (pe_op op_sub (pv 1) pe_int) pa_nil))))
        (pss_one (ps_ret (pe_tup (pa_cons (pe_tupleOf (by rfl) mT (pe_lc (own := [("row", 9)]) (g := gName 9) (te := tOp (rIxT K) (tVar 9) (tC (.int 0))) rfl scNest.nd (pi_list (pv 8)) (blkOk_by (N := ["box", "depth", "form", "word", "value", "text", "k", "many", "rows", "row"]) (sc := defScope sNest) (by decide +kernel)) (fun _ _ _ _ _ => pg_name (i := 9) scNest.nd rfl (Or.inl rfl)) (fun _ _ _ _ _ => pts_nil)
            (fun _ _ _ _ _ => pe_ix ix_tup (pv 9) pe_int (fun _ _ => rfl))))
          (pa_cons (pe_op op_add_str (pe_op op_add_str pe_str (pe_join pe_str (pe_lc (own := [("row", 9)]) (g := gName 9) (te := tOp (rIxT K) (tVar 9) (tC (.int 1))) rfl scNest.nd (pi_list (pv 8)) (blkOk_by (N := ["box", "depth", "form", "word", "value", "text", "k", "many", "rows", "row"]) (sc := defScope sNest) (by decide +kernel)) (fun _ _ _ _ _ => pg_name (i := 9) scNest.nd rfl (Or.inl rfl)) (fun _ _ _ _ _ => pts_nil)
            (fun _ _ _ _ _ => pe_ix ix_tup (pv 9) pe_int (fun _ _ => rfl))))) pe_str) pa_nil)))))), fun _ y2 y3 y4 y5 y6 z1 H1 hz1 hb1 k1 => ?_⟩
      -- how many
      refine ⟨fun σ H2 => ∃ (m : Nat) (z2 : Int), σ = [some (.ref b), some (.int ((j + 1 : Nat) : Int)), y2, y3, y4, y5, y6, some (.int (m : Int)), none, none] ∧ m ≤ (if j + 1 = 4 then 14 else 3) ∧ 0 ≤ z2 ∧ Bx H2 b z2 ∧ Kept b H H2, ?_, ?_⟩
      · refine ⟨_, rfl, rfl, _, rfl, ?_⟩
        refine ite2 (fun e => ?_) (fun e => ?_)
        · have e4 : j + 1 = 4 := by
            have := V.int.inj (of_decide_eq_true e)
            omega
          refine ⟨by show 8 ≤ sizeLine; decide, fun p hp => ?_⟩
          have npb := hb1.ne hp
          obtain ⟨i, ei⟩ := toNat_of (mod_lt' (z := z1) (m := 8) (by decide)).1
          have i8 := (mod_lt' (z := z1) (m := 8) (by decide)).2
          obtain ⟨m, em, m14⟩ := counts8 (k := i) (by omega)
          refine ⟨_, rfl, b, z1, 8, rfl, hb1.new hp, by decide, by decide, p, _, (i : Int), _, rfl, by rw [ei], .inl (.inl ?_), atI_nat em, m, z1 / 8, rfl, by rw [if_pos e4]; exact m14, div_nn hz1 (by decide), upd_same, (k1.trans (Kept.new hp)).trans Kept.upd⟩
          rw [upd_ne npb, upd_same]
        · have e4 : ¬ j + 1 = 4 := fun h => e (by rw [h]; exact decide_eq_true rfl)
          obtain ⟨i, ei⟩ := toNat_of (mod_lt' (z := z1) (m := 4) (by decide)).1
          have i4 := (mod_lt' (z := z1) (m := 4) (by decide)).2
          exact ⟨_, rfl, b, z1, 4, rfl, hb1, by decide, by decide, i, z1 / 4, by rw [ei]; rfl, by rw [if_neg e4]; omega, div_nn hz1 (by decide), upd_same, k1.trans Kept.upd⟩
      rintro σ H2 ⟨m, z2, rfl, m3, hz2, hb2, k2⟩
      have m14 : m ≤ 14 := by split at m3 <;> omega
      -- the rows
      refine ⟨_, rfl, (m : Int), rfl, by omega, by omega, fun R hR => ?_⟩
      have nRb := hb2.ne hR
      refine lc_range (n := ((m : Int)).toNat) (fun i H3 => ∃ (ps : List Addr) (ds : List Dat) (z3 : Int), ps.length = i ∧ H3 R = some (.lst (ps.map V.ref)) ∧ Paired (Pair H3 (60 + j) (Bnd j)) ps ds ∧ 0 ≤ z3 ∧ Bx H3 b z3 ∧ Kept b H2 H3)
        ⟨[], [], z2, rfl, upd_same, .nil, hz2, hb2.new hR, Kept.new hR⟩ (fun i H3 hi hP => ?_) (fun H3 hP => ?_)
      · obtain ⟨ps, ds, z3, rfl, eR, hp, hz3, hb3, k3⟩ := hP
        refine ⟨rfl, ?_⟩
        refine ⟨_, rfl, _, rfl, _, _, rfl, rfl, b, z3, ?_, hb3, hz3, fun d z4 p H4 hz4 hb4 k4 hd => ?_⟩
        · show [V.ref b, V.int (((j + 1 : Nat) : Int) - 1)] ++ [] = _
          rw [show ((j + 1 : Nat) : Int) - 1 = (j : Int) by omega]
          rfl
        · have eR4 := k4 R _ nRb eR
          have tk : Tups H4 (upd H4 R (.lst (ps.map V.ref ++ [V.ref p]))) := fun x ys hx => by
            rw [upd_ne (fun e => by
              subst e
              rw [eR4] at hx
              cases hx)]
            exact hx
          refine ⟨_, eR4, ?_, ps ++ [p], ds ++ [d], z4, by simp, ?_, Paired.snoc (Paired.mono (fun _ _ x => (x.keep (Kept.tups hb3 k4)).keep tk) hp) (hd.keep tk), hz4, ?_, ?_⟩
          · rw [List.length_map]
            exact small1000 (by omega)
          · rw [upd_same, List.map_append]
            rfl
          · unfold Bx
            rw [upd_ne nRb.symm]
            exact hb4
          · intro a o hab ha
            rw [upd_ne (ne_of_none ha hR)]
            exact k4 a o hab (k3 a o hab ha)
      obtain ⟨ps, ds, z3, hps, eR, hp, hz3, hb3, k3⟩ := hP
      have hds := hp.length
      have hL : SqL K H3 R (ps.map V.ref) := SqL.of eR
      have vals : ∃ xs, Paired (DV H3 (60 + j)) xs ds ∧ Paired (fun (p : Addr) (x : V) => ∃ d : Dat, H3 p = some (.tup [x, .str (SX.S d.txt)])) ps xs := by
        clear hps hds eR hL
        induction hp with
        | nil => exact ⟨[], .nil, .nil⟩
        | cons h t ih =>
          obtain ⟨xs, h1, h2⟩ := ih
          obtain ⟨v, e1, e2, e3, e4⟩ := h
          exact ⟨v :: xs, .cons e2 h1, .cons ⟨_, e1⟩ h2⟩
      obtain ⟨xs, hxs, hxp⟩ := vals
      have lxs := hxs.length
      -- the values
      refine ⟨_, rfl, R, rfl, ⟨_, hL⟩, fun D hD => ?_⟩
      refine lc_list (xs := ps.map V.ref) (fun i H4 => Same H3 H4 ∧ H4 D = some (.lst (xs.take i))) ⟨Same.upd_new hD, upd_same⟩ (fun i H4 _ hP => hP.1.seq hL) (fun i x H4 hx hP => ?_) (fun H4 hP => ?_)
      · obtain ⟨s4, eD⟩ := hP
        rw [List.getElem?_map] at hx
        cases hpi : ps[i]? with
        | none => rw [hpi] at hx; cases hx
        | some p =>
          rw [hpi] at hx
          cases hx
          obtain ⟨v, hv, d, hd⟩ := Paired.at hxp hpi
          refine ⟨rfl, ?_⟩
          refine ⟨_, rfl, p, _, 0, v, rfl, rfl, .inl (.inl (s4 _ _ hd)), rfl, _, eD, ?_, ?_, ?_⟩
          · rw [List.length_take]
            exact small1000 (by omega)
          · intro a o ha
            rw [upd_ne (ne_of_none ha hD)]
            exact s4 _ _ ha
          · rw [upd_same, List.take_add_one, hv]
            rfl
      obtain ⟨s4, eD⟩ := hP
      rw [List.take_of_length_le (by rw [List.length_map]; omega)] at eD
      refine .inl ⟨D, xs, rfl, SqL.of eD, fun T hT => ?_⟩
      have s5 : Same H3 (upd H4 T (.tup xs)) := s4.trans (Same.upd_new hT)
      -- the texts
      refine ⟨⟨_, rfl⟩, _, rfl, R, rfl, ⟨_, s5.seq hL⟩, fun D2 hD2 => ?_⟩
      have hps2 : Paired (fun (p : Addr) (d : Dat) => ∃ x : V, H3 p = some (.tup [x, .str (SX.S d.txt)])) ps ds := Paired.mono (fun _ _ h => ⟨h.choose, h.choose_spec.1⟩) hp
      have hlen : ∀ d ∈ ds, d.txt.length ≤ Bnd j := by
        intro d hd
        obtain ⟨p, h⟩ := Paired.right hp d hd
        exact h.choose_spec.2.2.1
      have hoks : ∀ d ∈ ds, Okd (60 + j) d := by
        intro d hd
        obtain ⟨p, h⟩ := Paired.right hp d hd
        exact h.choose_spec.2.2.2
      refine lc_list (xs := ps.map V.ref) (fun i H5 => Same (upd H4 T (.tup xs)) H5 ∧ H5 D2 = some (.lst ((ds.take i).map fun d => V.str (SX.S d.txt)))) ⟨Same.upd_new hD2, upd_same⟩ (fun i H5 _ hP => (s5.trans hP.1).seq hL) (fun i x H5 hx hP => ?_) (fun H5 hP => ?_)
      · obtain ⟨s6, eD2⟩ := hP
        rw [List.getElem?_map] at hx
        cases hpi : ps[i]? with
        | none => rw [hpi] at hx; cases hx
        | some p =>
          rw [hpi] at hx
          cases hx
          obtain ⟨d, hd, v, hv⟩ := Paired.at hps2 hpi
          refine ⟨rfl, ?_⟩
          refine ⟨_, rfl, p, _, 1, _, rfl, rfl, .inl (.inl (s6 _ _ (s5 _ _ hv))), rfl, _, eD2, ?_, ?_, ?_⟩
          · rw [List.length_map, List.length_take]
            exact small1000 (by omega)
          · intro a o ha
            rw [upd_ne (ne_of_none ha hD2)]
            exact s6 _ _ ha
          · rw [upd_same, List.take_add_one, hd, List.map_append]
            rfl
      obtain ⟨s6, eD2⟩ := hP
      rw [List.take_of_length_le (by rw [List.length_map]; omega)] at eD2
      obtain ⟨hsum, hone⟩ := txt_bounds ds
      have hb := bnd_step j (by omega)
      have hmany : ds.length ≤ (if j + 1 = 4 then 14 else 3) := by omega
      have htot : ((ds.map Dat.txt).map (·.length)).sum ≤ ds.length * Bnd j := by
        clear hsum hone eD2 hps2 hp hxs hxp hds lxs hmany hoks
        induction ds with
        | nil => simp
        | cons d r ih =>
          have h1 := hlen d (List.mem_cons_self ..)
          have h2 := ih fun x hx => hlen x (List.mem_cons_of_mem _ hx)
          rw [List.map_cons, List.map_cons, List.sum_cons, List.length_cons, Nat.succ_mul]
          omega
      have hall : (Dat.tup ds).txt.length ≤ Bnd (j + 1) := by
        have e := joinL_len (ds.map Dat.txt)
        have e2 : (Dat.tup ds).txt.length = (TL.joinL [32] (ds.map Dat.txt)).length + 2 := by rw [txt_tup]; simp
        rw [List.length_map] at e
        have h1 : ds.length * Bnd j + ds.length ≤ (if j + 1 = 4 then 14 else 3) * (Bnd j + 1) := by
          rw [show ds.length * Bnd j + ds.length = ds.length * (Bnd j + 1) by rw [Nat.mul_add, Nat.mul_one]]
          exact Nat.mul_le_mul_right _ hmany
        have h2 := hb.1
        generalize (if j + 1 = 4 then 14 else 3) * (Bnd j + 1) = big at h1 h2
        split at e
        · omega
        · omega
      have hmax := (bnd_all (j + 1)).2
      refine ⟨_, D2, ds.map fun d => SX.S d.txt, rfl, rfl, .inl (SqL.of (by rw [List.map_map]; exact eD2)), ?_, ?_⟩
      · have e : ((ds.map fun d => SX.S d.txt).map (·.length)) = (ds.map Dat.txt).map (·.length) := by
          rw [List.map_map, List.map_map]
          exact List.map_congr_left fun d _ => SX.S_len d.txt
        rw [e, List.length_map, show ((" " : Str)).length = 1 by decide +kernel]
        omega
      have et := txt_tup ds
      have el : (TL.joinL [32] (ds.map Dat.txt)).length + 2 = (Dat.tup ds).txt.length := by
        rw [et]
        simp
      have e1 : ("(" : Str) = SX.S [40] := by decide +kernel
      have e2 : (")" : Str) = SX.S [41] := by decide +kernel
      rw [join_dat]
      refine ⟨_, _, rfl, rfl, ?_, _, _, rfl, rfl, ?_, ?_, fun p hpn => ?_⟩
      · rw [e1, SX.S_len, SX.S_len]
        exact Nat.le_trans (show _ ≤ 10000000 by simp; omega) (by decide)
      · rw [e1, e2, SX.S_cat, SX.S_len, SX.S_len]
        exact Nat.le_trans (show _ ≤ 10000000 by simp; omega) (by decide)
      · show 2 ≤ sizeLine
        decide
      · have s7 : Same H3 H5 := s5.trans s6
        have s8 : Same H3 (upd H5 p (.tup [.ref T, .str (SX.S [40] ++ SX.S (TL.joinL [32] (ds.map Dat.txt)) ++ SX.S [41])])) := s7.trans (Same.upd_new hpn)
        rw [e1, e2]
        refine q (.tup ds) z3 p _ hz3 (s8 _ _ hb3) ((k2.trans k3).trans (Kept.of s8)) ⟨.ref T, ?_, ?_, hall, (ok_tup hoks).mono (by omega)⟩
        · rw [upd_same, SX.S_cat, SX.S_cat, et]
          rfl
        · rw [show 60 + (j + 1) = (60 + j) + 1 by omega]
          refine DVL.tup (xs := xs) ?_ (Paired.mono (fun _ _ h => DVL.tups s8 h) hxs)
          rw [upd_ne (ne_of_none (s6 _ _ upd_same) hpn)]
          exact s6 _ _ upd_same
    obtain ⟨tr, hrest, qrest⟩ := rest
    refine ⟨_, pss_cons (ps_set (i := 2) scNest.nd rfl (Or.inl rfl) (pe_c cT hr (by omega) (by rfl) (pa_cons (pv 0) (pa_cons pe_int pa_nil))))
      (pss_cons (ps_if (PW.pt (pw_or (pt_cmpR op_eq (pv 2) pe_int (nomark _)) (pw_or1 (pt_cmpR op_eq (pv 1) pe_int (nomark _))))) (pss_one (ps_ret (pe_c cI hr (by omega) (by rfl) (pa_cons (pv 0) pa_nil)))) pss_nil)
      (pss_cons (ps_if (pt_cmpR op_eq (pv 2) pe_int (nomark _)) (pss_cons (ps_set (i := 3) scNest.nd rfl (Or.inl rfl) (pe_c cW hr (by omega) (by rfl) (pa_cons (pv 0) pa_nil))) (pss_one (ps_ret (pe_tup (pa_cons (pv 3) (pa_cons (pv 3) pa_nil)))))) pss_nil)
      (pss_cons (ps_if (pt_cmpR op_eq (pv 2) pe_int (nomark _)) (pss_cons (ps_set (i := 4) scNest.nd rfl (Or.inl rfl) (pe_c cS hr (by omega) (by rfl) (pa_cons (pv 0) pa_nil))) (pss_one (ps_ret (pe_tup (pa_cons (pv 4) (pa_cons (pe_c cP hr (by omega) (by rfl) (pa_cons (pv 4) pa_nil)) pa_nil)))))) pss_nil)
      (pss_cons (ps_if (pt_cmpR op_eq (pv 2) pe_int (nomark _)) (pss_cons (ps_set (i := 4) scNest.nd rfl (Or.inl rfl) (pe_c cW hr (by omega) (by rfl) (pa_cons (pv 0) pa_nil)))
          (pss_cons (ps_set (i := 5) scNest.nd rfl (Or.inl rfl) (pv 4))
          (pss_cons (ps_for PassesOwn.never rfl (pi_range1 (by rfl) mR (pa_cons (pe_c cT hr (by omega) (by rfl) (pa_cons (pv 0) (pa_cons pe_int pa_nil))) pa_nil)) (pg_name (i := 6) scNest.nd rfl (Or.inl rfl))
            (pss_one (ps_par (i := 4) (j := 5) (by rfl) scNest.nd rfl rfl (by decide) rfl rfl (pa_cons (pe_tup (pa_cons (pv 4) pa_nil)) (pa_cons (pe_op op_add_str (pe_op op_add_str pe_str (pv 5)) pe_str) pa_nil)) (by rfl))))
          (pss_one (ps_ret (pe_tup (pa_cons (pv 4) (pa_cons (pv 5) pa_nil)))))))) pss_nil)
      hrest)))), ?_⟩
    have h7 := mod_lt' (z := z) (m := 7) (by decide)
    have z7 := div_nn hz (show (0 : Int) < 7 by decide)
    refine ⟨_, rfl, b, z, 7, rfl, hb, by decide, by decide, ?_⟩
    generalize hz1 : z / 7 = z1 at z7
    generalize hH1 : upd H b (.lst [.int z1]) = H1
    have hb1 : Bx H1 b z1 := by rw [← hH1]; exact upd_same
    have k1 : Kept b H H1 := by rw [← hH1]; exact Kept.upd
    generalize hf : z % 7 = fm at h7
    clear hz1 hH1 hf
    -- a whole number
    have int : ∀ y3 y4 y5 y6 y7 y8 y9, tRet (tCall spInt [] E0 (tCons (tVar 0) tNil)) { nx := fun _ H' => Q .non H', rt := Q } [some (.ref b), some (.int (k : Int)), some (.int fm), y3, y4, y5, y6, y7, y8, y9] H1 := by
      intro y3 y4 y5 y6 y7 y8 y9
      refine ⟨_, rfl, b, z1, rfl, hb1, z7, fun n z2 p H2 l2 hz2 hb2 k2 e2 => ?_⟩
      exact q (.int n) z2 p H2 hz2 hb2 (k1.trans k2) ⟨.int n, e2, DVL.leaf (.inr ⟨n, rfl, rfl⟩) _, Nat.le_trans l2 hB.1, ok_num' n _ l2⟩
    refine ⟨_, rfl, rfl, _, rfl, ?_⟩
    refine ite2 (fun e => int _ _ _ _ _ _ _) (fun e0 => ?_)
    refine ⟨_, rfl, rfl, _, rfl, ?_⟩
    refine ite2 (fun e => int _ _ _ _ _ _ _) (fun ek => ?_)
    have kpos : 0 < k := by
      rcases Nat.eq_zero_or_pos k with h0 | h0
      · subst h0
        exact absurd (by decide) ek
      · exact h0
    -- a word
    refine ⟨_, rfl, rfl, _, rfl, ?_⟩
    refine ite2 (fun e => ?_) (fun e1 => ?_)
    · refine ⟨_, rfl, b, z1, rfl, hb1, z7, fun l z2 H2 hl hz2 hb2 k2 => ?_⟩
      refine ⟨_, rfl, _, rfl, by show 2 ≤ sizeLine; decide, fun p hp => ?_⟩
      exact q (.str l) z2 p _ hz2 (hb2.new hp) ((k1.trans k2).trans (Kept.new hp)) ⟨_, upd_same, DVL.leaf (.inl ⟨l, rfl, rfl⟩) _, Nat.le_trans (show l.length ≤ 4401 by have := hl.2.1; omega) hB.1, ok_str (by intro e; have := hl.1; rw [e] at this; exact absurd this (by decide)) hl.2.2 _⟩
    -- a sample
    refine ⟨_, rfl, rfl, _, rfl, ?_⟩
    refine ite2 (fun e => ?_) (fun e2 => ?_)
    · refine ⟨_, rfl, b, z1, rfl, hb1, z7, fun l d v z2 H2 l1 l8 ll hd hz2 hb2 k2 hv => ?_⟩
      have dl := samp_len l8 hd
      refine ⟨_, rfl, _, rfl, v, d, rfl, hv, by omega, fun H3 s3 => ?_⟩
      refine ⟨by show 2 ≤ sizeLine; decide, fun p hp => ?_⟩
      have hb3 : Bx H3 b z2 := s3 _ _ hb2
      exact q d z2 p _ hz2 (hb3.new hp) (((k1.trans k2).trans (Kept.of s3)).trans (Kept.new hp)) ⟨_, upd_same, DVL.mono (DVL.keep (KT.Same.tups (s3.trans (Same.upd_new hp))) (fun _ _ h => h.leaf) hv) (by omega), Nat.le_trans (show d.txt.length ≤ 4401 by omega) hB.1, (samp_ok l1 ll hd).mono (by omega)⟩
    -- a word in many tuples
    refine ⟨_, rfl, rfl, _, rfl, ?_⟩
    refine ite2 (fun e => ?_) (fun e3 => ?_)
    · refine ⟨_, rfl, b, z1, rfl, hb1, z7, fun l z2 H2 hl hz2 hb2 k2 => ?_⟩
      have m60 := mod_lt' (z := z2) (m := 60) (by decide)
      obtain ⟨j, ej⟩ := toNat_of m60.1
      refine ⟨_, rfl, _, rfl, b, z2, 60, rfl, hb2, by decide, by decide, (j : Int), by rw [ej], by omega, by omega, ?_⟩
      refine for_range (n := ((j : Int)).toNat) (fun i σ H3 => ∃ v d y6, σ = [some (.ref b), some (.int (k : Int)), some (.int fm), none, some v, some (.str (SX.S d.txt)), y6, none, none, none] ∧ DV H3 i v d ∧ (d.txt.length ≤ 68 + 2 * i ∧ Okd i d) ∧ Bx H3 b (z2 / 60) ∧ Kept b H H3)
        ⟨.str (SX.S l), .str l, none, rfl, .inl ⟨l, rfl, rfl⟩, ⟨hl.2.1, ok_str (by intro e; have := hl.1; rw [e] at this; exact absurd this (by decide)) hl.2.2 _⟩, upd_same, (k1.trans k2).trans Kept.upd⟩ (fun i σ H3 hi hP => ?_) (fun σ H3 hP => ?_)
      · obtain ⟨v, d, y6, rfl, hv, ⟨hd, hok⟩, hb3, k3⟩ := hP
        refine ⟨_, rfl, by show 1 ≤ sizeLine; decide, fun p hp => ?_⟩
        have e1 : ("(" : Str) = SX.S [40] := by decide +kernel
        have e2 : (")" : Str) = SX.S [41] := by decide +kernel
        refine ⟨_, rfl, _, _, rfl, rfl, ?_, _, _, rfl, rfl, ?_, _, _, rfl, ?_⟩
        · rw [e1, SX.S_len, SX.S_len]
          exact Nat.le_trans (show _ ≤ 1000 by simp; omega) (by decide)
        · rw [e1, e2, SX.S_cat, SX.S_len, SX.S_len]
          exact Nat.le_trans (show _ ≤ 1000 by simp; omega) (by decide)
        · have et : (Dat.tup [d]).txt = 40 :: (d.txt ++ [41]) := by rw [txt_tup]; rfl
          refine ⟨.ref p, .tup [d], some (.int ((0 : Int) + (i : Int))), ?_, DVL.tup upd_same (.cons (DVL.keep (KT.Same.tups (Same.upd_new hp)) (fun _ _ h => h) hv) .nil), ?_, hb3.new hp, k3.trans (Kept.new hp)⟩
          · rw [e1, e2, SX.S_cat, SX.S_cat, et]
            rfl
          · refine ⟨?_, ok_tup fun x hx => by rw [List.mem_singleton.mp hx]; exact hok⟩
            rw [et]
            simp
            omega
      · obtain ⟨v, d, y6, rfl, hv, ⟨hd, hok⟩, hb3, k3⟩ := hP
        refine ⟨_, rfl, _, rfl, by show 2 ≤ sizeLine; decide, fun p hp => ?_⟩
        exact q d (z2 / 60) p _ (div_nn hz2 (by decide)) (hb3.new hp) (k3.trans (Kept.new hp)) ⟨_, upd_same, DVL.mono (DVL.keep (KT.Same.tups (Same.upd_new hp)) (fun _ _ h => h) hv) (by omega), Nat.le_trans (show d.txt.length ≤ 4401 by omega) hB.1, hok.mono (by omega)⟩
    exact qrest kpos _ _ _ _ _ z1 H1 z7 hb1 k1
  intro k
  induction k with
  | zero => exact fun _ => body 0 (by decide) fun j e => by cases e
  | succ k ih =>
    refine fun h => body (k + 1) h fun j e => ?_
    have : k = j := by omega
    subst this
    exact (ih (by omega)).mono (by omega)
end
end KT

namespace KT
open PySem PySem.Spec PyProof.Rows L2
open C8 (Cal pe_c)
abbrev sWrite : Stmt := top 7
end KT

namespace KT
open PySem PySem.Spec PyProof.Rows L2
/-- the last k figures of a number, with zeros ahead -/
def figk : Nat → Nat → List Nat
  | 0, _ => []
  | k + 1, n => figk k (n / 10) ++ [48 + n % 10]
theorem figk_len : ∀ k n, (figk k n).length = k
  | 0, _ => rfl
  | k + 1, n => by simp [figk, figk_len k]
theorem numL_blk : ∀ (k : Nat) {q low : Nat}, 0 < q → low < 10 ^ k → TL.numL (q * 10 ^ k + low) = TL.numL q ++ figk k low
  | 0, q, low, hq, hl => by
    have : low = 0 := by simpa using hl
    subst this
    simp [figk]
  | k + 1, q, low, hq, hl => by
    have hp : 0 < 10 ^ k := Nat.pow_pos (by decide)
    have e0 : q * 10 ^ (k + 1) = 10 * (q * 10 ^ k) := by rw [Nat.pow_succ]; simp [Nat.mul_comm, Nat.mul_left_comm]
    have h10 : 10 ≤ q * 10 ^ (k + 1) + low := by
      rw [e0]
      have : 1 ≤ q * 10 ^ k := Nat.mul_pos hq hp
      omega
    have hl2 : low / 10 < 10 ^ k := by
      rw [Nat.pow_succ] at hl
      omega
    have e1 : (q * 10 ^ (k + 1) + low) / 10 = q * 10 ^ k + low / 10 := by rw [e0]; omega
    have e2 : (q * 10 ^ (k + 1) + low) % 10 = low % 10 := by rw [e0]; omega
    rw [TL.numL_step h10, e1, e2, numL_blk k hq hl2, List.append_assoc]
    rfl
theorem figk_zero : ∀ k, figk k 0 = List.replicate k 48
  | 0 => rfl
  | k + 1 => by
    show figk k (0 / 10) ++ [48 + 0 % 10] = _
    rw [show 0 / 10 = 0 by decide, figk_zero k, List.replicate_succ']
theorem figk_pad : ∀ (k : Nat) {n : Nat}, n < 10 ^ (k + 1) → figk (k + 1) n = List.replicate (k + 1 - (TL.numL n).length) 48 ++ TL.numL n
  | k, n, h => by
    by_cases h9 : n < 10
    · rw [TL.numL_lt h9]
      show figk k (n / 10) ++ [48 + n % 10] = _
      rw [show n / 10 = 0 by omega, show n % 10 = n by omega, figk_zero]
      simp
    · cases k with
      | zero => simp at h; omega
      | succ k =>
        have hl2 : n / 10 < 10 ^ (k + 1) := by
          rw [Nat.pow_succ] at h
          omega
        rw [TL.numL_step (by omega)]
        show figk (k + 1) (n / 10) ++ [48 + n % 10] = _
        rw [figk_pad k hl2, ← List.append_assoc]
        simp
theorem padded_S (l : List Nat) (k c : Nat) : Builtin.Str.padded (SX.S l) k 0 c = SX.S (List.replicate k c ++ l) := by
  refine TL.ext_tl ?_
  show (Array.replicate k c ++ (SX.S l).cps ++ Array.replicate 0 c).toList = _
  simp [SX.S, TL.tl]
theorem zfill_S {l : List Nat} {k : Nat} (h : NumText.AllDigits l) : Txt.zfill (SX.S l) (k : Int) = SX.S (List.replicate (k - l.length) 48 ++ l) := by
  unfold Txt.zfill
  rw [SX.S_len]
  by_cases hk : (k : Int) ≤ (l.length : Int)
  · rw [if_pos hk, show k - l.length = 0 by omega]
    rfl
  · rw [if_neg hk, Int.toNat_natCast]
    have e : zfilled (SX.S l) (k - l.length) = Builtin.Str.padded (SX.S l) (k - l.length) 0 48 := by
      unfold zfilled
      have h0 : (SX.S l).cps[0]? = l[0]? := by simp [SX.S]
      rw [h0]
      cases l with
      | nil => rfl
      | cons c r =>
        have hc := h c (List.mem_cons_self ..)
        show (match some c with | some 43 | some 45 => _ | _ => _) = _
        split
        · rename_i e; have := Option.some.inj e; omega
        · rename_i e; have := Option.some.inj e; omega
        · rfl
    rw [e, padded_S]
theorem zfill_num {n : Nat} (h : n < 10 ^ 18) : Txt.zfill (SX.S (TL.numL n)) 18 = SX.S (figk 18 n) := by
  have e := zfill_S (l := TL.numL n) (k := 18) (TL.numL_digits n)
  rw [figk_pad 17 h]
  exact e
end KT

namespace KT
open PySem PySem.Spec PyProof.Rows L2
open C8 (Cal pe_c)
abbrev sSpaced : Stmt := top 8
abbrev sIT : Stmt := top 9
theorem scIT : FnScope ["number", "rows", "rest", "low"] ["number"] (defScope sIT) := ⟨rfl, rfl, rfl, by decide +kernel, rfl, by decide +kernel, by decide +kernel⟩
def spIT : Sp := fun vs H Q _ => ∃ n : Int, vs = [.int n] ∧ (intL n).length ≤ 10000000 ∧ ∀ H', Same H H' → Q (.str (SX.S (intL n))) H'
theorem join_S' (cs : List (List Nat)) : Txt.join "" (cs.map SX.S) = SX.S cs.flatten := by
  have e := SX.join_S [] cs
  rw [show (("" : Str)) = SX.S [] by decide +kernel]
  refine e.trans (congrArg SX.S (joinL_nil cs))
theorem lens_S (cs : List (List Nat)) : ((cs.map SX.S).map (·.length)).sum = cs.flatten.length := by
  rw [List.map_map, List.length_flatten]
  exact congrArg List.sum (List.map_congr_left fun c _ => SX.S_len c)
theorem ten18 : (1000000000000000000 : Nat) = 10 ^ 18 := by decide
theorem log18 {n : Nat} (h : n < 10 ^ 18) : n.log2 < 1920 := by
  by_cases h0 : n = 0
  · subst h0; decide
  · exact Nat.lt_trans ((Nat.log2_lt h0).mpr (Nat.lt_trans h (show 10 ^ 18 < 2 ^ 60 by decide))) (by decide)
section
variable {P : Program} {w : World} {K : PySem.W.Frag} {mg : Str → Option Value} {base : Heap} {f : Addr} {fd : FuncData}
theorem ok_it {t1 t2 : Tok} (F : Fun K "integer_text" "integer_text" sIT f fd) (mA : mg "abs" = none) (mD : mg "divmod" = none) (mS : mg "str" = none) (gR : mg "ROW" = some (.int 18 t1)) (gL : mg "ROW_LIMIT" = some (.int 1000000000000000000 t2)) : FnOk P w K mg base CX0 1 f fd ["number"] spIT := by
  refine F.ok scIT (fun vs H Q E h => ?_) (fun cdv A outer s H vs Q E hr h => ?_)
  · obtain ⟨n, rfl, _⟩ := h
    rfl
  obtain ⟨n, rfl, hl, q⟩ := h
  refine ⟨_, C8.pss_cut (ps_set (i := 1) scIT.nd rfl (Or.inl rfl) (pe_lst pa_nil))
    (pss_cons (ps_set (i := 2) scIT.nd rfl (Or.inl rfl) (pe_callB call_abs (by rfl) mA boot_abs (pa_cons (pv 0) pa_nil)))
    (pss_cons (ps_while PassesOwn.never (pt_cmpR op_ge (pv 2) (pe_glob (v := .int 1000000000000000000) (by rfl) gL ⟨_, rfl⟩) (nomark _))
      (pss_cons (ps_asg (pe_callB call_divmodW (by rfl) mD boot_divmod (pa_cons (pv 2) (pa_cons (pe_glob (v := .int 1000000000000000000) (by rfl) gL ⟨_, rfl⟩) pa_nil))) (pg_tup rfl (pgs_cons (pg_name (i := 2) scIT.nd rfl (Or.inl rfl)) (pgs_cons (pg_name (i := 3) scIT.nd rfl (Or.inl rfl)) pgs_nil))))
      (pss_one (ps_expr (pe_bm PySem.F.plainAttrs_list PySem.F.slot_list_append PySem.F.type_list_append mt_append (pv 1) (pa_cons (pe_bm PySem.F.plainAttrs_str PySem.F.slot_str_zfill PySem.F.type_str_zfill mt_zfill (pe_callTy call_str_int (by rfl) mS boot_str (pa_cons (pv 3) pa_nil)) (pa_cons (pe_glob (v := .int 18) (by rfl) gR ⟨_, rfl⟩) pa_nil)) pa_nil))))))
    (pss_cons (ps_expr (pe_bm PySem.F.plainAttrs_list PySem.F.slot_list_append PySem.F.type_list_append mt_append (pv 1) (pa_cons (pe_callTy call_str_int (by rfl) mS boot_str (pa_cons (pv 2) pa_nil)) pa_nil)))
    (pss_cons (ps_if (pt_cmpR op_lt (pv 0) pe_int (nomark _)) (pss_one (ps_expr (pe_bm PySem.F.plainAttrs_list PySem.F.slot_list_append PySem.F.type_list_append mt_append (pv 1) (pa_cons pe_str pa_nil)))) pss_nil)
    (pss_cons (ps_expr (pe_bm0 PySem.F.plainAttrs_list PySem.F.slot_list_reverse PySem.F.type_list_reverse mt_reverse (pv 1)))
    (pss_one (ps_ret (pe_join pe_str (pv 1))))))))), ?_⟩
  refine ⟨fun σ H1 => ∃ R, σ = [some (.int n), some (.ref R), none, none] ∧ H R = none ∧ H1 = upd H R (.lst []), ?_, ?_⟩
  · refine ⟨by show 0 ≤ sizeLine; decide, fun R hR => ⟨R, rfl, hR, rfl⟩⟩
  rintro σ H1 ⟨R, rfl, hR, rfl⟩
  refine ⟨_, rfl, n, rfl, ?_⟩
  have eabs : (if n < 0 then -n else n) = ((n.natAbs : Nat) : Int) := by split <;> omega
  rw [eabs]
  -- the loop: the number is what is left, and the rows behind it
  refine while_by (fun σ H2 => ∃ (r : Nat) (cs : List (List Nat)) (y : Option V), σ = [some (.int n), some (.ref R), some (.int (r : Int)), y] ∧ Same H H2 ∧ H2 R = some (.lst ((cs.map SX.S).map V.str)) ∧
      TL.numL n.natAbs = TL.numL r ++ cs.reverse.flatten ∧ cs.length ≤ cs.flatten.length)
    (fun σ _ => match σ with | [_, _, some (.int r), _] => r.natAbs | _ => 0) ⟨n.natAbs, [], none, rfl, Same.upd_new hR, upd_same, by simp, Nat.le_refl _⟩ (fun σ H2 hP => ?_) ?_
  · obtain ⟨r, cs, y, rfl, s2, e2, hn, hcl⟩ := hP
    have hnl : (TL.numL n.natAbs).length ≤ 10000000 := by
      have : (TL.numL n.natAbs).length ≤ (intL n).length := by
        unfold intL
        split <;> simp
      omega
    have hfl : cs.flatten.length ≤ 10000000 := by
      have e := congrArg List.length hn
      rw [List.length_append] at e
      have : cs.reverse.flatten.length = cs.flatten.length := by
        rw [List.length_flatten, List.length_flatten, List.map_reverse, List.sum_reverse]
      omega
    have hsz : cs.length < sizeLine := Nat.lt_of_le_of_lt (Nat.le_trans hcl hfl) (by decide)
    refine ⟨_, rfl, _, _, rfl, rfl, _, rfl, ?_⟩
    refine ite2 (fun hge => ?_) (fun hge => ?_)
    · have hge := of_decide_eq_true hge
      refine ⟨_, rfl, _, _, rfl, ⟨by decide, PyProof.noPylong_of_log2 (by decide +kernel)⟩, fun p hp => ?_⟩
      have npR : R ≠ p := ne_of_none e2 hp
      refine ⟨p, _, rfl, .inl (.inl upd_same), rfl, _, _, rfl, _, _, rfl, rfl, ?_⟩
      have eq1 : (r : Int) / 1000000000000000000 = ((r / 10 ^ 18 : Nat) : Int) := by omega
      have eq2 : (r : Int) % 1000000000000000000 = ((r % 10 ^ 18 : Nat) : Int) := by omega
      have hlow : r % 10 ^ 18 < 10 ^ 18 := Nat.mod_lt _ (by decide)
      rw [eq1, eq2]
      have eR : (upd H2 p (.tup [.int ((r / 10 ^ 18 : Nat) : Int), .int ((r % 10 ^ 18 : Nat) : Int)])) R = some (.lst ((cs.map SX.S).map V.str)) := by rw [upd_ne npR]; exact e2
      refine ⟨_, rfl, .inl ⟨rfl, _, SqL.of eR⟩, _, rfl, _, rfl, log18 hlow, rfl, _, _, rfl, rfl, rfl, ?_⟩
      have ez : Txt.zfill (Str.ofString (toString ((r % 10 ^ 18 : Nat) : Int))) 18 = SX.S (figk 18 (r % 10 ^ 18)) := by rw [SX.num_S]; exact zfill_num hlow
      rw [ez]
      have hq : 0 < r / 10 ^ 18 := by omega
      have er : r / 10 ^ 18 * 10 ^ 18 + r % 10 ^ 18 = r := by omega
      have eb := numL_blk 18 hq hlow
      rw [er] at eb
      refine ⟨_, _, _, rfl, rfl, eR, ?_, ⟨r / 10 ^ 18, cs ++ [figk 18 (r % 10 ^ 18)], _, rfl, ?_, ?_, ?_, ?_⟩, ?_⟩
      · rw [List.length_map, List.length_map]
        exact hsz
      · intro b o e
        have n1 : b ≠ p := ne_of_none (s2 _ _ e) hp
        have n2 : b ≠ R := ne_of_none e hR
        rw [upd_ne n2, upd_ne n1]
        exact s2 _ _ e
      · rw [upd_same, List.map_append, List.map_append]
        rfl
      · rw [hn, eb, List.reverse_append, List.append_assoc]
        simp
      · rw [List.flatten_append, List.length_append, List.length_append, List.length_singleton]
        have : ([figk 18 (r % 10 ^ 18)] : List (List Nat)).flatten.length = 18 := by simp [figk_len]
        omega
      · show ((r / 10 ^ 18 : Nat) : Int).natAbs < ((r : Nat) : Int).natAbs
        rw [Int.natAbs_natCast, Int.natAbs_natCast]
        exact Nat.div_lt_self (by omega) (by decide)
    · have hlt : r < 10 ^ 18 := by
        have : ¬ (1000000000000000000 : Int) ≤ (r : Int) := fun h => hge (decide_eq_true h)
        omega
      refine ⟨_, rfl, .inl ⟨rfl, _, SqL.of e2⟩, _, rfl, _, rfl, log18 (by rw [Int.natAbs_natCast]; exact hlt), _, _, _, rfl, rfl, e2, ?_, ?_⟩
      · rw [List.length_map, List.length_map]
        exact hsz
      have e3 : (cs.map SX.S).map V.str ++ [V.str (Str.ofString (toString ((r : Nat) : Int)))] = ((cs ++ [TL.numL r]).map SX.S).map V.str := by
        rw [SX.num_S, List.map_append, List.map_append]
        rfl
      rw [e3]
      -- the end, over all rows
      have fin : ∀ (H3 : Hp) (xs : List (List Nat)), Same H H3 → H3 R = some (.lst ((xs.map SX.S).map V.str)) → xs.reverse.flatten = intL n → 
          (tSeq (tDrop (tBM0 K "list" rReverse (tVar 1))) (tRet (tM1 (fun x xs H Q => ∃ a p, ∃ ys : List Str, x = .str a ∧ xs = [.ref p] ∧ (SqL K H p (ys.map V.str) ∨ SqT K H p (ys.map V.str)) ∧ (ys.map (·.length)).sum + ys.length * a.length ≤ 16777216 ∧ Q (.str (Txt.join a ys)) H) (tC (.str "")) (tVar 1))))
          { nx := fun _ H' => Q .non H', rt := Q } [some (.int n), some (.ref R), some (.int (r : Int)), y] H3 := by
        intro H3 xs s3 e4 ex
        refine ⟨_, rfl, .inl ⟨rfl, _, SqL.of e4⟩, _, _, rfl, rfl, e4, ?_⟩
        refine ⟨⟨_, rfl⟩, _, rfl, _, _, xs.reverse.map SX.S, rfl, rfl, .inl (SqL.of (by rw [upd_same, List.map_reverse, List.map_reverse])), ?_, ?_⟩
        · rw [lens_S, ex, show (("" : Str)).length = 0 by decide +kernel]
          omega
        · rw [join_S', ex]
          refine q _ fun b o e => ?_
          rw [upd_ne (ne_of_none e hR)]
          exact s3 _ _ e
      have s4 : ∀ (H3 : Hp) (o : HO), Same H H3 → Same H (upd H3 R o) := fun H3 o s b u e => by
        rw [upd_ne (ne_of_none e hR)]
        exact s _ _ e
      have ef : (cs ++ [TL.numL r]).reverse.flatten = TL.numL n.natAbs := by
        rw [List.reverse_append, hn]
        simp
      refine ⟨_, rfl, _, _, rfl, rfl, _, rfl, ?_⟩
      refine ite2 (fun hneg => ?_) (fun hneg => ?_)
      · have hneg := of_decide_eq_true hneg
        refine ⟨_, rfl, .inl ⟨rfl, _, SqL.of upd_same⟩, _, _, _, rfl, rfl, upd_same, ?_, ?_⟩
        · rw [List.length_map, List.length_map, List.length_append, List.length_singleton]
          exact Nat.lt_of_le_of_lt (show _ ≤ 10000001 by omega) (by decide)
        · refine fin _ (cs ++ [TL.numL r] ++ [[45]]) (s4 _ _ (s4 _ _ s2)) ?_ ?_
          · rw [upd_same, show (("-" : Str)) = SX.S [45] by decide +kernel, List.map_append (l₂ := [[45]]), List.map_append (l₂ := [[45]].map SX.S)]
            rfl
          · rw [List.reverse_append]
            show [45] ++ (cs ++ [TL.numL r]).reverse.flatten = _
            rw [ef]
            unfold intL
            rw [if_pos hneg]
            rfl
      · refine fin _ (cs ++ [TL.numL r]) (s4 _ _ s2) upd_same ?_
        rw [ef]
        unfold intL
        rw [if_neg (fun h => hneg (decide_eq_true h))]
  · rintro σ H Q Q' hQ ⟨x, h0, y1, y2, h1, h2, k, h3, h4⟩
    exact ⟨x, h0, y1, y2, h1, h2, k, h3, hQ _ _ h4⟩
end
end KT

namespace KT
open PySem PySem.Spec PyProof.Rows L2
open C8 (Cal pe_c)
theorem scSpaced : FnScope ["parts", "found", "at"] ["parts"] (defScope sSpaced) := ⟨rfl, rfl, rfl, by decide +kernel, rfl, by decide +kernel, by decide +kernel⟩
/-- what stands among the parts put between them -/
def betw {α : Type} (b : α) : List α → List α
  | [] => []
  | [x] => [x]
  | x :: y :: r => x :: b :: betw b (y :: r)
theorem betw_cons {α : Type} {b x : α} {r : List α} (h : r ≠ []) : betw b (x :: r) = x :: b :: betw b r := by
  cases r with
  | nil => exact absurd rfl h
  | cons y r => rfl
theorem betw_len {α : Type} (b : α) : ∀ l : List α, (betw b l).length ≤ 2 * l.length
  | [] => Nat.le_refl _
  | [x] => by simp [betw]
  | x :: y :: r => by
    have := betw_len b (y :: r)
    simp [betw] at this ⊢
    omega
def bl : V := .str " "
def spSpaced (K : PySem.W.Frag) : Sp := fun vs H Q _ => ∃ (p : Addr) (xs : List V), vs = [.ref p] ∧ H p = some (.tup xs) ∧ xs.length ≤ 4000000 ∧
  ∀ l H', Same H H' → H l = none → H' l = some (.lst (betw bl xs.reverse)) → Q (.ref l) H'
section
variable {P : Program} {w : World} {K : PySem.W.Frag} {mg : Str → Option Value} {base : Heap} {f : Addr} {fd : FuncData}
theorem ok_spaced (F : Fun K "spaced_parts" "spaced_parts" sSpaced f fd) (mV : mg "reversed" = none) (mR : mg "range" = none) (mL : mg "len" = none) : FnOk P w K mg base CX0 1 f fd ["parts"] (spSpaced K) := by
  refine F.ok scSpaced (fun vs H Q E h => ?_) (fun cdv A outer s H vs Q E hr h => ?_)
  · obtain ⟨p, xs, rfl, _⟩ := h
    rfl
  obtain ⟨p, xs, rfl, hp, hl, q⟩ := h
  refine ⟨_, pss_cons (ps_set (i := 1) scSpaced.nd rfl (Or.inl rfl) (pe_lst pa_nil))
    (pss_cons (ps_for PassesOwn.never rfl (pi_revR (by rfl) mV (prg_1 (by rfl) mR (pe_callB call_len_seq (by rfl) mL PySem.boot_len (pa_cons (pv 0) pa_nil)))) (pg_name (i := 2) scSpaced.nd rfl (Or.inl rfl))
      (pss_cons (ps_expr (pe_bm PySem.F.plainAttrs_list PySem.F.slot_list_append PySem.F.type_list_append mt_append (pv 1) (pa_cons (pe_ix ix_tup (pv 0) (pv 2) (fun _ _ => rfl)) pa_nil)))
      (pss_one (ps_if (pt_cmpR op_gt (pv 2) pe_int (nomark _)) (pss_one (ps_expr (pe_bm PySem.F.plainAttrs_list PySem.F.slot_list_append PySem.F.type_list_append mt_append (pv 1) (pa_cons pe_str pa_nil)))) pss_nil))))
    (pss_one (ps_ret (pv 1)))), ?_⟩
  refine ⟨by show 0 ≤ sizeLine; decide, fun l hn => ?_⟩
  have npl : p ≠ l := ne_of_none hp hn
  refine ⟨_, rfl, p, _, rfl, .inr (.inl (.inl (by rw [upd_ne npl]; exact hp))), _, rfl, by decide, by decide, by omega, by omega, ?_⟩
  refine for_rangeC (fun i σ H1 => ∃ (fs : List V) (y : Option V), σ = [some (.ref p), some (.ref l), y] ∧ Same H H1 ∧ H1 l = some (.lst fs) ∧ fs ++ betw bl (xs.reverse.drop i) = betw bl xs.reverse)
    ⟨[], none, rfl, Same.upd_new hn, upd_same, rfl⟩ (fun i σ H1 hi hP => ?_) (fun σ H1 hP => ?_)
  · obtain ⟨fs, y, rfl, s1, e1, ef⟩ := hP
    have hi : i < xs.length := by omega
    have hri : i < xs.reverse.length := by rw [List.length_reverse]; exact hi
    have ev : ((0 : Int) + ((((xs.length : Nat) : Int) - 0).toNat : Nat) - 1 + (i : Nat) * (-1)) = ((xs.length - 1 - i : Nat) : Int) := by omega
    have ex : xs[xs.length - 1 - i]? = some xs.reverse[i] := by
      rw [List.getElem_reverse, List.getElem?_eq_getElem (by omega)]
    have hd : xs.reverse.drop i = xs.reverse[i] :: xs.reverse.drop (i + 1) := List.drop_eq_getElem_cons hri
    have fl : fs.length ≤ 8000000 := by
      have e := congrArg List.length ef
      rw [List.length_append] at e
      have := betw_len bl xs.reverse
      rw [List.length_reverse] at this
      omega
    have small : ∀ k, k ≤ 8000001 → k < sizeLine := fun k hk => Nat.lt_of_le_of_lt hk (by decide)
    refine ⟨_, rfl, .inl ⟨rfl, _, SqL.of e1⟩, _, rfl, _, rfl, p, _, _, xs.reverse[i], rfl, rfl, .inl (.inl (s1 _ _ hp)), ?_, _, _, _, rfl, rfl, e1, small _ (by omega), ?_⟩
    · rw [ev]
      exact atI_nat ex
    refine ⟨_, rfl, _, _, rfl, rfl, _, rfl, ?_⟩
    rw [hd] at ef
    have s2 : ∀ (H3 : Hp) (o : HO), Same H H3 → Same H (upd H3 l o) := fun H3 o s b u e => by
      rw [upd_ne (ne_of_none e hn)]
      exact s _ _ e
    refine ite2 (fun hc => ?_) (fun hc => ?_)
    · have hc := of_decide_eq_true hc
      refine ⟨_, rfl, .inl ⟨rfl, _, SqL.of upd_same⟩, _, _, _, rfl, rfl, upd_same, small _ (by rw [List.length_append, List.length_singleton]; omega), _, _, rfl, s2 _ _ (s2 _ _ s1), upd_same, ?_⟩
      have hne : xs.reverse.drop (i + 1) ≠ [] := fun e => by
        have e := congrArg List.length e
        rw [List.length_drop, List.length_reverse, List.length_nil] at e
        omega
      rw [betw_cons hne] at ef
      rw [← ef, List.append_assoc, List.append_assoc]
      rfl
    · have hc : ¬ (0 : Int) < _ := fun h => hc (decide_eq_true h)
      refine ⟨_, _, rfl, s2 _ _ s1, upd_same, ?_⟩
      have he : xs.reverse.drop (i + 1) = [] := by
        refine List.drop_eq_nil_of_le ?_
        rw [List.length_reverse]
        omega
      rw [he] at ef ⊢
      rw [← ef]
      show fs ++ [xs.reverse[i]] ++ [] = fs ++ [xs.reverse[i]]
      simp
  · obtain ⟨fs, y, rfl, s1, e1, ef⟩ := hP
    have he : xs.reverse.drop ((((xs.length : Nat) : Int) - 0).toNat) = [] := by
      refine List.drop_eq_nil_of_le ?_
      rw [List.length_reverse]
      omega
    rw [he] at ef
    refine ⟨_, rfl, q l H1 s1 hn ?_⟩
    rw [e1, ← ef]
    simp [betw]
end
end KT

namespace KT
open PySem PySem.Spec PyProof.Rows L2
open C8 (Cal pe_c)
theorem scWrite : FnScope ["value", "pieces", "waiting", "part"] ["value"] (defScope sWrite) := ⟨rfl, rfl, rfl, by decide +kernel, rfl, by decide +kernel, by decide +kernel⟩
mutual
def wgt : Dat → Nat
  | .str _ => 1
  | .int _ => 1
  | .tup ds => 2 + wgts ds
def wgts : List Dat → Nat
  | [] => 0
  | d :: r => wgt d + 1 + wgts r
end
mutual
theorem wgt_le : ∀ d : Dat, wgt d ≤ 2 * d.txt.length + 1
  | .str l => by simp [wgt]
  | .int n => by simp [wgt]
  | .tup ds => by
    have h := wgts_le ds
    have e := joinL_len (ds.map Dat.txt)
    rw [txt_tup]
    simp only [List.length_cons, List.length_append, List.length_map, List.length_nil] at e ⊢
    rw [wgt]
    split at e <;> omega
theorem wgts_le : ∀ ds : List Dat, wgts ds ≤ 2 * ((ds.map Dat.txt).map (·.length)).sum + 2 * ds.length
  | [] => by simp [wgts]
  | d :: r => by
    have h1 := wgt_le d
    have h2 := wgts_le r
    rw [wgts]
    simp only [List.map_cons, List.sum_cons, List.length_cons]
    omega
end
/-- what is left to do -/
def todo (rd : List Dat) : Nat := (rd.map wgt).sum
theorem todo_betw : ∀ ds : List Dat, todo (betw (.str [32]) ds) ≤ wgts ds
  | [] => Nat.le_refl _
  | [x] => by simp [betw, todo, wgts]
  | x :: y :: r => by
    have ih := todo_betw (y :: r)
    rw [betw, wgts]
    simp only [todo, List.map_cons, List.sum_cons] at ih ⊢
    simp only [wgt]
    omega
theorem betw_flat : ∀ ds : List Dat, ((betw (.str [32]) ds).map Dat.txt).flatten = TL.joinL [32] (ds.map Dat.txt)
  | [] => rfl
  | [x] => by simp [betw, TL.joinL]
  | x :: y :: r => by
    have ih := betw_flat (y :: r)
    rw [betw, List.map_cons, List.map_cons, List.flatten_cons, List.flatten_cons, ih]
    simp [Dat.txt, TL.joinL]
theorem betw_snoc {α : Type} (b : α) : ∀ (l : List α) (x : α), betw b (l ++ [x]) = if l = [] then [x] else betw b l ++ [b, x]
  | [], x => rfl
  | [y], x => rfl
  | y :: z :: r, x => by
    have ih := betw_snoc b (z :: r) x
    rw [if_neg (by simp)] at ih ⊢
    show y :: b :: betw b (z :: r ++ [x]) = y :: b :: betw b (z :: r) ++ [b, x]
    rw [ih]
    rfl
theorem betw_rev {α : Type} (b : α) : ∀ l : List α, (betw b l.reverse).reverse = betw b l
  | [] => rfl
  | [x] => rfl
  | x :: y :: r => by
    have ih := betw_rev b (y :: r)
    rw [List.reverse_cons, betw_snoc, if_neg (by simp), List.reverse_append, ih]
    rfl
theorem betw_paired {α β : Type} {F : α → β → Prop} {b : α} {c : β} (h : F b c) : ∀ {l : List α} {m : List β}, Paired F l m → Paired F (betw b l) (betw c m)
  | _, _, .nil => .nil
  | _, _, .cons x .nil => .cons x .nil
  | _, _, .cons x (.cons y r) => .cons x (.cons h (betw_paired h (.cons y r)))
theorem paired_app {α β : Type} {F : α → β → Prop} : ∀ {l l' : List α} {m m' : List β}, Paired F l m → Paired F l' m' → Paired F (l ++ l') (m ++ m')
  | _, _, _, _, .nil, h => h
  | _, _, _, _, .cons x r, h => .cons x (paired_app r h)
theorem dv_or {H : Hp} : ∀ {n : Nat} {v : V} {d : Dat}, DV H n v d → Leaf v d ∨ ∃ p xs ds, v = .ref p ∧ H p = some (.tup xs) ∧ d = .tup ds ∧ Paired (DV H n) xs ds
  | 0, _, _, h => .inl h
  | n + 1, v, d, h => by
    rcases h.cases with h | ⟨p, xs, ds, e1, e2, e3, r⟩
    · exact .inl h
    · exact .inr ⟨p, xs, ds, e1, e2, e3, Paired.mono (fun _ _ z => DVL.up z) r⟩
/-- a value's text, written by the program -/
def spWrite (n : Nat) : Sp := fun vs H Q _ => ∃ (v : V) (d : Dat), vs = [v] ∧ DV H n v d ∧ d.txt.length ≤ 4000000 ∧ ∀ H', Same H H' → Q (.str (SX.S d.txt)) H'
section
variable {P : Program} {w : World} {K : PySem.W.Frag} {mg : Str → Option Value} {base : Heap} {f : Addr} {fd : FuncData}
theorem ok_write {n : Nat} (F : Fun K "write" "write" sWrite f fd) (mI : mg "isinstance" = none) (mS : mg "str" = none) (mN : mg "int" = none)
    (cS : Cal P w K mg base 1 "spaced_parts" (spSpaced K) []) (cI : Cal P w K mg base 1 "integer_text" spIT []) : FnOk P w K mg base CX0 2 f fd ["value"] (spWrite n) := by
  refine F.ok scWrite (fun vs H Q E h => ?_) (fun cdv A outer s H vs Q E hr h => ?_)
  · obtain ⟨v, d, rfl, _⟩ := h
    rfl
  obtain ⟨v, d, rfl, hv, hl, q⟩ := h
  refine ⟨_, pss_cons (ps_set (i := 1) scWrite.nd rfl (Or.inl rfl) (pe_lst pa_nil))
    (pss_cons (ps_set (i := 2) scWrite.nd rfl (Or.inl rfl) (pe_lst (pa_cons (pv 0) pa_nil)))
    (pss_cons (ps_while PassesOwn.never (pt_truth (pv 2) (fun _ => rfl))
      (pss_cons (ps_set (i := 3) scWrite.nd rfl (Or.inl rfl) (pe_bm0 PySem.F.plainAttrs_list PySem.F.slot_list_pop PySem.F.type_list_pop mt_pop (pv 2)))
      (pss_one (ps_if (pt_val (pe_callB call_isi (by rfl) mI boot_isinstance (pa_cons (pv 3) (pa_cons (pe_bltn (v := .ty "str") (by rfl) mS boot_str rfl) pa_nil))))
        (pss_one (ps_expr (pe_bm PySem.F.plainAttrs_list PySem.F.slot_list_append PySem.F.type_list_append mt_append (pv 1) (pa_cons (pv 3) pa_nil))))
        (pss_one (ps_if (pt_val (pe_callB call_isi (by rfl) mI boot_isinstance (pa_cons (pv 3) (pa_cons (pe_bltn (v := .ty "int") (by rfl) mN boot_int rfl) pa_nil))))
          (pss_one (ps_expr (pe_bm PySem.F.plainAttrs_list PySem.F.slot_list_append PySem.F.type_list_append mt_append (pv 1) (pa_cons (pe_c cI hr (by decide) (by rfl) (pa_cons (pv 3) pa_nil)) pa_nil))))
          (pss_cons (ps_expr (pe_bm PySem.F.plainAttrs_list PySem.F.slot_list_append PySem.F.type_list_append mt_append (pv 1) (pa_cons pe_str pa_nil)))
          (pss_cons (ps_expr (pe_bm PySem.F.plainAttrs_list PySem.F.slot_list_append PySem.F.type_list_append mt_append (pv 2) (pa_cons pe_str pa_nil)))
          (pss_one (ps_expr (pe_bm PySem.F.plainAttrs_list PySem.F.slot_list_extend PySem.F.type_list_extend mt_extend (pv 2) (pa_cons (pe_c cS hr (by decide) (by rfl) (pa_cons (pv 3) pa_nil)) pa_nil))))))))))))
    (pss_one (ps_ret (pe_join pe_str (pv 1)))))), ?_⟩
  refine ⟨by show 0 ≤ sizeLine; decide, fun B hB => ?_⟩
  refine ⟨_, rfl, by show 1 ≤ sizeLine; decide, fun W hW => ?_⟩
  have nBW : B ≠ W := ne_of_none upd_same hW
  have hWH : H W = none := by
    rw [← hW, upd_ne (fun e => nBW e.symm)]
  -- nothing else is touched
  have keep : ∀ (H3 : Hp) (a : Addr) (o : HO), (a = B ∨ a = W) → Same H H3 → Same H (upd H3 a o) := fun H3 a o ha s b u e => by
    have : b ≠ a := by
      rcases ha with rfl | rfl
      · exact ne_of_none e hB
      · exact ne_of_none e hWH
    rw [upd_ne this]
    exact s _ _ e
  refine ⟨fun m σ H1 => ∃ (ps : List (List Nat)) (rs : List V) (rd : List Dat) (y : Option V), σ = [some v, some (.ref B), some (.ref W), y] ∧ m = todo rd ∧ Same H H1 ∧ H1 B = some (.lst ((ps.map SX.S).map V.str)) ∧ H1 W = some (.lst rs.reverse) ∧
      Paired (DV H n) rs rd ∧ ps.flatten ++ (rd.map Dat.txt).flatten = d.txt ∧ ps.length + todo rd ≤ 8000001, ?_, ?_⟩
  · refine ⟨_, [], [v], [d], none, rfl, rfl, (Same.upd_new hB).trans (Same.upd_new hW), ?_, upd_same, .cons hv .nil, by simp, ?_⟩
    · rw [upd_ne nBW, upd_same]
      rfl
    · have := wgt_le d
      simp [todo]
      omega
  rintro m σ H1 ⟨ps, rs, rd, y, rfl, rfl, s1, e1, e2, pr, hflat, hb⟩
  refine ⟨_, rfl, !rs.reverse.isEmpty, .inl ⟨_, SqL.of e2, rfl⟩, ?_⟩
  have small : ∀ k, k ≤ 16000003 → k < sizeLine := fun k hk => Nat.lt_of_le_of_lt hk (by decide)
  have lps : ((ps.map SX.S).map V.str).length = ps.length := by rw [List.length_map, List.length_map]
  cases pr with
  | nil =>
    refine iteF ?_
    have e : ps.flatten = d.txt := by simpa using hflat
    refine ⟨⟨_, rfl⟩, _, rfl, _, B, ps.map SX.S, rfl, rfl, .inl (SqL.of e1), ?_, ?_⟩
    · rw [lens_S, e, show (("" : Str)).length = 0 by decide +kernel]
      omega
    · rw [join_S', e]
      exact q _ s1
  | @cons x e rs rd hx pr =>
    have ne : (rs.reverse ++ [x]).isEmpty = false := by cases rs.reverse <;> rfl
    rw [List.reverse_cons] at e2 ⊢
    rw [ne]
    refine iteT ?_
    refine ⟨fun σ' H' => ∃ m', m' < todo (e :: rd) ∧ _, fun σ' H' h => h, ?_⟩
    have htodo : todo (e :: rd) = wgt e + todo rd := by simp [todo]
    have hlast : (rs.reverse ++ [x])[(rs.reverse ++ [x]).length - 1]? = some x := by simp
    have hdl : (rs.reverse ++ [x]).dropLast = rs.reverse := by simp
    refine ⟨_, rfl, .inl ⟨rfl, _, SqL.of e2⟩, W, _, x, rfl, rfl, e2, hlast, ?_⟩
    rw [hdl]
    have s2 := keep H1 W (.lst rs.reverse) (.inr rfl) s1
    have e1' : (upd H1 W (.lst rs.reverse)) B = some (.lst ((ps.map SX.S).map V.str)) := by rw [upd_ne nBW]; exact e1
    have hflat' : ps.flatten ++ (e.txt ++ (rd.map Dat.txt).flatten) = d.txt := by simpa using hflat
    -- a leaf: its text is a piece more
    have leaf : ∀ (l : List Nat) (H3 : Hp), e.txt = l → wgt e = 1 → Same H H3 → H3 B = some (.lst ((ps.map SX.S).map V.str)) → H3 W = some (.lst rs.reverse) →
        rAppend (.ref B) [.str (SX.S l)] H3 fun _ H4 => ∃ m', m' < todo (e :: rd) ∧ ∃ (ps : List (List Nat)) (rs : List V) (rd : List Dat) (y : Option V), [some v, some (.ref B), some (.ref W), some x] = [some v, some (.ref B), some (.ref W), y] ∧ m' = todo rd ∧ Same H H4 ∧ H4 B = some (.lst ((ps.map SX.S).map V.str)) ∧ H4 W = some (.lst rs.reverse) ∧
      Paired (DV H n) rs rd ∧ ps.flatten ++ (rd.map Dat.txt).flatten = d.txt ∧ ps.length + todo rd ≤ 8000001 := by
      intro l H3 el ew s3 e3 e4
      refine ⟨B, _, _, rfl, rfl, e3, small _ (by omega), todo rd, by omega, ps ++ [l], rs, rd, _, rfl, rfl, keep _ _ _ (.inl rfl) s3, ?_, ?_, pr, ?_, ?_⟩
      · rw [upd_same, List.map_append, List.map_append]
        rfl
      · rw [upd_ne (fun e => nBW e.symm)]
        exact e4
      · rw [← hflat', el]
        simp
      · rw [List.length_append, List.length_singleton]
        omega
    rcases dv_or hx with (⟨l, rfl, rfl⟩ | ⟨i, rfl, rfl⟩) | ⟨p, xs, ds, rfl, hp, rfl, r⟩
    · refine ⟨_, rfl, _, _, _, _, true, rfl, .ty _, .base (.str _), kit_ty (by decide +kernel), _, rfl, ?_⟩
      refine iteT ?_
      refine ⟨_, rfl, .inl ⟨rfl, _, SqL.of e1'⟩, _, rfl, ?_⟩
      exact leaf l _ rfl rfl s2 e1' upd_same
    · refine ⟨_, rfl, _, _, _, _, false, rfl, .ty _, .base (.int _), kit_ty (by decide +kernel), _, rfl, ?_⟩
      refine iteF ?_
      refine ⟨_, rfl, _, _, _, _, true, rfl, .ty _, .base (.int _), kit_ty (by decide +kernel), _, rfl, ?_⟩
      refine iteT ?_
      refine ⟨_, rfl, .inl ⟨rfl, _, SqL.of e1'⟩, _, rfl, i, rfl, ?_, fun H3 s3 => ?_⟩
      · have e := congrArg List.length hflat'
        rw [List.length_append, List.length_append] at e
        have : (Dat.int i).txt.length = (intL i).length := rfl
        omega
      · exact leaf (intL i) H3 rfl rfl (s2.trans s3) (s3 _ _ e1') (s3 _ _ upd_same)
    · refine ⟨_, rfl, _, _, _, _, false, rfl, .ty _, .base (.tup (s2 _ _ hp)), kit_ty (by decide +kernel), _, rfl, ?_⟩
      refine iteF ?_
      refine ⟨_, rfl, _, _, _, _, false, rfl, .ty _, .base (.tup (s2 _ _ hp)), kit_ty (by decide +kernel), _, rfl, ?_⟩
      refine iteF ?_
      have lr : rs.length = rd.length := pr.length
      have ltd : ∀ l : List Dat, l.length ≤ todo l := by
        intro l
        induction l with
        | nil => exact Nat.le_refl _
        | cons z l ih =>
          have : 1 ≤ wgt z := by cases z <;> simp [wgt] <;> omega
          have e : todo (z :: l) = wgt z + todo l := by simp [todo]
          rw [List.length_cons, e]
          omega
      have lrd := ltd rd
      have hw : wgt (.tup ds) = 2 + wgts ds := by rw [wgt]
      have tb := todo_betw ds
      have lb := ltd (betw (.str [32]) ds)
      refine ⟨_, rfl, .inl ⟨rfl, _, SqL.of e1'⟩, _, _, _, rfl, rfl, e1', small _ (by omega), ?_⟩
      have s3 := keep _ B (.lst ((ps.map SX.S).map V.str ++ [V.str "("])) (.inl rfl) s2
      have e2' : (upd (upd H1 W (.lst rs.reverse)) B (.lst ((ps.map SX.S).map V.str ++ [V.str "("]))) W = some (.lst rs.reverse) := by rw [upd_ne (fun e => nBW e.symm), upd_same]
      refine ⟨_, rfl, .inl ⟨rfl, _, SqL.of e2'⟩, _, _, _, rfl, rfl, e2', small _ (by rw [List.length_reverse]; omega), ?_⟩
      have s4 := keep _ W (.lst (rs.reverse ++ [V.str ")"])) (.inr rfl) s3
      refine ⟨_, rfl, .inl ⟨rfl, _, SqL.of upd_same⟩, _, rfl, p, xs, rfl, s4 _ _ hp, ?_, fun l H5 s5 hl5 e5 => ?_⟩
      · have e := congrArg List.length hflat'
        rw [List.length_append, List.length_append] at e
        have := (txt_bounds ds).1
        have := r.length
        omega
      have n5W : l ≠ W := fun e => by rw [e, upd_same] at hl5; cases hl5
      have e6 : H5 W = some (.lst (rs.reverse ++ [V.str ")"])) := s5 _ _ upd_same
      have s6 := s4.trans s5
      have ebW : H5 B = some (.lst ((ps.map SX.S).map V.str ++ [V.str "("])) := by
        refine s5 _ _ ?_
        rw [upd_ne nBW, upd_same]
      have prb : Paired (DV H n) (betw bl xs) (betw (.str [32]) ds) := betw_paired (DVL.leaf (.inl ⟨[32], show V.str " " = _ by decide +kernel, rfl⟩) _) r
      have lb2 : (betw bl xs).length = (betw (.str [32]) ds).length := prb.length
      have wd := wgt_le (.tup ds)
      refine ⟨W, l, _, _, rfl, rfl, e6, e5, ?_, todo (betw (.str [32]) ds ++ .str [41] :: rd), ?_, ps ++ [[40]], betw bl xs ++ .str ")" :: rs, betw (.str [32]) ds ++ .str [41] :: rd, _, rfl, rfl, keep _ _ _ (.inr rfl) s6, ?_, ?_, paired_app prb (.cons (DVL.leaf (.inl ⟨[41], show V.str ")" = _ by decide +kernel, rfl⟩) _) pr), ?_, ?_⟩
      · have : (betw bl xs.reverse).length = (betw bl xs).length := by rw [← betw_rev bl xs, List.length_reverse]
        rw [this, List.length_append, List.length_reverse, List.length_singleton]
        exact Nat.le_trans (show _ ≤ 16000003 by omega) (by decide)
      · have : todo (betw (.str [32]) ds ++ .str [41] :: rd) = todo (betw (.str [32]) ds) + (1 + todo rd) := by simp [todo, wgt]
        omega
      · rw [upd_ne nBW, ebW, List.map_append, List.map_append]
        rfl
      · have : (betw bl xs).reverse = betw bl xs.reverse := by rw [← betw_rev bl xs, List.reverse_reverse]
        rw [upd_same, List.reverse_append, List.reverse_cons, this]
      · rw [← hflat', List.map_append, List.flatten_append, List.flatten_append, betw_flat, txt_tup]
        simp [Dat.txt]
      · have : todo (betw (.str [32]) ds ++ .str [41] :: rd) = todo (betw (.str [32]) ds) + (1 + todo rd) := by simp [todo, wgt]
        rw [List.length_append, List.length_singleton]
        omega
end
end KT

namespace KT
open PySem PySem.Spec PyProof.Rows L2
open C8 (Cal pe_c)
abbrev sRun : Stmt := top 23
abbrev sItem : Stmt := top 24
theorem scRun : FnScope ["text", "at", "signs", "k"] ["text", "at", "signs"] (defScope sRun) := ⟨rfl, rfl, rfl, by decide +kernel, rfl, by decide +kernel, by decide +kernel⟩
theorem scItem : FnScope ["text", "at", "first", "parts", "k", "told", "end", "start", "figures"] ["text", "at"] (defScope sItem) := ⟨rfl, rfl, rfl, by decide +kernel, rfl, by decide +kernel, by decide +kernel⟩
theorem cutN (T : List Nat) {a b : Nat} (h : a ≤ b) : cutS (SX.S T) (some (a : Int)) (some (b : Int)) = SX.S ((T.drop a).take (b - a)) := by
  unfold cutS
  rw [HT.sIx_nat, HT.sIx_nat, SX.S_len]
  show SX.S ((T.drop _).take _) = _
  congr 1
  by_cases h1 : a ≤ T.length
  · rw [Nat.min_eq_left h1]
    by_cases h2 : b ≤ T.length
    · rw [Nat.min_eq_left h2]
    · rw [Nat.min_eq_right (by omega), List.take_of_length_le (by rw [List.length_drop]; omega), List.take_of_length_le (by rw [List.length_drop]; omega)]
  · rw [Nat.min_eq_right (by omega : T.length ≤ a), Nat.min_eq_right (by omega : T.length ≤ b), List.drop_eq_nil_of_le (Nat.le_refl _), List.drop_eq_nil_of_le (show T.length ≤ a by omega)]
    simp
/-- a text of one sign at most is that sign -/
theorem one_sign (t : List Nat) (c : Nat) : decide (V.str (SX.S (t.take 1)) = V.str (SX.S [c])) = decide (t.head? = some c) := by
  have e : (V.str (SX.S (t.take 1)) = V.str (SX.S [c])) ↔ (t.head? = some c) := by
    constructor
    · intro h
      have := SX.S_inj (V.str.inj h)
      cases t with
      | nil => cases this
      | cons x r =>
        have e : [x] = [c] := this
        injection e with e1
        rw [e1]
        rfl
    · intro h
      rw [head_cons h]
      rfl
  by_cases h : t.head? = some c
  · rw [decide_eq_true h, decide_eq_true (e.mpr h)]
  · rw [decide_eq_false h, decide_eq_false fun q => h (e.mp q)]
theorem head_drop (T : List Nat) (i : Nat) : (T.drop i).head? = T[i]? := by
  rw [List.head?_drop]
def spRun : Sp := fun vs H Q _ => ∃ (T g : List Nat) (i : Nat), vs = [.str (SX.S T), .int (i : Int), .str (SX.S g)] ∧ i ≤ T.length ∧ T.length ≤ 10000000 ∧
  Q (.int ((i + ((T.drop i).takeWhile fun c => decide (c ∈ g)).length : Nat) : Int)) H
section
variable {P : Program} {w : World} {K : PySem.W.Frag} {mg : Str → Option Value} {base : Heap} {f : Addr} {fd : FuncData}
theorem ok_run (F : Fun K "_law_run" "_law_run" sRun f fd) (mR : mg "range" = none) (mL : mg "len" = none) : FnOk P w K mg base CX0 1 f fd ["text", "at", "signs"] spRun := by
  refine F.ok scRun (fun vs H Q E h => ?_) (fun cdv A outer s H vs Q E hr h => ?_)
  · obtain ⟨T, g, i, rfl, _⟩ := h
    rfl
  obtain ⟨T, g, i, rfl, hi, hT, q⟩ := h
  refine ⟨_, pss_cons (ps_for PassesOwn.never rfl (pi_range2 (by rfl) mR (pa_cons (pv 1) (pa_cons (pe_callB call_len_str (by rfl) mL PySem.boot_len (pa_cons (pv 0) pa_nil)) pa_nil))) (pg_name (i := 3) scRun.nd rfl (Or.inl rfl))
      (pss_one (ps_if (pt_cmpR op_notIn_sign (pe_ix ix_str (pv 0) (pv 3) (fun _ _ => rfl)) (pv 2) rfl) (pss_one (ps_ret (pv 3))) pss_nil)))
    (pss_one (ps_ret (pe_callB call_len_str (by rfl) mL PySem.boot_len (pa_cons (pv 0) pa_nil)))), ?_⟩
  have hl : (SX.S T).length = T.length := SX.S_len T
  have hsz : (SX.S T).length ≤ sizeLine := by rw [hl]; exact Nat.le_trans hT (by decide)
  refine ⟨_, rfl, _, rfl, _, rfl, hsz, (i : Int), (T.length : Int), by rw [hl], ⟨by omega, by omega, by omega, by omega⟩, ?_⟩
  have tw : ∀ (l : List Nat) (p : Nat → Bool) (j : Nat), (∀ c ∈ l.take j, p c = true) → ∀ c, l[j]? = some c → p c = false → (l.takeWhile p).length = j := by
    intro l p
    induction l with
    | nil => intro j _ c h _; cases h
    | cons x r ih =>
      intro j hj c hc hp
      cases j with
      | zero =>
        cases hc
        rw [List.takeWhile_cons, hp]
        rfl
      | succ j =>
        rw [List.takeWhile_cons, hj x (by rw [List.take_succ_cons]; exact List.mem_cons_self ..), if_pos rfl, List.length_cons]
        rw [ih j (fun d hd => hj d (by rw [List.take_succ_cons]; exact List.mem_cons_of_mem _ hd)) c (by simpa using hc) hp]
  refine for_range (lo := (i : Int)) (n := ((T.length : Int) - (i : Int)).toNat) (fun j σ H1 => ∃ y, σ = [some (.str (SX.S T)), some (.int (i : Int)), some (.str (SX.S g)), y] ∧ H1 = H ∧ ∀ c ∈ (T.drop i).take j, decide (c ∈ g) = true) ⟨none, rfl, rfl, fun c hc => by rw [List.take_zero] at hc; cases hc⟩ (fun j σ H1 hj hP => ?_) (fun σ H1 hP => ?_)
  · obtain ⟨y, rfl, rfl, hall⟩ := hP
    have lt : i + j < T.length := by omega
    have ht : (SX.S T).cps.toList = T := rfl
    have hg : (SX.S g).cps.toList = g := rfl
    have ec : T[i + j]? = some T[i + j] := List.getElem?_eq_getElem lt
    refine ⟨_, rfl, _, rfl, SX.S T, ((i : Int) + (j : Int)), T[i + j], rfl, rfl, hsz, ?_, _, rfl, T[i + j], SX.S g, rfl, rfl, _, rfl, ?_⟩
    · rw [ht, show ((i : Int) + (j : Int)) = ((i + j : Nat) : Int) by omega]
      exact atI_nat ec
    rw [hg]
    have ed : (T.drop i)[j]? = some T[i + j] := by rw [List.getElem?_drop]; exact ec
    by_cases h : T[i + j] ∈ g
    · rw [decide_eq_true h]
      refine iteF ?_
      refine ⟨_, rfl, rfl, fun c hc => ?_⟩
      rw [List.take_add_one, ed] at hc
      rcases List.mem_append.mp hc with hc | hc
      · exact hall c hc
      · have : c = T[i + j] := by simpa using hc
        rw [this]
        exact decide_eq_true h
    · rw [decide_eq_false h]
      refine iteT ?_
      refine ⟨_, rfl, ?_⟩
      have e := tw (T.drop i) (fun c => decide (c ∈ g)) j hall _ ed (decide_eq_false h)
      rw [e] at q
      rw [show ((i : Int) + (j : Int)) = ((i + j : Nat) : Int) by omega]
      exact q
  · obtain ⟨y, rfl, rfl, hall⟩ := hP
    refine ⟨_, rfl, _, rfl, hsz, ?_⟩
    rw [hl]
    have ea : (T.drop i).take ((T.length : Int) - (i : Int)).toNat = T.drop i := List.take_of_length_le (by rw [List.length_drop]; omega)
    rw [ea] at hall
    have e : (T.drop i).takeWhile (fun c => decide (c ∈ g)) = T.drop i := by
      have := take_all (p := fun c => decide (c ∈ g)) (r := []) hall (fun c hc => by cases hc)
      rw [List.append_nil] at this
      exact this.1
    rw [e, List.length_drop, show i + (T.length - i) = T.length by omega] at q
    exact q
end
end KT

namespace KT
open PySem PySem.Spec PyProof.Rows L2
open C8 (Cal pe_c)
theorem atom_lt {t r : List Nat} {d : Dat} (h : atom t = some (d, r)) : r.length < t.length := by
  have dl : ∀ (p : Nat → Bool) (l : List Nat), (l.takeWhile p).length + (l.dropWhile p).length = l.length := by
    intro p l
    have := congrArg List.length (takeD p l)
    rw [List.length_append] at this
    exact this
  unfold atom at h
  split at h
  · rename_i hw
    injection h with h
    injection h with h1 h2
    have := List.length_pos_iff.mpr hw
    have := dl isL t
    rw [← h2]
    omega
  · split at h
    · rename_i h45
      split at h
      · injection h with h
        injection h with h1 h2
        have := dl isD t.tail
        have h3 := congrArg List.length (head_cons h45)
        rw [List.length_cons] at h3
        rw [← h2]
        omega
      · cases h
    · split at h
      · rename_i hok
        injection h with h
        injection h with h1 h2
        have h0 : t.takeWhile isD ≠ [] := fun e => by
          rw [e] at hok
          cases hok
        have := List.length_pos_iff.mpr h0
        have := dl isD t
        rw [← h2]
        omega
      · cases h
theorem lts : ∀ n, (∀ t d r, item n t = some (d, r) → r.length < t.length) ∧ (∀ t d r, items n t = some (d, r) → r.length < t.length)
  | 0 => ⟨fun t d r h => (by rw [item] at h; cases h), fun t d r h => (by rw [items] at h; cases h)⟩
  | n + 1 => by
    obtain ⟨h1, h2⟩ := lts n
    refine ⟨fun t d r h => ?_, fun t d r h => ?_⟩
    · rw [item] at h
      split at h
      · rename_i c
        have hc := congrArg List.length (head_cons c)
        rw [List.length_cons] at hc
        split at h
        · rename_i c2
          injection h with h
          injection h with h3 h4
          have hc2 := congrArg List.length (head_cons c2)
          rw [List.length_cons] at hc2
          rw [← h4]
          omega
        · split at h
          · cases h
          · rename_i ds r' e
            injection h with h
            injection h with h3 h4
            have := h2 _ _ _ e
            rw [← h4]
            omega
      · exact atom_lt h
    · rw [items] at h
      split at h
      · cases h
      · rename_i d' r' e
        have h5 := h1 _ _ _ e
        split at h
        · injection h with h
          injection h with h3 h4
          rw [← h4, List.length_tail]
          omega
        · split at h
          · split at h
            · cases h
            · rename_i ds r'' e2
              injection h with h
              injection h with h3 h4
              have h6 := h2 _ _ _ e2
              rw [List.length_tail] at h6
              rw [← h4]
              omega
          · cases h
theorem Item.lt {t r : List Nat} {d : Dat} (i : Item t d r) : r.length < t.length := by
  obtain ⟨n, i⟩ := i
  exact (lts n).1 _ _ _ i
/-- r is a rest of T -/
def Rest (T r : List Nat) : Prop := ∃ a, T = a ++ r
theorem Rest.eq {T r : List Nat} (h : Rest T r) : T.drop (T.length - r.length) = r := by
  obtain ⟨a, rfl⟩ := h
  rw [List.length_append, Nat.add_sub_cancel, List.drop_left]
theorem Rest.le {T r : List Nat} (h : Rest T r) : r.length ≤ T.length := by
  obtain ⟨a, rfl⟩ := h
  rw [List.length_append]
  omega
theorem Rest.of {T t r a : List Nat} (h : Rest T t) (e : t = a ++ r) : Rest T r := by
  obtain ⟨b, rfl⟩ := h
  exact ⟨b ++ a, by rw [e, List.append_assoc]⟩
theorem Rest.tail {T t : List Nat} {c : Nat} (h : Rest T (c :: t)) : Rest T t := h.of (a := [c]) rfl
theorem Rest.item {T t r : List Nat} {d : Dat} (h : Rest T t) (i : Item t d r) : Rest T r := by
  obtain ⟨a, e, _⟩ := i.flat
  exact h.of e
theorem Runs.rest {n : Nat} {T t : List Nat} (h : Runs n T) (r : Rest T t) : Runs n t := by
  obtain ⟨a, rfl⟩ := r
  exact fun x b c e f => h (a ++ x) b c (by rw [e, List.append_assoc]) f
/-- what _law_item asks and tells; k: how deep it may go -/
def spItem (k : Nat) : Sp := fun vs H Q _ => ∃ (T t : List Nat), vs = [.str (SX.S T), .int ((T.length - t.length : Nat) : Int)] ∧ Rest T t ∧ T.length ≤ 10000000 ∧ Sh (k : Int) t ∧ Runs 99999 T ∧
  (NoItem t → ∀ H', Same H H' → Q .non H') ∧
  (∀ d r v p H', Item t d r → Same H H' → H' p = some (.tup [v, .int ((T.length - r.length : Nat) : Int)]) → DV H' k v d → Q (.ref p) H')
theorem mem_abc (c : Nat) : decide (c ∈ abc) = isL c := by
  by_cases h : 97 ≤ c ∧ c ≤ 122
  · have : ∀ k : Fin 26, (97 + k.val) ∈ abc := by decide +kernel
    have h1 := this ⟨c - 97, by omega⟩
    simp only [show 97 + (c - 97) = c by omega] at h1
    rw [decide_eq_true h1]
    simp [isL, h.1, h.2]
  · have : ∀ x ∈ abc, 97 ≤ x ∧ x ≤ 122 := by decide +kernel
    rw [decide_eq_false fun hm => h (this c hm)]
    simp [isL]
    omega
def digs : List Nat := [48, 49, 50, 51, 52, 53, 54, 55, 56, 57]
theorem digs_eq : ("0123456789" : Str) = SX.S digs := by decide +kernel
theorem mem_digs (c : Nat) : decide (c ∈ digs) = isD c := by
  by_cases h : 48 ≤ c ∧ c ≤ 57
  · have : ∀ k : Fin 10, (48 + k.val) ∈ digs := by decide +kernel
    have h1 := this ⟨c - 48, by omega⟩
    simp only [show 48 + (c - 48) = c by omega] at h1
    rw [decide_eq_true h1]
    simp [isD, h.1, h.2]
  · have : ∀ x ∈ digs, 48 ≤ x ∧ x ≤ 57 := by decide +kernel
    rw [decide_eq_false fun hm => h (this c hm)]
    simp [isD]
    omega
section
variable {P : Program} {w : World} {K : PySem.W.Frag} {mg : Str → Option Value} {base : Heap} {f : Addr} {fd : FuncData}
theorem ok_item (F : Fun K "_law_item" "_law_item" sItem f fd) (gI : mg "_law_item" = some (.ref f)) (bI : Binds K fd ["text", "at"] []) (mR : mg "range" = none) (mL : mg "len" = none) (mT : mg "tuple" = none)
    (cR : Cal P w K mg base 1 "_law_run" spRun []) (cN : Cal P w K mg base 1 "_law_number" spNum []) :
    ∀ k, FnOk P w K mg base CX0 (2 + k) f fd ["text", "at"] (spItem k) := by
  have body : ∀ k, (∀ j, k = j + 1 → FnOk P w K mg base CX0 (1 + k) f fd ["text", "at"] (spItem j)) → FnOk P w K mg base CX0 (2 + k) f fd ["text", "at"] (spItem k) := by
    intro k ih
    rw [show 2 + k = (1 + k) + 1 by omega]
    refine F.ok scItem (fun vs H Q E h => ?_) (fun cdv A outer s H vs Q E hr h => ?_)
    · obtain ⟨T, t, rfl, _⟩ := h
      rfl
    obtain ⟨T, t, rfl, hrest, hT, hsh, hruns, qn, qs⟩ := h
    have et := hrest.eq
    have tle := hrest.le
    generalize hi : T.length - t.length = i at et qn qs
    have il : i + t.length = T.length := by omega
    have hl : (SX.S T).length = T.length := SX.S_len T
    have hsz : (SX.S T).length ≤ sizeLine := by rw [hl]; exact Nat.le_trans hT (by decide)
    have e40 : ("(" : Str) = SX.S [40] := by decide +kernel
    have e41 : (")" : Str) = SX.S [41] := by decide +kernel
    have e32 : (" " : Str) = SX.S [32] := by decide +kernel
    have e45 : ("-" : Str) = SX.S [45] := by decide +kernel
    -- one sign behind place a
    have sign : ∀ (a : Nat) (c : Nat), decide (V.str (cutS (SX.S T) (some (a : Int)) (some ((a : Int) + 1))) = V.str (SX.S [c])) = decide ((T.drop a).head? = some c) := by
      intro a c
      rw [show ((a : Int) + 1) = ((a + 1 : Nat) : Int) by omega, cutN T (Nat.le_succ a), show a + 1 - a = 1 by omega]
      exact one_sign _ c
    have first : cutS (SX.S T) (some (i : Int)) (some ((i : Int) + 1)) = SX.S (t.take 1) := by
      rw [show ((i : Int) + 1) = ((i + 1 : Nat) : Int) by omega, cutN T (Nat.le_succ i), show i + 1 - i = 1 by omega, et]
    by_cases h40 : t.head? = some 40
    · have ht := head_cons h40
      generalize t.tail = u at ht
      subst ht
      rw [List.length_cons] at il
      have k1 : 1 ≤ k := by
        have := hsh [40] u rfl
        rw [show bal [40] = 1 from rfl] at this
        omega
      obtain ⟨j, rfl⟩ : ∃ j, k = j + 1 := ⟨k - 1, by omega⟩
      have hsu : Sh (j : Int) u := by
        have := Sh.behind (a := [40]) hsh
        rw [show bal [40] = 1 from rfl] at this
        exact this.mono (by omega)
      have hru : Rest T u := hrest.tail
      have eu : T.drop (i + 1) = u := by
        have := hru.eq
        rw [show T.length - u.length = i + 1 by omega] at this
        exact this
      have cI : Cal P w K mg base (1 + (j + 1)) "_law_item" (spItem j) [] := ⟨f, fd, _, _, ih j rfl, gI, F.kp, bI, .nil⟩
      refine ⟨_, pss_cons (ps_set (i := 2) scItem.nd rfl (Or.inl rfl) (pe_slice sl_str (pv 0) (po_some (pv 1)) (po_some (pe_op op_add (pv 1) pe_int))))
        (pss_cons (ps_if (pt_cmpR op_eq (pv 2) pe_str (nomark _))
          (pss_cons (ps_if (pt_cmpR op_eq (pe_slice sl_str (pv 0) (po_some (pe_op op_add (pv 1) pe_int)) (po_some (pe_op op_add (pv 1) pe_int))) pe_str (nomark _)) (pss_one (ps_ret (pe_tup (pa_cons (pe_tup pa_nil) (pa_cons (pe_op op_add (pv 1) pe_int) pa_nil))))) pss_nil)
          (pss_cons (ps_set (i := 3) scItem.nd rfl (Or.inl rfl) (pe_lst pa_nil))
          (pss_cons (ps_for PassesOwn.never rfl (pi_range1 (by rfl) mR (pa_cons (pe_callB call_len_str (by rfl) mL PySem.boot_len (pa_cons (pv 0) pa_nil)) pa_nil)) (pg_name (i := 4) scItem.nd rfl (Or.inl rfl))
            (pss_cons (ps_set (i := 5) scItem.nd rfl (Or.inl rfl) (pe_c cI hr (Nat.le_refl _) (by rfl) (pa_cons (pv 0) (pa_cons (pe_op op_add (pv 1) pe_int) pa_nil))))
            (pss_cons (ps_if (pt_cmpR op_isN (pv 5) pe_non (nomark _)) (pss_one (ps_ret pe_non)) pss_nil)
            (pss_cons (ps_expr (pe_bm PySem.F.plainAttrs_list PySem.F.slot_list_append PySem.F.type_list_append mt_append (pv 3) (pa_cons (pe_ix ix_tup (pv 5) pe_int (fun _ _ => rfl)) pa_nil)))
            (pss_cons (ps_set (i := 1) scItem.nd rfl (Or.inl rfl) (pe_ix ix_tup (pv 5) pe_int (fun _ _ => rfl)))
            (pss_cons (ps_if (pt_cmpR op_eq (pe_slice sl_str (pv 0) (po_some (pv 1)) (po_some (pe_op op_add (pv 1) pe_int))) pe_str (nomark _)) (pss_one (ps_ret (pe_tup (pa_cons (pe_tupleOf (by rfl) mT (pv 3)) (pa_cons (pe_op op_add (pv 1) pe_int) pa_nil))))) pss_nil)
            (pss_one (ps_if (pt_cmpR op_ne (pe_slice sl_str (pv 0) (po_some (pv 1)) (po_some (pe_op op_add (pv 1) pe_int))) pe_str (nomark _)) (pss_one (ps_ret pe_non)) pss_nil))))))))
          (pss_one (ps_ret pe_non))))) pss_nil)
        pss_never), ?_⟩
      refine ⟨_, rfl, _, rfl, _, rfl, _, rfl, _, _, rfl, rfl, _, rfl, _, rfl, hsz, ?_⟩
      rw [first]
      refine ⟨_, rfl, rfl, _, rfl, ?_⟩
      rw [e40, one_sign (40 :: u) 40, decide_eq_true h40]
      refine iteT ?_
      -- the empty tuple
      refine ⟨_, rfl, _, rfl, _, _, rfl, rfl, _, rfl, _, rfl, _, _, rfl, rfl, _, rfl, _, rfl, hsz, rfl, _, rfl, ?_⟩
      have ep : cutS (SX.S T) (some ((i : Int) + 1)) (some ((i : Int) + 2)) = SX.S (u.take 1) := by
        rw [show ((i : Int) + 1) = ((i + 1 : Nat) : Int) by omega, show ((i : Int) + 2) = ((i + 2 : Nat) : Int) by omega, cutN T (by omega), show i + 2 - (i + 1) = 1 by omega, eu]
      rw [ep, e41, one_sign u 41]
      by_cases h41 : u.head? = some 41
      · rw [decide_eq_true h41]
        refine iteT ?_
        refine ⟨by show 0 ≤ sizeLine; decide, fun p hp => ?_⟩
        refine ⟨_, rfl, _, _, rfl, rfl, by show 2 ≤ sizeLine; decide, fun p2 hp2 => ?_⟩
        have hu := head_cons h41
        have hul := congrArg List.length hu
        rw [List.length_cons] at hul
        refine qs (.tup []) u.tail (.ref p) p2 _ (by rw [hu]; exact item_empty) ((Same.upd_new hp).trans (Same.upd_new hp2)) ?_ (DVL.tup (xs := []) ?_ .nil)
        · rw [upd_same, show T.length - u.tail.length = i + 2 by omega]
          rfl
        · rw [upd_ne (ne_of_none upd_same hp2), upd_same]
      rw [decide_eq_false h41]
      refine iteF ?_
      -- the parts
      refine ⟨by show 0 ≤ sizeLine; decide, fun R hR => ?_⟩
      refine ⟨_, rfl, _, rfl, hsz, ((SX.S T).length : Int), rfl, by omega, by omega, ?_⟩
      refine for_range (n := (((SX.S T).length : Nat) : Int).toNat) (fun m σ H1 => ∃ (a : Nat) (x : List Nat) (ds : List Dat) (vs : List V) (y4 y5 : Option V), σ = [some (.str (SX.S T)), some (.int (a : Int)), some (.str (SX.S ((40 :: u).take 1))), some (.ref R), y4, y5, none, none, none] ∧
          Same H H1 ∧ H1 R = some (.lst vs) ∧ Paired (DV H1 j) vs ds ∧ Rest T x ∧ a + 1 + x.length = T.length ∧ (i + 2 * m ≤ a ∧ vs.length = m) ∧ Sh (j : Int) x ∧ (NoItems x → NoItems u) ∧ (∀ es r, Items x es r → Items u (ds ++ es) r))
        ⟨i, u, [], [], none, none, rfl, Same.upd_new hR, upd_same, .nil, hru, by omega, ⟨by omega, rfl⟩, hsu, fun h => h, fun es r h => h⟩ (fun m σ H1 hm hP => ?_) (fun σ H1 hP => ?_)
      · obtain ⟨a, x, ds, vs, y4, y5, rfl, s1, eR, hv, hx, ea, ⟨hia, hvm⟩, hsx, hno, hyes⟩ := hP
        have hlen := hv.length
        refine ⟨_, rfl, _, rfl, _, _, rfl, rfl, T, x, ?_, hx, hT, hsx, hruns, fun hn H2 s2 => ?_, fun d r v p H2 hi s2 ep hd => ?_⟩
        · show [V.str (SX.S T), V.int ((a : Int) + 1)] ++ [] = _
          rw [show T.length - x.length = a + 1 by omega]
          rfl
        · refine ⟨_, rfl, rfl, _, rfl, ?_⟩
          refine iteT ?_
          exact qn (noitem_tup h41 (hno (noitems_no hn))) H2 (s1.trans s2)
        · refine ⟨_, rfl, rfl, _, rfl, ?_⟩
          rw [show decide (V.ref p = V.non) = false from decide_eq_false (fun h => by cases h)]
          refine iteF ?_
          have hr := hx.item hi
          have rlt := hi.lt
          have eR2 := s2 _ _ eR
          have nR : ∀ q ys, H2 q = some (.tup ys) → q ≠ R := fun q ys hq e => by
            subst e
            rw [eR2] at hq
            cases hq
          have tk : Tups H2 (upd H2 R (.lst (vs ++ [v]))) := fun q ys hq => by
            rw [upd_ne (nR q ys hq)]
            exact hq
          have ep3 := tk _ _ ep
          have s3 : Same H (upd H2 R (.lst (vs ++ [v]))) := fun q o hq => by
            rw [upd_ne (ne_of_none hq hR)]
            exact s2 _ _ (s1 _ _ hq)
          have hv3 : Paired (DV (upd H2 R (.lst (vs ++ [v]))) j) (vs ++ [v]) (ds ++ [d]) := Paired.snoc (Paired.mono (fun _ _ z => DVL.keep (KT.Same.tups s2 |>.trans tk) (fun _ _ h => h) z) hv) (DVL.keep tk (fun _ _ h => h) hd)
          refine ⟨_, rfl, .inl ⟨rfl, _, SqL.of eR2⟩, _, rfl, p, _, 0, v, rfl, rfl, .inl (.inl ep), rfl, R, _, _, rfl, rfl, eR2, ?_, ?_⟩
          · exact Nat.lt_of_le_of_lt (show vs.length ≤ 10000000 by omega) (by decide)
          generalize hb : T.length - r.length = b at ep ep3
          have er : T.drop b = r := by rw [← hb]; exact hr.eq
          refine ⟨_, rfl, p, _, 1, _, rfl, rfl, .inl (.inl ep3), rfl, ?_⟩
          refine ⟨_, rfl, _, rfl, _, rfl, _, rfl, _, _, rfl, rfl, _, rfl, _, rfl, hsz, rfl, _, rfl, ?_⟩
          rw [sign b 41, er]
          by_cases r41 : r.head? = some 41
          · rw [decide_eq_true r41]
            refine iteT ?_
            refine ⟨_, rfl, .inl ⟨R, _, rfl, SqL.of upd_same, fun q hq => ?_⟩⟩
            refine ⟨_, rfl, _, _, rfl, rfl, by show 2 ≤ sizeLine; decide, fun q2 hq2 => ?_⟩
            have hrc := head_cons r41
            have hrl := congrArg List.length hrc
            rw [List.length_cons] at hrl
            have i2 : Items x [d] r.tail := items_last (by rw [← hrc]; exact hi)
            refine qs (.tup (ds ++ [d])) r.tail (.ref q) q2 _ (item_tup h41 (hyes _ _ i2)) ((s3.trans (Same.upd_new hq)).trans (Same.upd_new hq2)) ?_ ?_
            · rw [upd_same, show T.length - r.tail.length = b + 1 by omega]
              rfl
            · refine DVL.tup (xs := vs ++ [v]) ?_ (Paired.mono (fun _ _ z => DVL.tups ((Same.upd_new hq).trans (Same.upd_new hq2)) z) hv3)
              rw [upd_ne (ne_of_none upd_same hq2), upd_same]
          rw [decide_eq_false r41]
          refine iteF ?_
          refine ⟨_, rfl, _, rfl, _, rfl, _, rfl, _, _, rfl, rfl, _, rfl, _, rfl, hsz, rfl, _, rfl, ?_⟩
          rw [e32, sign b 32, er]
          by_cases r32 : r.head? = some 32
          · rw [decide_eq_true r32]
            refine iteF ?_
            have hrc := head_cons r32
            have hrl := congrArg List.length hrc
            rw [List.length_cons] at hrl
            have hi' : Item x d (32 :: r.tail) := by rw [← hrc]; exact hi
            refine ⟨b, r.tail, ds ++ [d], vs ++ [v], _, _, rfl, s3, upd_same, hv3, ?_, by omega, ⟨by omega, by rw [List.length_append, hvm]; rfl⟩, ?_, fun h => hno (noitems_more hi' h), fun es q h => ?_⟩
            · rw [hrc] at hr
              exact hr.tail
            · obtain ⟨c, ec, bc⟩ := hi'.flat
              rw [ec] at hsx
              have := hsx.behind
              rw [bc] at this
              have := Sh.behind (a := [32]) this
              rw [show bal [32] = 0 from rfl] at this
              exact this.mono (by omega)
            · have := hyes _ _ (items_more hi' h)
              rw [List.append_assoc]
              exact this
          · rw [decide_eq_false r32]
            refine iteT ?_
            exact qn (noitem_tup h41 (hno (noitems_bad hi r41 r32))) _ s3
      · obtain ⟨a, x, ds, vs, y4, y5, rfl, s1, eR, hv, hx, ea, ⟨hia, hvm⟩, hsx, hno, hyes⟩ := hP
        exfalso
        omega
    · -- a word, or a whole number
      refine ⟨_, pss_cons (ps_set (i := 2) scItem.nd rfl (Or.inl rfl) (pe_slice sl_str (pv 0) (po_some (pv 1)) (po_some (pe_op op_add (pv 1) pe_int))))
        (pss_cons (ps_if (pt_cmpR op_eq (pv 2) pe_str (nomark _)) pss_never pss_nil)
        (pss_cons (ps_set (i := 6) scItem.nd rfl (Or.inl rfl) (pe_c cR hr (by omega) (by rfl) (pa_cons (pv 0) (pa_cons (pv 1) (pa_cons pe_str pa_nil)))))
        (pss_cons (ps_if (pt_cmpR op_gt (pv 6) (pv 1) (nomark _)) (pss_one (ps_ret (pe_tup (pa_cons (pe_slice sl_str (pv 0) (po_some (pv 1)) (po_some (pv 6))) (pa_cons (pv 6) pa_nil))))) pss_nil)
        (C8.pss_cut (ps_set (i := 7) scItem.nd rfl (Or.inl rfl) (pe_ifExp (pt_cmpR op_eq (pv 2) pe_str (nomark _)) (pe_op op_add (pv 1) pe_int) (pv 1)))
        (pss_cons (ps_set (i := 6) scItem.nd rfl (Or.inl rfl) (pe_c cR hr (by omega) (by rfl) (pa_cons (pv 0) (pa_cons (pv 7) (pa_cons pe_str pa_nil)))))
        (pss_cons (ps_set (i := 8) scItem.nd rfl (Or.inl rfl) (pe_slice sl_str (pv 0) (po_some (pv 7)) (po_some (pv 6))))
        (pss_cons (ps_if (PW.pt (pw_or (pt_cmpR op_eq (pv 8) pe_str (nomark _)) (pw_or1 (PW.pt (pw_and (pt_cmpR op_eq (pe_ix ix_str (pv 8) pe_int (fun _ _ => rfl)) pe_str (nomark _)) (pw_and1 (PW.pt (pw_or (pt_cmpR op_ne (pv 8) pe_str (nomark _)) (pw_or1 (pt_cmpR op_eq (pv 2) pe_str (nomark _))))))))))) (pss_one (ps_ret pe_non)) pss_nil)
        (pss_one (ps_ret (pe_tup (pa_cons (pe_ifExp (pt_cmpR op_eq (pv 2) pe_str (nomark _)) (pe_un un_neg (pe_c cN hr (by omega) (by rfl) (pa_cons (pv 8) pa_nil))) (pe_c cN hr (by omega) (by rfl) (pa_cons (pv 8) pa_nil))) (pa_cons (pv 6) pa_nil)))))))))))), ?_⟩
      refine ⟨_, rfl, _, rfl, _, rfl, _, rfl, _, _, rfl, rfl, _, rfl, _, rfl, hsz, ?_⟩
      rw [first]
      refine ⟨_, rfl, rfl, _, rfl, ?_⟩
      rw [e40, one_sign t 40, decide_eq_false h40]
      refine iteF ?_
      -- letters
      refine ⟨_, rfl, _, rfl, T, abc, i, by rw [abc_eq]; rfl, by omega, hT, ?_⟩
      have ew : (T.drop i).takeWhile (fun c => decide (c ∈ abc)) = t.takeWhile isL := by
        rw [et]
        congr 1
        funext c
        exact mem_abc c
      rw [ew]
      have wl : (t.takeWhile isL).length + (t.dropWhile isL).length = t.length := by
        have := congrArg List.length (takeD isL t)
        rw [List.length_append] at this
        exact this
      refine ⟨_, rfl, _, rfl, _, _, rfl, rfl, _, rfl, ?_⟩
      refine ite2 (fun e => ?_) (fun e => ?_)
      · have hw : t.takeWhile isL ≠ [] := fun e0 => by
          have := of_decide_eq_true e
          rw [e0] at this
          simp at this
        have cut : cutS (SX.S T) (some (i : Int)) (some ((i + (t.takeWhile isL).length : Nat) : Int)) = SX.S (t.takeWhile isL) := by
          rw [cutN T (Nat.le_add_right _ _), et, Nat.add_sub_cancel_left]
          congr 1
          have := congrArg (List.take (t.takeWhile isL).length) (takeD isL t)
          rw [← this, List.take_left]
        refine ⟨_, rfl, _, rfl, _, rfl, _, rfl, _, rfl, _, rfl, hsz, ?_⟩
        rw [cut]
        refine ⟨_, rfl, by show 2 ≤ sizeLine; decide, fun p hp => ?_⟩
        refine qs (.str (t.takeWhile isL)) (t.dropWhile isL) _ p _ (item_atom h40 (by unfold atom; rw [if_pos hw])) (Same.upd_new hp) ?_ (DVL.leaf (.inl ⟨_, rfl, rfl⟩) _)
        rw [upd_same, show T.length - (t.dropWhile isL).length = i + (t.takeWhile isL).length by omega]
      have hw : t.takeWhile isL = [] := by
        by_cases h : t.takeWhile isL = []
        · exact h
        · have := List.length_pos_iff.mpr h
          exact absurd (decide_eq_true (by omega)) e
      -- the sign
      refine ⟨fun σ H1 => ∃ (neg : Bool) (u : List Nat) (y3 y4 y5 y6 : Option V), σ = [some (.str (SX.S T)), some (.int (i : Int)), some (.str (SX.S (t.take 1))), y3, y4, y5, y6, some (.int ((T.length - u.length : Nat) : Int)), none] ∧ H1 = H ∧ decide (t.head? = some 45) = neg ∧ Rest T u ∧
        atom t = (if numOk neg (u.takeWhile isD) = true then some (.int (if neg then -((NumText.digitsVal (u.takeWhile isD) : Nat) : Int) else ((NumText.digitsVal (u.takeWhile isD) : Nat) : Int)), u.dropWhile isD) else none), ?_, ?_⟩
      · refine ⟨_, rfl, rfl, _, rfl, ?_⟩
        rw [e45, one_sign t 45]
        by_cases h45 : t.head? = some 45
        · rw [decide_eq_true h45]
          refine iteT ?_
          have hc := head_cons h45
          have hlen := congrArg List.length hc
          rw [List.length_cons] at hlen
          refine ⟨_, rfl, _, _, rfl, rfl, true, t.tail, none, none, none, some (.int ((i + (t.takeWhile isL).length : Nat) : Int)), ?_, rfl, rfl, ?_, ?_⟩
          · rw [show T.length - t.tail.length = i + 1 by omega]
            rfl
          · rw [hc] at hrest
            exact hrest.tail
          · unfold atom
            rw [hw, if_neg (by simp), if_pos h45]
            rfl
        · rw [decide_eq_false h45]
          refine iteF ?_
          refine ⟨_, rfl, false, t, none, none, none, some (.int ((i + (t.takeWhile isL).length : Nat) : Int)), ?_, rfl, rfl, hrest, ?_⟩
          · rw [hi]
            rfl
          · unfold atom
            rw [hw, if_neg (by simp), if_neg h45]
            rfl
      rintro σ H1 ⟨neg, u, y3, y4, y5, y6, rfl, rfl, hneg, hu, hatom⟩
      have eu := hu.eq
      have ule := hu.le
      generalize hs : T.length - u.length = s at eu
      -- the figures
      refine ⟨_, rfl, _, rfl, T, digs, s, by rw [digs_eq]; rfl, by omega, hT, ?_⟩
      have ef : (T.drop s).takeWhile (fun c => decide (c ∈ digs)) = u.takeWhile isD := by
        rw [eu]
        congr 1
        funext c
        exact mem_digs c
      rw [ef]
      have fl : (u.takeWhile isD).length + (u.dropWhile isD).length = u.length := by
        have := congrArg List.length (takeD isD u)
        rw [List.length_append] at this
        exact this
      have cut : cutS (SX.S T) (some (s : Int)) (some ((s + (u.takeWhile isD).length : Nat) : Int)) = SX.S (u.takeWhile isD) := by
        rw [cutN T (Nat.le_add_right _ _), eu, Nat.add_sub_cancel_left]
        congr 1
        have := congrArg (List.take (u.takeWhile isD).length) (takeD isD u)
        rw [← this, List.take_left]
      have fd : NumText.AllDigits (u.takeWhile isD) := fun c hc => by
        have := in_take hc
        simpa [isD] using this
      have fr : (u.takeWhile isD).length ≤ 100000 := by
        have := (hruns.rest hu) [] (u.takeWhile isD) (u.dropWhile isD) (by rw [List.nil_append, takeD]) (fun c hc => in_take hc)
        omega
      refine ⟨_, rfl, _, rfl, _, rfl, _, rfl, _, rfl, _, rfl, hsz, ?_⟩
      rw [cut]
      have er : T.length - (u.dropWhile isD).length = s + (u.takeWhile isD).length := by omega
      generalize hf : u.takeWhile isD = fg at *
      generalize hg : u.dropWhile isD = rg at *
      have fsz : (SX.S fg).length ≤ sizeLine := by rw [SX.S_len]; exact Nat.le_trans fr (by decide)
      -- a number's
      have good : numOk neg fg = true → ∀ σ8 : Unit, tRet (tTup (tCons (tIf (tTest (tOp rEq (tVar 2) (tC (.str "-")))) (tUn (rU fun i => .int (-i)) (tCall spNum [] E0 (tCons (tVar 8) tNil))) (tCall spNum [] E0 (tCons (tVar 8) tNil))) (tCons (tVar 6) tNil))) { nx := fun _ H' => Q .non H', rt := Q }
          [some (.str (SX.S T)), some (.int (i : Int)), some (.str (SX.S (t.take 1))), y3, y4, y5, some (.int ((s + fg.length : Nat) : Int)), some (.int ((s : Nat) : Int)), some (.str (SX.S fg))] H1 := by
        intro hok _
        rw [if_pos hok] at hatom
        refine ⟨_, rfl, rfl, _, rfl, ?_⟩
        rw [e45, one_sign t 45, hneg]
        cases neg with
        | true =>
          refine iteT ?_
          refine ⟨_, rfl, fg, rfl, fd, fr, _, rfl, _, rfl, by show 2 ≤ sizeLine; decide, fun p hp => ?_⟩
          exact qs _ _ _ p _ (item_atom h40 hatom) (Same.upd_new hp) (by rw [upd_same, er]; rfl) (DVL.leaf (.inr ⟨_, rfl, rfl⟩) _)
        | false =>
          refine iteF ?_
          refine ⟨_, rfl, fg, rfl, fd, fr, _, rfl, by show 2 ≤ sizeLine; decide, fun p hp => ?_⟩
          exact qs _ _ _ p _ (item_atom h40 hatom) (Same.upd_new hp) (by rw [upd_same, er]; rfl) (DVL.leaf (.inr ⟨_, rfl, rfl⟩) _)
      have bad : numOk neg fg = false → Q .non H1 := fun hno => by
        rw [hno] at hatom
        exact qn (noitem_atom h40 hatom) H1 (Same.refl H1)
      refine ⟨_, rfl, rfl, _, rfl, ?_⟩
      cases fg with
      | nil =>
        rw [show decide (V.str (SX.S []) = V.str "") = true by decide +kernel]
        refine iteT ?_
        exact bad rfl
      | cons c x =>
        have n0 : decide (V.str (SX.S (c :: x)) = V.str "") = false := decide_eq_false fun h => by
          have : SX.S (c :: x) = SX.S [] := V.str.inj h
          exact List.cons_ne_nil _ _ (SX.S_inj this)
        rw [n0]
        refine iteF ?_
        refine ⟨_, rfl, SX.S (c :: x), 0, c, rfl, rfl, fsz, atI_nat (j := 0) rfl, rfl, _, rfl, ?_⟩
        have e48 : ("0" : Str) = SX.S [48] := by decide +kernel
        by_cases hc : c = 48
        · subst hc
          rw [e48, show (decide (V.str { cps := #[48] } = V.str (SX.S [48]))) = true from decide_eq_true rfl]
          refine iteT ?_
          refine ⟨_, rfl, rfl, _, rfl, ?_⟩
          by_cases hx : x = []
          · subst hx
            rw [show (!decide (V.str (SX.S [48]) = V.str (SX.S [48]))) = false by rw [decide_eq_true rfl]; rfl]
            refine iteF ?_
            refine ⟨_, rfl, rfl, _, rfl, ?_⟩
            rw [e45, one_sign t 45, hneg]
            cases neg with
            | true =>
              refine iteT ?_
              exact bad rfl
            | false =>
              refine iteF ?_
              exact good rfl ()
          · have hn : (!decide (V.str (SX.S (48 :: x)) = V.str (SX.S [48]))) = true := by
              rw [Bool.not_eq_true', decide_eq_false_iff_not]
              intro h
              have := SX.S_inj (V.str.inj h)
              injection this with _ h2
              exact hx h2
            rw [hn]
            refine iteT ?_
            refine bad ?_
            unfold numOk
            cases x with
            | nil => exact absurd rfl hx
            | cons y z => simp
        · have hn : decide (V.str { cps := #[c] } = V.str "0") = false := decide_eq_false fun h => by
            rw [e48] at h
            have : SX.S [c] = SX.S [48] := V.str.inj h
            have := SX.S_inj this
            injection this with h1 _
            exact hc h1
          rw [hn]
          refine iteF ?_
          exact good (by unfold numOk; simp [hc]) ()
  intro k
  induction k with
  | zero => exact body 0 fun j e => by cases e
  | succ k ih =>
    refine body (k + 1) fun j e => ?_
    have : k = j := by omega
    subst this
    exact ih.mono (by omega)
end
end KT

namespace KT
open PySem PySem.Spec PyProof.Rows L2
open C8 (Cal pe_c)
abbrev sReadL : Stmt := top 25
abbrev sSame : Stmt := top 26
theorem scReadL : FnScope ["text", "told"] ["text"] (defScope sReadL) := ⟨rfl, rfl, rfl, by decide +kernel, rfl, by decide +kernel, by decide +kernel⟩
theorem scSame : FnScope ["one", "two", "k"] ["one", "two"] (defScope sSame) := ⟨rfl, rfl, rfl, by decide +kernel, rfl, by decide +kernel, by decide +kernel⟩
def spReadL (k : Nat) : Sp := fun vs H Q _ => ∃ T : List Nat, vs = [.str (SX.S T)] ∧ T.length ≤ 10000000 ∧ Sh (k : Int) T ∧ Runs 99999 T ∧
  ((∀ d, ¬ Item T d []) → ∀ p H', Same H H' → H' p = some (.lst []) → Q (.ref p) H') ∧
  (∀ d v p H', Item T d [] → Same H H' → H' p = some (.lst [v]) → DV H' k v d → Q (.ref p) H')
def spSame (n : Nat) : Sp := fun vs H Q _ => ∃ (v1 v2 : V) (d : Dat), vs = [v1, v2] ∧ DV H n v1 d ∧ DV H n v2 d ∧ d.txt.length ≤ 10000000 ∧ ∀ H', Same H H' → Q (.bl true) H'
section
variable {P : Program} {w : World} {K : PySem.W.Frag} {mg : Str → Option Value} {base : Heap} {f : Addr} {fd : FuncData}
theorem ok_readL {k : Nat} (F : Fun K "_law_read" "_law_read" sReadL f fd) (mL : mg "len" = none) (cI : Cal P w K mg base (2 + k) "_law_item" (spItem k) []) : FnOk P w K mg base CX0 (3 + k) f fd ["text"] (spReadL k) := by
  rw [show 3 + k = (2 + k) + 1 by omega]
  refine F.ok scReadL (fun vs H Q E h => ?_) (fun cdv A outer s H vs Q E hr h => ?_)
  · obtain ⟨T, rfl, _⟩ := h
    rfl
  obtain ⟨T, rfl, hT, hsh, hruns, qn, qs⟩ := h
  refine ⟨_, pss_cons (ps_set (i := 1) scReadL.nd rfl (Or.inl rfl) (pe_c cI hr (Nat.le_refl _) (by rfl) (pa_cons (pv 0) (pa_cons pe_int pa_nil))))
    (pss_cons (ps_if (PW.pt (pw_or (pt_cmpR op_isN (pv 1) pe_non (nomark _)) (pw_or1 (pt_cmpR op_ne (pe_ix ix_tup (pv 1) pe_int (fun _ _ => rfl)) (pe_callB call_len_str (by rfl) mL PySem.boot_len (pa_cons (pv 0) pa_nil)) (nomark _))))) (pss_one (ps_ret (pe_lst pa_nil))) pss_nil)
    (pss_one (ps_ret (pe_lst (pa_cons (pe_ix ix_tup (pv 1) pe_int (fun _ _ => rfl)) pa_nil))))), ?_⟩
  have hl : (SX.S T).length = T.length := SX.S_len T
  have hsz : (SX.S T).length ≤ sizeLine := by rw [hl]; exact Nat.le_trans hT (by decide)
  have none' : (∀ d, ¬ Item T d []) → ∀ σ H1, Same H H1 → tRet (tLst tNil) { nx := fun _ H' => Q .non H', rt := Q } σ H1 := fun hn σ H1 s1 => ⟨by show 0 ≤ sizeLine; decide, fun p hp => qn hn p _ (s1.trans (Same.upd_new hp)) upd_same⟩
  refine ⟨_, rfl, T, T, ?_, ⟨[], rfl⟩, hT, hsh, hruns, fun hn H1 s1 => ?_, fun d r v p H1 hi s1 ep hd => ?_⟩
  · rw [Nat.sub_self]
    rfl
  · refine ⟨_, rfl, rfl, _, rfl, ?_⟩
    refine iteT ?_
    exact none' (fun d hd => hn.not hd) _ _ s1
  · refine ⟨_, rfl, rfl, _, rfl, ?_⟩
    rw [show decide (V.ref p = V.non) = false from decide_eq_false (fun h => by cases h)]
    refine iteF ?_
    refine ⟨_, rfl, p, _, 1, _, rfl, rfl, .inl (.inl ep), rfl, _, rfl, _, rfl, hsz, rfl, _, rfl, ?_⟩
    rw [hl]
    have rlt := hi.lt
    by_cases h0 : r = []
    · subst h0
      rw [List.length_nil, Nat.sub_zero, show (!decide (V.int (T.length : Int) = V.int (T.length : Int))) = false by rw [decide_eq_true rfl]; rfl]
      refine iteF ?_
      refine ⟨_, rfl, p, _, 0, v, rfl, rfl, .inl (.inl ep), rfl, by show 1 ≤ sizeLine; decide, fun q hq => ?_⟩
      exact qs d v q _ hi (s1.trans (Same.upd_new hq)) upd_same (DVL.tups (Same.upd_new hq) hd)
    · have hpos := List.length_pos_iff.mpr h0
      have : (!decide (V.int ((T.length - r.length : Nat) : Int) = V.int (T.length : Int))) = true := by
        rw [Bool.not_eq_true', decide_eq_false_iff_not]
        intro h
        have := V.int.inj h
        omega
      rw [this]
      refine iteT ?_
      exact none' (fun d' hd' => h0 (hi.one hd').2) _ _ s1
theorem ok_same (F : Fun K "_law_same" "_law_same" sSame f fd) (gS : mg "_law_same" = some (.ref f)) (bS : Binds K fd ["one", "two"] []) (mI : mg "isinstance" = none) (mT : mg "tuple" = none) (mS : mg "str" = none) (mN : mg "int" = none) (mB : mg "bool" = none) (mL : mg "len" = none) (mA : mg "all" = none) (mR : mg "range" = none) :
    ∀ n, FnOk P w K mg base CX0 (1 + n) f fd ["one", "two"] (spSame n) := by
  have body : ∀ n, (∀ j, n = j + 1 → FnOk P w K mg base CX0 n f fd ["one", "two"] (spSame j)) → FnOk P w K mg base CX0 (1 + n) f fd ["one", "two"] (spSame n) := by
    intro n ih
    rw [show 1 + n = n + 1 by omega]
    refine F.ok scSame (fun vs H Q E h => ?_) (fun cdv A outer s H vs Q E hr h => ?_)
    · obtain ⟨v1, v2, d, rfl, _⟩ := h
      rfl
    obtain ⟨v1, v2, d, rfl, h1, h2, hd, q⟩ := h
    have leaf : Leaf v1 d → Leaf v2 d → ∃ t, PSs (cxOf CX0 P w K mg base ["one", "two", "k"] "_law_same" (defScope sSame) f cdv A outer s H E).nox (defBody sSame) t ∧ t { nx := fun _ H' => Q .non H', rt := Q } (start ["one", "two", "k"] [v1, v2]) H := by
      intro l1 l2
      refine ⟨_, pss_cons (ps_if (pt_val (pe_callB call_isi (by rfl) mI boot_isinstance (pa_cons (pv 1) (pa_cons (pe_bltn (v := .ty "tuple") (by rfl) mT boot_tuple rfl) pa_nil)))) pss_never pss_nil)
        (pss_cons (ps_if (pt_val (pe_callB call_isi (by rfl) mI boot_isinstance (pa_cons (pv 1) (pa_cons (pe_bltn (v := .ty "str") (by rfl) mS boot_str rfl) pa_nil))))
          (pss_one (ps_ret (pe_and (pe_callB call_isi (by rfl) mI boot_isinstance (pa_cons (pv 0) (pa_cons (pe_bltn (v := .ty "str") (by rfl) mS boot_str rfl) pa_nil))) (pe_one (pe_cmpR op_eq (pv 0) (pv 1) (nomark _)))))) pss_nil)
        (pss_one (ps_ret (pe_and (pe_callB call_isi (by rfl) mI boot_isinstance (pa_cons (pv 0) (pa_cons (pe_bltn (v := .ty "int") (by rfl) mN boot_int rfl) pa_nil)))
          (pe_and (pe_not (pe_callB call_isi (by rfl) mI boot_isinstance (pa_cons (pv 0) (pa_cons (pe_bltn (v := .ty "bool") (by rfl) mB boot_bool rfl) pa_nil)))) (pe_one (pe_cmpR op_eq (pv 0) (pv 1) (nomark _)))))))), ?_⟩
      rcases l1 with ⟨l, rfl, rfl⟩ | ⟨i, rfl, rfl⟩
      · have e2 : v2 = .str (SX.S l) := by
          rcases l2 with ⟨l', e1, e2⟩ | ⟨i', e1, e2⟩
          · cases e2
            exact e1
          · cases e2
        subst e2
        refine ⟨_, rfl, _, _, _, _, false, rfl, .ty _, .base (.str _), kit_ty (by decide +kernel), _, rfl, ?_⟩
        refine ⟨_, rfl, _, _, _, _, true, rfl, .ty _, .base (.str _), kit_ty (by decide +kernel), _, rfl, ?_⟩
        refine ⟨_, rfl, _, _, _, _, true, rfl, .ty _, .base (.str _), kit_ty (by decide +kernel), _, rfl, ?_⟩
        refine ⟨_, rfl, _, rfl, rfl, ?_⟩
        rw [decide_eq_true rfl]
        exact q H (Same.refl H)
      · have e2 : v2 = .int i := by
          rcases l2 with ⟨l', e1, e2⟩ | ⟨i', e1, e2⟩
          · cases e2
          · cases e2
            exact e1
        subst e2
        refine ⟨_, rfl, _, _, _, _, false, rfl, .ty _, .base (.int _), kit_ty (by decide +kernel), _, rfl, ?_⟩
        refine ⟨_, rfl, _, _, _, _, false, rfl, .ty _, .base (.int _), kit_ty (by decide +kernel), _, rfl, ?_⟩
        refine ⟨_, rfl, _, _, _, _, true, rfl, .ty _, .base (.int _), kit_ty (by decide +kernel), _, rfl, ?_⟩
        refine ⟨_, rfl, _, _, _, _, false, rfl, .ty _, .base (.int _), kit_ty (by decide +kernel), _, rfl, _, rfl, ?_⟩
        refine ⟨_, rfl, _, rfl, rfl, ?_⟩
        rw [decide_eq_true rfl]
        exact q H (Same.refl H)
    cases n with
    | zero => exact leaf h1 h2
    | succ n =>
      rcases h1.cases with l1 | ⟨p1, xs1, ds, rfl, e1, rfl, r1⟩
      · rcases h2.cases with l2 | ⟨p2, xs2, ds, rfl, e2, rfl, r2⟩
        · exact leaf l1 l2
        · rcases l1 with ⟨_, _, e⟩ | ⟨_, _, e⟩ <;> cases e
      · rcases h2.cases with l2 | ⟨p2, xs2, ds2, rfl, e2, e3, r2⟩
        · rcases l2 with ⟨_, _, e⟩ | ⟨_, _, e⟩ <;> cases e
        cases e3
        have cS : Cal P w K mg base (n + 1) "_law_same" (spSame n) [] := ⟨f, fd, _, _, ih n rfl, gS, F.kp, bS, .nil⟩
        refine ⟨_, pss_cons (ps_if (pt_val (pe_callB call_isi (by rfl) mI boot_isinstance (pa_cons (pv 1) (pa_cons (pe_bltn (v := .ty "tuple") (by rfl) mT boot_tuple rfl) pa_nil))))
          (pss_one (ps_ret (pe_and (pe_callB call_isi (by rfl) mI boot_isinstance (pa_cons (pv 0) (pa_cons (pe_bltn (v := .ty "tuple") (by rfl) mT boot_tuple rfl) pa_nil)))
            (pe_and (pe_cmpR op_eq (pe_callB call_len_seq (by rfl) mL PySem.boot_len (pa_cons (pv 0) pa_nil)) (pe_callB call_len_seq (by rfl) mL PySem.boot_len (pa_cons (pv 1) pa_nil)) (nomark _))
            (pe_one (pe_callB (cr_all rfl) (by rfl) mA (by decide +kernel) (pa_cons (pe_lc (own := [("k", 2)]) (g := gName 2) (te := tCall (spSame n) [] E0 (tCons (tOp (rIxT K) (tVar 0) (tVar 2)) (tCons (tOp (rIxT K) (tVar 1) (tVar 2)) tNil))) rfl scSame.nd (pi_range1 (by rfl) mR (pa_cons (pe_callB call_len_seq (by rfl) mL PySem.boot_len (pa_cons (pv 1) pa_nil)) pa_nil)) (blkOk_by (N := ["one", "two", "k"]) (sc := defScope sSame) (by decide +kernel)) (fun _ _ _ _ _ => pg_name (i := 2) scSame.nd rfl (Or.inl rfl)) (fun _ _ _ _ _ => pts_nil)
              (fun _ _ _ _ _ => pe_c cS hr (Nat.le_refl _) (by rfl) (pa_cons (pe_ix ix_tup (pv 0) (pv 2) (fun _ _ => rfl)) (pa_cons (pe_ix ix_tup (pv 1) (pv 2) (fun _ _ => rfl)) pa_nil)))) pa_nil))))))) pss_nil)
          pss_never, ?_⟩
        obtain ⟨_, hone⟩ := txt_bounds ds
        have n1 := r1.length
        have n2 := r2.length
        have S1 : SqT K H p1 xs1 := .inl (.inl e1)
        have S2 : SqT K H p2 xs2 := .inl (.inl e2)
        have hcount : ds.length ≤ 10000000 := by
          have := (txt_bounds ds).1
          omega
        refine ⟨_, rfl, _, _, _, _, true, rfl, .ty _, .base (.tup e2), kit_ty (by decide +kernel), _, rfl, ?_⟩
        refine ⟨_, rfl, _, _, _, _, true, rfl, .ty _, .base (.tup e1), kit_ty (by decide +kernel), _, rfl, ?_⟩
        refine ⟨_, rfl, p1, _, rfl, .inr S1, _, rfl, p2, _, rfl, .inr S2, rfl, _, rfl, ?_⟩
        rw [show decide (V.int (xs1.length : Int) = V.int (xs2.length : Int)) = true by rw [n1, n2]; exact decide_eq_true rfl]
        refine iteT ?_
        refine ⟨_, rfl, p2, _, rfl, .inr S2, (xs2.length : Int), rfl, by omega, by omega, fun D hD => ?_⟩
        refine lc_range (n := ((xs2.length : Nat) : Int).toNat) (fun i H1 => Same H H1 ∧ H1 D = some (.lst ((List.replicate i true).map V.bl))) ⟨Same.upd_new hD, upd_same⟩ (fun i H1 hi hP => ?_) (fun H1 hP => ?_)
        · obtain ⟨s1, eD⟩ := hP
          have i1 : i < xs1.length := by omega
          have i2 : i < xs2.length := by omega
          obtain ⟨d1, f1, g1⟩ := Paired.at r1 (List.getElem?_eq_getElem i1)
          obtain ⟨d2, f2, g2⟩ := Paired.at r2 (List.getElem?_eq_getElem i2)
          have : d1 = d2 := Option.some.inj (f1.symm.trans f2)
          subst this
          refine ⟨rfl, ?_⟩
          refine ⟨_, rfl, _, rfl, p1, xs1, ((0 : Int) + (i : Int)), _, rfl, rfl, .inl (.inl (s1 _ _ e1)), ?_, _, rfl, _, rfl, p2, xs2, ((0 : Int) + (i : Int)), _, rfl, rfl, .inl (.inl (s1 _ _ e2)), ?_, xs1[i], xs2[i], d1, rfl, DVL.tups s1 g1, DVL.tups s1 g2, Nat.le_trans (hone d1 (List.mem_of_getElem? f1)) hd, fun H2 s2 => ?_⟩
          · rw [show ((0 : Int) + (i : Int)) = ((i : Nat) : Int) by omega]
            exact atI_nat (List.getElem?_eq_getElem i1)
          · rw [show ((0 : Int) + (i : Int)) = ((i : Nat) : Int) by omega]
            exact atI_nat (List.getElem?_eq_getElem i2)
          · refine ⟨_, s2 _ _ eD, ?_, ?_, ?_⟩
            · rw [List.length_map, List.length_replicate]
              exact Nat.lt_of_le_of_lt (show i ≤ 10000000 by omega) (by decide)
            · intro a o ha
              rw [upd_ne (ne_of_none ha hD)]
              exact s2 _ _ (s1 _ _ ha)
            · rw [upd_same, List.replicate_succ', List.map_append]
              rfl
        · obtain ⟨s1, eD⟩ := hP
          refine ⟨D, _, rfl, SqL.of eD, ?_⟩
          have e : (List.replicate (((xs2.length : Nat) : Int).toNat) true).all id = true := by
            rw [List.all_eq_true]
            intro x hx
            exact List.eq_of_mem_replicate hx
          rw [e]
          exact q H1 s1
  intro n
  induction n with
  | zero => exact body 0 fun j e => by cases e
  | succ n ih =>
    refine body (n + 1) fun j e => ?_
    have : n = j := by omega
    subst this
    exact ih.mono (by omega)
end
end KT

namespace PySem
open Builtin Builtin.Str
theorem gives_str_replace4 (x y z : Str) (t u v r : Tok)
    (hf : ((occurrences x y 0 x.length 1).isEmpty || (y.length == 0 && z.length == 0)) = false →
      (u == 0 || v == 0) = false ∧ (u == v) = false ∧ (y == z) = false ∧ tooLong (x.length + (occurrences x y 0 x.length 1).length * z.length) = false) :
    Gives («str.replace» ⟨[.str x t, .str y u, .str z v, .int 1 r], []⟩) (if ((occurrences x y 0 x.length 1).isEmpty || (y.length == 0 && z.length == 0)) = true then .val (.str x t) else .str (glued z (partsBetween x (occurrences x y 0 x.length 1) y.length))) := by
  show Gives (if ((occurrences x y 0 x.length 1).isEmpty || (y.length == 0 && z.length == 0)) = true then (do rule "str.replace.nothing"; ret (.str x t)) else
          (do let same ← isSame (.str y u) (.str z v)
              if same = true then (do rule "str.replace.old-is-new"; ret (.str x t)) else
              if tooLong (x.length + (occurrences x y 0 x.length 1).length * z.length) = true then unsupported "str.replace:memory" else
              retStr (glued z (partsBetween x (occurrences x y 0 x.length 1) y.length)))) _
  cases hc : ((occurrences x y 0 x.length 1).isEmpty || (y.length == 0 && z.length == 0))
  · obtain ⟨h0, huv, hyz, hl⟩ := hf hc
    rw [isSame_str_other y z u v h0 huv hyz, hl]
    exact .of_eq rfl
  · exact .rule (.of_eq rfl)
end PySem
namespace KT
open PySem PySem.Spec PyProof.Rows L2
open C8 (Cal pe_c)
/-! ### text.replace(' ', '  ', 1) -/
open Builtin Builtin.Str in
/-- the text with its first blank doubled -/
def rep1 (x y z : Str) : Str := if ((occurrences x y 0 x.length 1).isEmpty || (y.length == 0 && z.length == 0)) = true then x else glued z (partsBetween x (occurrences x y 0 x.length 1) y.length)
/-- T' is T with a block of two signs at most, or all behind a place, put for another of two at most -/
def Ed (T T' : List Nat) : Prop := ∃ p m s q, T = p ++ (m ++ q) ∧ T' = p ++ (s ++ q) ∧ s.length ≤ 2 ∧ (m.length ≤ 2 ∨ q = [])
theorem ed_at {T : List Nat} (i j : Nat) (s : List Nat) (h : s.length ≤ 2) (hij : i ≤ j ∧ (j ≤ i + 2 ∨ T.length ≤ j) := by omega) : Ed T (T.take i ++ (s ++ T.drop j)) := by
  refine ⟨T.take i, (T.drop i).take (j - i), s, T.drop j, ?_, rfl, h, ?_⟩
  · have : T.drop j = (T.drop i).drop (j - i) := by
      rw [List.drop_drop]
      congr 1
      omega
    rw [this, List.take_append_drop, List.take_append_drop]
  · rcases hij.2 with h1 | h1
    · refine Or.inl ?_
      rw [List.length_take]
      omega
    · exact Or.inr (List.drop_eq_nil_of_le h1)
theorem rep1_ed (T y z : List Nat) (hy : y.length = 1) (hz : z.length = 2) : ∃ T', rep1 (SX.S T) (SX.S y) (SX.S z) = SX.S T' ∧ Ed T T' ∧ T'.length ≤ T.length + 2 := by
  unfold rep1
  split
  · exact ⟨T, rfl, by
      have := ed_at (T := T) T.length T.length [] (by decide)
      rw [List.take_length, List.drop_length, List.append_nil, List.append_nil] at this
      exact this, by omega⟩
  · rename_i h
    have h1 := StrLaws.occ_length_le (SX.S T) (SX.S y) 0 (SX.S T).length 1
    generalize Builtin.Str.occurrences (SX.S T) (SX.S y) 0 (SX.S T).length 1 = o at h h1
    cases o with
    | nil => exact absurd rfl h
    | cons i r =>
      have : r = [] := by
        cases r with
        | nil => rfl
        | cons _ _ => simp at h1
      subst this
      refine ⟨T.take i ++ (z ++ T.drop (i + 1)), ?_, ed_at i (i + 1) z (by omega), ?_⟩
      · rw [SX.S_len, hy]
        refine TL.ext_tl ?_
        show (Builtin.Str.glued (SX.S z) [Builtin.Str.strSub (SX.S T) 0 i, Builtin.Str.strSub (SX.S T) (i + 1) (SX.S T).length]).cps.toList = _
        unfold Builtin.Str.glued Builtin.Str.strSub
        simp [TL.tl, SX.S_len, List.extract_eq_drop_take]
        exact List.take_of_length_le (by rw [List.length_drop]; omega)
      · rw [List.length_append, List.length_append, List.length_take, List.length_drop]
        omega
section
variable {X : Cx} {o : Expr} {to : TE} {apos pos c0 c1 c2 : Pos} {j k l : Nat} {y z : Str}
def tRep1 (to : TE) (y z : Str) : TE := fun σ H Q => to σ H fun v H1 => ∃ x, v = .str x ∧ x.length + z.length ≤ 16777216 ∧ Q (.str (rep1 x y z)) H1
open Builtin Builtin.Str in
theorem call_rep1 {prog : Program} {w : World} {A : Around} {E : Value → Shared → Prop} {s : Shared} {x : Str} {t u v r : Tok} {Q : Value → Shared → Prop} (hu : u ≠ 0) (hv : v ≠ 0) (huv : u ≠ v) (hyz : (y == z) = false) (hb : x.length + z.length ≤ 16777216)
    (hq : ∀ t' k, Q (.str (rep1 x y z) t') { s with toks := k }) : wpAny (model prog w) A (call (.builtin "str.replace") [.str x t, .str y u, .str z v, .int 1 r]) Q E s := by
  have e : (2 : Nat) ^ 24 = 16777216 := by decide
  have h1 := StrLaws.occ_length_le x y 0 x.length 1
  have h2 : (occurrences x y 0 x.length 1).length * z.length ≤ 1 * z.length := Nat.mul_le_mul_right _ h1
  have hl : tooLong (x.length + (occurrences x y 0 x.length 1).length * z.length) = false := by
    unfold tooLong sizeLine
    exact decide_eq_false (by omega)
  refine call_gives F.slot_str_replace (typeIs_str _ _ _) F.entry_str_replace (F.args_str_replace_4 _ _ _ _)
    (gives_str_replace4 x y z t u v r fun _ => ⟨by simp [hu, hv], by simp [huv], hyz, hl⟩) ?_
  have hq' := hq
  unfold rep1 at hq'
  cases hc : ((occurrences x y 0 x.length 1).isEmpty || (y.length == 0 && z.length == 0))
  · rw [hc] at hq'
    simp only [Bool.false_eq_true, if_false] at hq' ⊢
    refine ⟨?_, hq' _ _⟩
    have hy : (glued y (partsBetween x (occurrences x y 0 x.length 1) y.length)).length = x.length := by rw [StrLaws.glued_between_self]
    rw [size_glued, length_partsBetween, Nat.add_sub_cancel] at hy
    rw [size_glued, length_partsBetween, Nat.add_sub_cancel, sizeLine_eq]
    omega
  · rw [hc] at hq'
    simp only [if_true] at hq' ⊢
    exact hq' t s.toks
theorem pet_rep1 (ho : PE X o to) (hyz : (y == z) = false := by decide)
    (hst : starEach [.Constant (.str y) j c0, .Constant (.str z) k c1, .Constant (.int 1) l c2] X.env = [(false, eval (.Constant (.str y) j c0) X.env), (false, eval (.Constant (.str z) k c1) X.env), (false, eval (.Constant (.int 1) l c2) X.env)] := by rfl)
    (hbase : attributeBase o "replace" X.env (eval o X.env) = eval o X.env := by rfl) (hline : (apos.endLine == pos.line) = true := by rfl) :
    PET X (.Call (.Attribute o "replace" apos) [.Constant (.str y) j c0, .Constant (.str z) k c1, .Constant (.int 1) l c2] [] pos) (tRep1 to y z) := by
  intro pins s σ H Q h0 I h
  refine wpAny_Call_method_lateS hbase (by rw [hst]; rfl) hline ?_
  rw [hst]
  refine wpAny_mono (PySem.wpAny_toks (ho.run pins s σ H _ I h)) (fun v s1 q => ?_) fun _ _ z => z.2
  obtain ⟨hk, v', H1, I1, r1, x, e1, hb, q⟩ := q
  subst e1
  obtain ⟨tx, e2⟩ := r1
  subst e2
  refine ⟨"str", _, PySem.F.plainAttrs_str, PySem.F.slot_str_replace, PySem.F.type_str_replace, typeIs_str _ _ _, (fun _ e => nomatch e), Calls.callWith_builtin rfl (Calls.evalArgs_plain (Calls.spliced_cons ?_))⟩
  refine Calls.Constant_str (pos := c0) (k := j) ?_
  refine Calls.spliced_cons ?_
  refine Calls.Constant_str (pos := c1) (k := k) ?_
  refine Calls.spliced_cons ?_
  refine wpAny_Constant_int (pos := c2) (k := l) ?_
  refine Calls.spliced_nil ?_
  exact call_rep1 (by show s1.toks ≠ 0; omega) (by show s1.toks + 1 ≠ 0; omega) (by show s1.toks ≠ s1.toks + 1; omega) hyz hb fun t' k => ⟨.str (rep1 x y z), H1, I1.tok k, ⟨t', rfl⟩, q⟩
/-- x = 'a' + 'b': behind it a token is out -/
theorem pss_strs {rest : List Stmt} {u : TS} {i j k : Nat} {x a b : Str} {p1 p2 p3 pos' pos : Pos} (hN : X.N.Nodup) (hi : X.N[i]? = some x) (hx : Loc X.env.scope x) (h2 : PSsT X rest u) (hsz : a.length + b.length ≤ sizeLine)
    (hs : swapsWith (.BinOp (.Constant (.str a) j p1) .Add (.Constant (.str b) k p2) p3) (some (.Name x pos')) pos.line X.env = pure false := by rfl) (hf : X.fn x = true ∨ X.env.scope.names.lookup x = some .local := by first | exact .inl rfl | exact .inr rfl | assumption) :
    PSs X (.Assign [.Name x pos'] (.BinOp (.Constant (.str a) j p1) .Add (.Constant (.str b) k p2) p3) pos :: rest) (tSeq (tAsg (tC (.str (a ++ b))) (gName i)) u) := by
  refine ⟨fun pins s σ H D I h => ?_⟩
  refine wpAny_execs_cons (wpAny_Assign_Name (wpAny_BinOp (Calls.Constant_str (Calls.Constant_str ?_))) hs)
  have add : wpAny (model X.prog X.w) X.A (binaryOp .Add (.str a s.toks) (.str b (s.toks + 1))) (fun v s' => (∃ t, v = .str (a ++ b) t) ∧ Inv X pins σ H s') X.xe { s with toks := s.toks + 1 + 1 } :=
    PyProof.Rows.add_str (fun t' tk => ⟨⟨t', rfl⟩, I.tok tk⟩) hsz
  refine wpAny_mono (PySem.wpAny_toks add) (fun v s1 q => ?_) fun _ _ z => z.2
  obtain ⟨hk, ⟨t, e⟩, I1⟩ := q
  subst e
  refine wpAny_mono (PySem.wpAny_toks (store_ok (v := V.str (a ++ b)) (u := Value.str (a ++ b) t) (Q := fun _ s2 => Inv X pins (σ.set i (some (V.str (a ++ b)))) H s2) I1 hN hi hx ⟨t, rfl⟩ (fun _ I2 => I2) hf)) (fun _ s2 q => ?_) fun _ _ z => z.2
  have h1 : s.toks + 1 + 1 ≤ s1.toks := hk
  have h3 : s1.toks ≤ s2.toks := q.1
  exact h2 pins s2 _ H D (by omega) q.2 h
end
end KT

namespace KT
open PySem PySem.Spec PyProof.Rows L2
open C8 (Cal pe_c)
open CwR
abbrev sSpoilt : Stmt := top 28
theorem scSpoilt : FnScope ["box", "text", "at", "signs", "sign", "way"] ["box", "text"] (defScope sSpoilt) := ⟨rfl, rfl, rfl, by decide +kernel, rfl, by decide +kernel, by decide +kernel⟩
def spSpoilt : Sp := fun vs H Q _ => ∃ (b : Addr) (z : Int) (T : List Nat), vs = [.ref b, .str (SX.S T)] ∧ Bx H b z ∧ 0 ≤ z ∧ T.length ≤ 9000000 ∧
  ∀ T' z' H', Ed T T' → T'.length ≤ T.length + 2 → 0 ≤ z' → Bx H' b z' → Kept b H H' → Q (.str (SX.S T')) H'
def sgn1 : List Nat := chars " ()-0123456789abzAZ_,.\t\n+'/:;\x40[]{}|~!#*=<>?^&$yByY"
def sgn2 : List Nat := chars "`\\\""
theorem six_a {k : Nat} (h : k < 6) : ∃ l : List Nat, ([.str " ", .str ")", .str "a", .str "0", .str " a", .str "()"] : List V)[k]? = some (.str (SX.S l)) ∧ l.length ≤ 2 := by
  have : ∀ k : Fin 6, ∃ l : List Nat, ([.str " ", .str ")", .str "a", .str "0", .str " a", .str "()"] : List V)[k.val]? = some (.str (SX.S l)) ∧ l.length ≤ 2 := by
    intro k
    match k with
    | ⟨0, _⟩ => exact ⟨chars " ", show some (V.str " ") = _ by rw [chars_eq], by decide +kernel⟩
    | ⟨1, _⟩ => exact ⟨chars ")", show some (V.str ")") = _ by rw [chars_eq], by decide +kernel⟩
    | ⟨2, _⟩ => exact ⟨chars "a", show some (V.str "a") = _ by rw [chars_eq], by decide +kernel⟩
    | ⟨3, _⟩ => exact ⟨chars "0", show some (V.str "0") = _ by rw [chars_eq], by decide +kernel⟩
    | ⟨4, _⟩ => exact ⟨chars " a", show some (V.str " a") = _ by rw [chars_eq], by decide +kernel⟩
    | ⟨5, _⟩ => exact ⟨chars "()", show some (V.str "()") = _ by rw [chars_eq], by decide +kernel⟩
  exact this ⟨k, h⟩
theorem six_b {k : Nat} (h : k < 6) : ∃ l : List Nat, ([.str " ", .str "(", .str "0", .str "-", .str "00", .str "+"] : List V)[k]? = some (.str (SX.S l)) ∧ l.length ≤ 2 := by
  have : ∀ k : Fin 6, ∃ l : List Nat, ([.str " ", .str "(", .str "0", .str "-", .str "00", .str "+"] : List V)[k.val]? = some (.str (SX.S l)) ∧ l.length ≤ 2 := by
    intro k
    match k with
    | ⟨0, _⟩ => exact ⟨chars " ", show some (V.str " ") = _ by rw [chars_eq], by decide +kernel⟩
    | ⟨1, _⟩ => exact ⟨chars "(", show some (V.str "(") = _ by rw [chars_eq], by decide +kernel⟩
    | ⟨2, _⟩ => exact ⟨chars "0", show some (V.str "0") = _ by rw [chars_eq], by decide +kernel⟩
    | ⟨3, _⟩ => exact ⟨chars "-", show some (V.str "-") = _ by rw [chars_eq], by decide +kernel⟩
    | ⟨4, _⟩ => exact ⟨chars "00", show some (V.str "00") = _ by rw [chars_eq], by decide +kernel⟩
    | ⟨5, _⟩ => exact ⟨chars "+", show some (V.str "+") = _ by rw [chars_eq], by decide +kernel⟩
  exact this ⟨k, h⟩
theorem cutTo (T : List Nat) (a : Nat) : cutS (SX.S T) none (some (a : Int)) = SX.S (T.take a) := by
  unfold cutS
  rw [HT.sIx_nat, HT.sIx_none, SX.S_len]
  show SX.S ((T.drop 0).take _) = _
  rw [List.drop_zero, Nat.sub_zero]
  congr 1
  by_cases h : a ≤ T.length
  · rw [Nat.min_eq_left h]
  · rw [Nat.min_eq_right (by omega), List.take_of_length_le (Nat.le_refl _), List.take_of_length_le (by omega)]
theorem cutFrom (T : List Nat) (a : Nat) : cutS (SX.S T) (some (a : Int)) none = SX.S (T.drop a) := by
  unfold cutS
  rw [HT.sIx_nat, HT.sIx_none, SX.S_len]
  show SX.S ((T.drop _).take _) = _
  congr 1
  by_cases h : a ≤ T.length
  · rw [Nat.min_eq_left h, List.take_of_length_le (by rw [List.length_drop]; omega)]
  · rw [Nat.min_eq_right (by omega), List.drop_eq_nil_of_le (Nat.le_refl _), List.drop_eq_nil_of_le (show T.length ≤ a by omega)]
    simp
section
variable {P : Program} {w : World} {K : PySem.W.Frag} {mg : Str → Option Value} {base : Heap} {f : Addr} {fd : FuncData}
theorem ok_spoilt (F : Fun K "_law_spoilt" "_law_spoilt" sSpoilt f fd) (cT : Cal P w K mg base 1 "_law_take" spTake []) (mL : mg "len" = none) : FnOk P w K mg base CX0 2 f fd ["box", "text"] spSpoilt := by
  refine F.ok scSpoilt (fun vs H Q E h => ?_) (fun cdv A outer s H vs Q E hr h => ?_)
  · obtain ⟨b, z, T, rfl, _⟩ := h
    rfl
  obtain ⟨b, z, T, rfl, hb, hz, hT, q⟩ := h
  refine ⟨_, pss_cons (ps_set (i := 2) scSpoilt.nd rfl (Or.inl rfl) (pe_c cT hr (by decide) (by rfl) (pa_cons (pv 0) (pa_cons (pe_op op_add (pe_callB call_len_str (by rfl) mL PySem.boot_len (pa_cons (pv 1) pa_nil)) pe_int) pa_nil))))
    (pss_strs (i := 3) scSpoilt.nd rfl (Or.inl rfl)
      (psst_cons (PST.of (ps_set (i := 4) scSpoilt.nd rfl (Or.inl rfl) (pe_ix ix_str (pv 3) (pe_c cT hr (by decide) (by rfl) (pa_cons (pv 0) (pa_cons (pe_callB call_len_str (by rfl) mL PySem.boot_len (pa_cons (pv 3) pa_nil)) pa_nil))) (fun _ _ => rfl))))
      (psst_cons (PST.of (ps_set (i := 5) scSpoilt.nd rfl (Or.inl rfl) (pe_c cT hr (by decide) (by rfl) (pa_cons (pv 0) (pa_cons pe_int pa_nil)))))
      (psst_cons (PST.of (ps_if (pt_cmpR op_eq (pv 5) pe_int (nomark _)) (pss_one (ps_ret (pe_op op_add_str (pe_op op_add_str (pe_slice sl_str (pv 1) po_none (po_some (pv 2))) (pv 4)) (pe_slice sl_str (pv 1) (po_some (pv 2)) po_none)))) pss_nil))
      (psst_cons (PST.of (ps_if (pt_cmpR op_eq (pv 5) pe_int (nomark _)) (pss_one (ps_ret (pe_op op_add_str (pe_slice sl_str (pv 1) po_none (po_some (pv 2))) (pe_slice sl_str (pv 1) (po_some (pe_op op_add (pv 2) pe_int)) po_none)))) pss_nil))
      (psst_cons (PST.of (ps_if (pt_cmpR op_eq (pv 5) pe_int (nomark _)) (pss_one (ps_ret (pe_op op_add_str (pe_op op_add_str (pe_slice sl_str (pv 1) po_none (po_some (pv 2))) (pv 4)) (pe_slice sl_str (pv 1) (po_some (pe_op op_add (pv 2) pe_int)) po_none)))) pss_nil))
      (psst_cons (PST.of (ps_if (pt_cmpR op_eq (pv 5) pe_int (nomark _)) (pss_one (ps_ret (pe_op op_add_str (pe_op op_add_str (pe_slice sl_str (pv 1) po_none (po_some (pv 2))) (pe_slice sl_str (pv 1) (po_some (pv 2)) (po_some (pe_op op_add (pv 2) pe_int)))) (pe_slice sl_str (pv 1) (po_some (pv 2)) po_none)))) pss_nil))
      (psst_cons (PST.of (ps_if (pt_cmpR op_eq (pv 5) pe_int (nomark _)) (pss_one (ps_ret (pe_op op_add_str (pe_op op_add_str (pe_op op_add_str (pe_slice sl_str (pv 1) po_none (po_some (pv 2))) (pe_slice sl_str (pv 1) (po_some (pe_op op_add (pv 2) pe_int)) (po_some (pe_op op_add (pv 2) pe_int)))) (pe_slice sl_str (pv 1) (po_some (pv 2)) (po_some (pe_op op_add (pv 2) pe_int)))) (pe_slice sl_str (pv 1) (po_some (pe_op op_add (pv 2) pe_int)) po_none)))) pss_nil))
      (psst_cons (PST.of (ps_if (pt_cmpR op_eq (pv 5) pe_int (nomark _)) (pss_one (ps_ret (pe_op op_add_str (pv 1) (pe_ix ix_list (pe_lst (pa_cons pe_str (pa_cons pe_str (pa_cons pe_str (pa_cons pe_str (pa_cons pe_str (pa_cons pe_str pa_nil))))))) (pe_c cT hr (by decide) (by rfl) (pa_cons (pv 0) (pa_cons pe_int pa_nil))) (fun _ _ => rfl))))) pss_nil))
      (psst_cons (PST.of (ps_if (pt_cmpR op_eq (pv 5) pe_int (nomark _)) (pss_one (ps_ret (pe_op op_add_str (pe_ix ix_list (pe_lst (pa_cons pe_str (pa_cons pe_str (pa_cons pe_str (pa_cons pe_str (pa_cons pe_str (pa_cons pe_str pa_nil))))))) (pe_c cT hr (by decide) (by rfl) (pa_cons (pv 0) (pa_cons pe_int pa_nil))) (fun _ _ => rfl)) (pv 1)))) pss_nil))
      (psst_cons (PST.of (ps_if (pt_cmpR op_eq (pv 5) pe_int (nomark _)) (pss_one (ps_ret (pe_slice sl_str (pv 1) po_none (po_some (pv 2))))) pss_nil))
      (psst_one (pst_ret (pet_rep1 (pv 1) (by decide +kernel))))))))))))))
      (by decide +kernel)), ?_⟩
  have hl : (SX.S T).length = T.length := SX.S_len T
  have hsz : (SX.S T).length ≤ sizeLine := by rw [hl]; exact Nat.le_trans hT (by decide)
  -- the place
  have m1 : (0 : Int) < (T.length : Int) + 1 := by omega
  have hat := mod_lt' (z := z) m1
  obtain ⟨a, ea⟩ := toNat_of hat.1
  have ha : a ≤ T.length := by
    have := hat.2
    rw [ea] at this
    omega
  refine ⟨_, rfl, _, rfl, _, rfl, hsz, _, _, rfl, rfl, b, z, (T.length : Int) + 1, by rw [hl]; rfl, hb, m1, by omega, ?_⟩
  rw [ea]
  have hz1 := div_nn hz m1
  generalize ez1 : z / ((T.length : Int) + 1) = z1 at hz1
  generalize hH1 : upd H b (.lst [.int z1]) = H1
  have hb1 : Bx H1 b z1 := by rw [← hH1]; exact upd_same
  have k1 : Kept b H H1 := by rw [← hH1]; exact Kept.upd
  clear hH1 ez1
  -- the sign
  have esg : (Str.ofString " ()-0123456789abzAZ_,.\t\n+'/:;\x40[]{}|~!#*=<>?^&$yByY" ++ Str.ofString "`\\\"") = SX.S (sgn1 ++ sgn2) := by
    rw [chars_eq, chars_eq, SX.S_cat]
    rfl
  have hn : (sgn1 ++ sgn2).length = 53 := by decide +kernel
  have hsg : (SX.S (sgn1 ++ sgn2)).length ≤ sizeLine := by rw [SX.S_len, hn]; decide
  have m53 := mod_lt' (z := z1) (m := 53) (by decide)
  obtain ⟨c, ec⟩ := toNat_of m53.1
  have cl : c < (sgn1 ++ sgn2).length := by omega
  refine ⟨_, rfl, _, rfl, _, rfl, SX.S (sgn1 ++ sgn2), by rw [esg], hsg, b, z1, 53, by rw [SX.S_len, hn]; rfl, hb1, by decide, by decide, SX.S (sgn1 ++ sgn2), (c : Int), (sgn1 ++ sgn2)[c], by rw [esg], by rw [ec], hsg, atI_nat (xs := sgn1 ++ sgn2) (List.getElem?_eq_getElem cl), ?_⟩
  generalize (sgn1 ++ sgn2)[c] = sg
  have hz2 := div_nn hz1 (show (0 : Int) < 53 by decide)
  generalize z1 / 53 = z2 at hz2
  generalize hH2 : upd H1 b (.lst [.int z2]) = H2
  have hb2 : Bx H2 b z2 := by rw [← hH2]; exact upd_same
  have k2 : Kept b H H2 := by rw [← hH2]; exact k1.trans Kept.upd
  clear hH2
  -- the way
  refine ⟨_, rfl, b, z2, 9, rfl, hb2, by decide, by decide, ?_⟩
  have hz3 := div_nn hz2 (show (0 : Int) < 9 by decide)
  generalize z2 / 9 = z3 at hz3
  generalize z2 % 9 = wy
  generalize hH3 : upd H2 b (.lst [.int z3]) = H3
  have hb3 : Bx H3 b z3 := by rw [← hH3]; exact upd_same
  have k3 : Kept b H H3 := by rw [← hH3]; exact k2.trans Kept.upd
  clear hH3
  have out : ∀ T', Ed T T' → T'.length ≤ T.length + 2 → Q (.str (SX.S T')) H3 := fun T' e l => q T' z3 H3 e l hz3 hb3 k3
  have big : ∀ n : Nat, n ≤ 9000100 → n ≤ sizeLine := fun n h => Nat.le_trans h (by decide)
  have a1 : ((a : Int) + 1) = ((a + 1 : Nat) : Int) := by omega
  have a2 : ((a : Int) + 2) = ((a + 2 : Nat) : Int) := by omega
  have eSg : (V.str { cps := #[sg] }) = V.str (SX.S [sg]) := rfl
  refine ⟨_, rfl, rfl, _, rfl, ?_⟩
  refine ite2 (fun _ => ?_) (fun _ => ?_)
  · refine ⟨_, rfl, _, rfl, _, rfl, _, rfl, hsz, _, rfl, _, _, rfl, eSg, ?_, _, rfl, _, rfl, _, rfl, _, rfl, hsz, _, _, rfl, rfl, ?_, ?_⟩
    · rw [cutTo, SX.S_len, SX.S_len]
      exact big _ (by simp; omega)
    · rw [cutTo, cutFrom, SX.S_cat, SX.S_len, SX.S_len]
      exact big _ (by simp; omega)
    · rw [cutTo, cutFrom, SX.S_cat, SX.S_cat, List.append_assoc]
      exact out _ (ed_at a a [sg] (by show 1 ≤ 2; decide)) (by simp; omega)
  refine ⟨_, rfl, rfl, _, rfl, ?_⟩
  refine ite2 (fun _ => ?_) (fun _ => ?_)
  · refine ⟨_, rfl, _, rfl, _, rfl, _, rfl, hsz, _, rfl, _, rfl, _, _, rfl, rfl, _, rfl, _, rfl, hsz, _, _, rfl, rfl, ?_, ?_⟩
    · rw [a1, cutTo, cutFrom, SX.S_len, SX.S_len]
      exact big _ (by simp; omega)
    · rw [a1, cutTo, cutFrom, SX.S_cat]
      exact out _ (ed_at a (a + 1) [] (by decide)) (by simp; omega)
  refine ⟨_, rfl, rfl, _, rfl, ?_⟩
  refine ite2 (fun _ => ?_) (fun _ => ?_)
  · refine ⟨_, rfl, _, rfl, _, rfl, _, rfl, hsz, _, rfl, _, _, rfl, eSg, ?_, _, rfl, _, rfl, _, _, rfl, rfl, _, rfl, _, rfl, hsz, _, _, rfl, rfl, ?_, ?_⟩
    · rw [cutTo, SX.S_len, SX.S_len]
      exact big _ (by simp; omega)
    · rw [a1, cutTo, cutFrom, SX.S_cat, SX.S_len, SX.S_len]
      exact big _ (by simp; omega)
    · rw [a1, cutTo, cutFrom, SX.S_cat, SX.S_cat, List.append_assoc]
      exact out _ (ed_at a (a + 1) [sg] (by show 1 ≤ 2; decide)) (by simp; omega)
  refine ⟨_, rfl, rfl, _, rfl, ?_⟩
  refine ite2 (fun _ => ?_) (fun _ => ?_)
  · refine ⟨_, rfl, _, rfl, _, rfl, _, rfl, hsz, _, rfl, _, rfl, _, rfl, _, rfl, _, _, rfl, rfl, _, rfl, _, rfl, hsz, _, _, rfl, rfl, ?_, _, rfl, _, rfl, _, rfl, _, rfl, hsz, _, _, rfl, rfl, ?_, ?_⟩
    · rw [a1, cutTo, cutN T (Nat.le_succ a), SX.S_len, SX.S_len]
      exact big _ (by simp; omega)
    · rw [a1, cutTo, cutFrom, cutN T (Nat.le_succ a), SX.S_cat, SX.S_len, SX.S_len]
      exact big _ (by simp; omega)
    · rw [a1, cutTo, cutFrom, cutN T (Nat.le_succ a), SX.S_cat, SX.S_cat, List.append_assoc]
      exact out _ (ed_at a a _ (by simp; omega)) (by simp; omega)
  refine ⟨_, rfl, rfl, _, rfl, ?_⟩
  refine ite2 (fun _ => ?_) (fun _ => ?_)
  · refine ⟨_, rfl, _, rfl, _, rfl, _, rfl, hsz, _, rfl, _, rfl, _, _, rfl, rfl, _, rfl, _, rfl, _, _, rfl, rfl, _, rfl, _, rfl, hsz, _, _, rfl, rfl, ?_,
      _, rfl, _, rfl, _, rfl, _, rfl, _, _, rfl, rfl, _, rfl, _, rfl, hsz, _, _, rfl, rfl, ?_, _, rfl, _, rfl, _, _, rfl, rfl, _, rfl, _, rfl, hsz, _, _, rfl, rfl, ?_, ?_⟩
    · rw [a1, a2, cutTo, cutN T (Nat.le_succ (a + 1)), SX.S_len, SX.S_len]
      exact big _ (by simp; omega)
    · rw [a1, a2, cutTo, cutN T (Nat.le_succ (a + 1)), cutN T (Nat.le_succ a), SX.S_cat, SX.S_len, SX.S_len]
      exact big _ (by simp; omega)
    · rw [a1, a2, cutTo, cutFrom, cutN T (Nat.le_succ (a + 1)), cutN T (Nat.le_succ a), SX.S_cat, SX.S_cat, SX.S_len, SX.S_len]
      exact big _ (by simp; omega)
    · rw [a1, a2, cutTo, cutFrom, cutN T (Nat.le_succ (a + 1)), cutN T (Nat.le_succ a), SX.S_cat, SX.S_cat, SX.S_cat, List.append_assoc, List.append_assoc, ← List.append_assoc (List.take _ (List.drop (a + 1) T))]
      exact out _ (ed_at a (a + 2) _ (by simp; omega)) (by simp; omega)
  refine ⟨_, rfl, rfl, _, rfl, ?_⟩
  refine ite2 (fun _ => ?_) (fun _ => ?_)
  · obtain ⟨j, ej⟩ := toNat_of (mod_lt' (z := z3) (m := 6) (by decide)).1
    have j6 := (mod_lt' (z := z3) (m := 6) (by decide)).2
    obtain ⟨l, el, l2⟩ := six_a (k := j) (by omega)
    refine ⟨_, rfl, by show 6 ≤ sizeLine; decide, fun p hp => ?_⟩
    refine ⟨_, rfl, b, z3, 6, rfl, hb3.new hp, by decide, by decide, p, _, (j : Int), _, rfl, by rw [ej], .inl (.inl ?_), atI_nat el, _, _, rfl, rfl, ?_, ?_⟩
    · rw [upd_ne (hb3.ne hp), upd_same]
    · rw [SX.S_len, SX.S_len]
      exact big _ (by omega)
    · rw [SX.S_cat]
      refine q (T ++ l) (z3 / 6) _ ?_ (by simp; omega) (div_nn hz3 (by decide)) upd_same ((k3.trans (Kept.new hp)).trans Kept.upd)
      have := ed_at (T := T) T.length T.length l l2
      rw [List.take_length, List.drop_length, List.append_nil] at this
      exact this
  refine ⟨_, rfl, rfl, _, rfl, ?_⟩
  refine ite2 (fun _ => ?_) (fun _ => ?_)
  · obtain ⟨j, ej⟩ := toNat_of (mod_lt' (z := z3) (m := 6) (by decide)).1
    have j6 := (mod_lt' (z := z3) (m := 6) (by decide)).2
    obtain ⟨l, el, l2⟩ := six_b (k := j) (by omega)
    refine ⟨by show 6 ≤ sizeLine; decide, fun p hp => ?_⟩
    refine ⟨_, rfl, b, z3, 6, rfl, hb3.new hp, by decide, by decide, p, _, (j : Int), _, rfl, by rw [ej], .inl (.inl ?_), atI_nat el, _, rfl, _, _, rfl, rfl, ?_, ?_⟩
    · rw [upd_ne (hb3.ne hp), upd_same]
    · rw [SX.S_len, SX.S_len]
      exact big _ (by omega)
    · rw [SX.S_cat]
      refine q (l ++ T) (z3 / 6) _ ?_ (by simp; omega) (div_nn hz3 (by decide)) upd_same ((k3.trans (Kept.new hp)).trans Kept.upd)
      have := ed_at (T := T) 0 0 l l2
      rw [List.take_zero, List.drop_zero, List.nil_append] at this
      exact this
  refine ⟨_, rfl, rfl, _, rfl, ?_⟩
  refine ite2 (fun _ => ?_) (fun _ => ?_)
  · refine ⟨_, rfl, _, rfl, _, rfl, _, rfl, hsz, ?_⟩
    rw [cutTo]
    have := ed_at (T := T) a T.length [] (by decide)
    rw [List.drop_length, List.append_nil, List.append_nil] at this
    exact out _ this (by simp; omega)
  obtain ⟨T', eT, ed, tl⟩ := rep1_ed T (chars " ") (chars "  ") (by decide +kernel) (by decide +kernel)
  refine ⟨_, rfl, SX.S T, rfl, ?_, ?_⟩
  · rw [hl, show (Str.ofString "  ").length = 2 by decide +kernel]
    omega
  · rw [chars_eq, chars_eq, eT]
    exact out T' ed tl
end
end KT

namespace KT
open PySem PySem.Spec PyProof.Rows L2
/-! ### what is read has the text that was read -/
theorem numL_back : ∀ (n : Nat) (l : List Nat), l.length = n → l ≠ [] → (∀ c ∈ l, isD c = true) → (l.head? = some 48 → l = [48]) → TL.numL (NumText.digitsVal l) = l := by
  intro n
  induction n with
  | zero => intro l h h0; exact absurd (List.length_eq_zero_iff.mp h) h0
  | succ n ih =>
    intro l h h0 hd hh
    rcases List.eq_nil_or_concat l with rfl | ⟨x, c, rfl⟩
    · exact absurd rfl h0
    rw [List.concat_eq_append] at *
    have hc : 48 ≤ c ∧ c ≤ 57 := by
      have := hd c (by simp)
      simp [isD] at this
      exact this
    rw [NumText.digitsVal_snoc]
    by_cases hx : x = []
    · subst hx
      show TL.numL (0 * 10 + (c - 48)) = [c]
      rw [TL.numL_lt (by omega)]
      congr 1
      omega
    · obtain ⟨a, r, rfl⟩ : ∃ a r, x = a :: r := match x, hx with | a :: r, _ => ⟨a, r, rfl⟩
      have ha : a ≠ 48 := fun e => by
        subst e
        have := congrArg List.length (hh rfl)
        simp at this
      have ha2 : 48 ≤ a := by
        have := hd a (by simp)
        simp [isD] at this
        exact this.1
      have i := ih (a :: r) (by simp at h ⊢; omega) hx (fun c hc => hd c (List.mem_append_left _ hc)) (fun e => absurd (Option.some.inj e) ha)
      have p := NumText.digitsVal_pos (c := a) (cs := r) (by omega)
      generalize NumText.digitsVal (a :: r) = m at i p
      rw [TL.numL_step (by omega), show (m * 10 + (c - 48)) / 10 = m by omega, show (m * 10 + (c - 48)) % 10 = c - 48 by omega, i, show 48 + (c - 48) = c by omega]
theorem numOk_ne {b : Bool} {f : List Nat} (h : numOk b f = true) : f ≠ [] ∧ (f.head? = some 48 → f = [48] ∧ b = false) := by
  unfold numOk at h
  refine ⟨fun e => by subst e; simp at h, fun e => ?_⟩
  rw [e] at h
  simp at h
  exact h.2
theorem tw_all {p : Nat → Bool} (l : List Nat) : ∀ c ∈ l.takeWhile p, p c = true := by
  induction l with
  | nil => intro c hc; cases hc
  | cons a l ih =>
    intro c hc
    rw [List.takeWhile_cons] at hc
    by_cases h : p a = true
    · rw [if_pos h] at hc
      rcases List.mem_cons.mp hc with rfl | hc
      · exact h
      · exact ih c hc
    · rw [if_neg h] at hc
      cases hc
theorem atom_txt {t r : List Nat} {d : Dat} (h : atom t = some (d, r)) : t = d.txt ++ r := by
  unfold atom at h
  by_cases h1 : t.takeWhile isL ≠ []
  · rw [if_pos h1] at h
    cases h
    exact (List.takeWhile_append_dropWhile ..).symm
  rw [if_neg h1] at h
  by_cases h2 : t.head? = some 45
  · rw [if_pos h2] at h
    by_cases h3 : numOk true (t.tail.takeWhile isD) = true
    · rw [if_pos h3] at h
      cases h
      obtain ⟨x, rfl⟩ : ∃ x, t = 45 :: x := match t, h2 with | a :: x, e => ⟨x, by rw [List.head?_cons] at e; rw [Option.some.inj e]⟩
      rw [List.tail_cons] at h3 ⊢
      obtain ⟨n0, n1⟩ := numOk_ne h3
      have b := numL_back _ (x.takeWhile isD) rfl n0 (tw_all x) (fun e => (n1 e).1)
      have pos : 0 < NumText.digitsVal (x.takeWhile isD) := by
        cases e : x.takeWhile isD with
        | nil => exact absurd e n0
        | cons a r =>
          have hm : a ∈ x.takeWhile isD := by rw [e]; exact List.mem_cons_self ..
          have := tw_all x a hm
          simp [isD] at this
          refine NumText.digitsVal_pos ?_
          have : a ≠ 48 := fun e2 => by
            have := (n1 (by rw [e, e2]; rfl)).2
            cases this
          omega
      show 45 :: x = intL _ ++ _
      unfold intL
      rw [if_pos (by omega), Int.natAbs_neg, Int.natAbs_natCast, b, List.cons_append, List.takeWhile_append_dropWhile]
    · rw [if_neg h3] at h
      cases h
  · rw [if_neg h2] at h
    by_cases h3 : numOk false (t.takeWhile isD) = true
    · rw [if_pos h3] at h
      cases h
      obtain ⟨n0, n1⟩ := numOk_ne h3
      have b := numL_back _ (t.takeWhile isD) rfl n0 (tw_all t) (fun e => (n1 e).1)
      show t = intL _ ++ _
      unfold intL
      rw [if_neg (by omega), Int.natAbs_natCast, b, List.takeWhile_append_dropWhile]
    · rw [if_neg h3] at h
      cases h
theorem head_of {t : List Nat} {c : Nat} (h : t.head? = some c) : t = c :: t.tail := match t, h with | a :: x, e => by rw [List.head?_cons] at e; rw [Option.some.inj e]; rfl
theorem item_txt : ∀ n, (∀ t d r, item n t = some (d, r) → t = d.txt ++ r) ∧ (∀ t ds r, items n t = some (ds, r) → t = TL.joinL [32] (ds.map Dat.txt) ++ 41 :: r ∧ ds ≠ [])
  | 0 => ⟨fun t d r h => (by rw [item] at h; cases h), fun t d r h => (by rw [items] at h; cases h)⟩
  | n + 1 => by
    obtain ⟨h1, h2⟩ := item_txt n
    refine ⟨fun t d r h => ?_, fun t ds r h => ?_⟩
    · rw [item] at h
      by_cases c : t.head? = some 40
      · rw [if_pos c] at h
        by_cases c2 : t.tail.head? = some 41
        · rw [if_pos c2] at h
          cases h
          rw [head_of c]
          show 40 :: t.tail = (Dat.tup []).txt ++ _
          rw [txt_tup, head_of c2]
          rfl
        · rw [if_neg c2] at h
          cases e : items n t.tail with
          | none => rw [e] at h; cases h
          | some y =>
            obtain ⟨ds, r'⟩ := y
            rw [e] at h
            cases h
            rw [txt_tup]
            have := (h2 _ _ _ e).1
            rw [head_of c, this]
            simp
      · rw [if_neg c] at h
        exact atom_txt h
    · rw [items] at h
      cases e : item n t with
      | none => rw [e] at h; cases h
      | some y =>
        obtain ⟨d, r1⟩ := y
        rw [e] at h
        have et := h1 _ _ _ e
        simp only at h
        by_cases c : r1.head? = some 41
        · rw [if_pos c] at h
          cases h
          refine ⟨?_, List.cons_ne_nil _ _⟩
          rw [et, head_of c]
          rfl
        · rw [if_neg c] at h
          by_cases c2 : r1.head? = some 32
          · rw [if_pos c2] at h
            cases e2 : items n r1.tail with
            | none => rw [e2] at h; cases h
            | some z =>
              obtain ⟨ds', r2⟩ := z
              rw [e2] at h
              cases h
              refine ⟨?_, List.cons_ne_nil _ _⟩
              obtain ⟨a, x, rfl⟩ : ∃ a x, ds' = a :: x := match ds', (h2 _ _ _ e2).2 with | a :: x, _ => ⟨a, x, rfl⟩
              rw [et, head_of c2, (h2 _ _ _ e2).1]
              show _ = (d.txt ++ ([32] ++ TL.joinL [32] ((a :: x).map Dat.txt))) ++ 41 :: r
              simp
          · rw [if_neg c2] at h
            cases h
theorem Item.txt {T : List Nat} {d : Dat} (h : Item T d []) : d.txt = T := by
  obtain ⟨n, h⟩ := h
  have := (item_txt n).1 _ _ _ h
  rw [List.append_nil] at this
  exact this.symm
/-! ### how far an edit goes -/
def Inx (y T : List Nat) : Prop := ∃ a c, T = a ++ (y ++ c)
theorem Inx.trans {x y T : List Nat} (h : Inx x y) (g : Inx y T) : Inx x T := by
  obtain ⟨a, c, rfl⟩ := h
  obtain ⟨a', c', rfl⟩ := g
  exact ⟨a' ++ a, c ++ c', by simp⟩
theorem inx_dt (T : List Nat) (i n : Nat) : Inx ((T.drop i).take n) T := ⟨T.take i, (T.drop i).drop n, by rw [List.take_append_drop, List.take_append_drop]⟩
theorem inx_app {y u v : List Nat} (h : Inx y (u ++ v)) : ∃ y1 y2, y = y1 ++ y2 ∧ Inx y1 u ∧ Inx y2 v := by
  obtain ⟨a, c, e⟩ := h
  have : y = ((u ++ v).drop a.length).take y.length := by rw [e, List.drop_left, List.take_left]
  rw [List.drop_append, List.take_append] at this
  exact ⟨_, _, this, inx_dt _ _ _, inx_dt _ _ _⟩
def Rn (n : Nat) (T : List Nat) : Prop := ∀ y, Inx y T → (∀ x ∈ y, isD x = true) → y.length ≤ n
theorem bal_le : ∀ l : List Nat, bal l ≤ (l.length : Int) ∧ -(l.length : Int) ≤ bal l
  | [] => by simp [bal]
  | c :: r => by
    have := bal_le r
    rw [bal, List.length_cons]
    split
    · omega
    · split <;> omega
theorem Inx.len {y T : List Nat} (h : Inx y T) : y.length ≤ T.length := by
  obtain ⟨a, c, rfl⟩ := h
  simp
  omega
theorem sh_ed {k m : Int} {T T' : List Nat} (e : Ed T T') (h : Sh k T) (hm : k + 4 ≤ m) : Sh m T' := by
  obtain ⟨p, mm, s, q, rfl, rfl, hs, hq⟩ := e
  intro a b e
  have hp := h p (mm ++ q) rfl
  rcases List.append_eq_append_iff.mp e with ⟨c, rfl, e2⟩ | ⟨c, rfl, e2⟩
  · have hs2 := bal_le s
    rw [bal_app]
    rcases List.append_eq_append_iff.mp e2 with ⟨c', rfl, e3⟩ | ⟨c', rfl, e3⟩
    · subst e3
      have hx := h (p ++ (mm ++ c')) b (by simp)
      rw [bal_app, bal_app] at hx
      rw [bal_app]
      rcases hq with hq | hq
      · have hm2 := bal_le mm
        omega
      · have : c' = [] := (List.append_eq_nil_iff.mp hq).1
        subst this
        simp [bal] at *
        omega
    · have hc := bal_le c
      have : c.length ≤ 2 := by
        rw [List.length_append] at hs
        omega
      omega
  · have := h a (c ++ (mm ++ q)) (by simp)
    omega
theorem rn_ed {k : Nat} {T T' : List Nat} (e : Ed T T') (h : Rn k T) : Rn (2 * k + 2) T' := by
  obtain ⟨p, mm, s, q, rfl, rfl, hs, hq⟩ := e
  intro y hy hd
  obtain ⟨y1, y23, rfl, h1, h23⟩ := inx_app hy
  obtain ⟨y2, y3, rfl, h2, h3⟩ := inx_app h23
  have b1 := h y1 (h1.trans ⟨[], mm ++ q, rfl⟩) (fun x hx => hd x (by simp [hx]))
  have b3 := h y3 (h3.trans ⟨p ++ mm, [], by simp⟩) (fun x hx => hd x (by simp [hx]))
  have := h2.len
  rw [List.length_append, List.length_append]
  omega
theorem rn_of {n : Nat} {T : List Nat} (h : Runs n T) : Rn n T := fun y hy hd => by
  obtain ⟨a, c, e⟩ := hy
  exact h a y c e hd
theorem Rn.runs {n : Nat} {T : List Nat} (h : Rn n T) {m : Nat} (le : n ≤ m) : Runs m T := fun a b c e hd => Nat.le_trans (h b ⟨a, c, e⟩ hd) le
end KT

namespace KT
open PySem PySem.Spec PyProof.Rows L2
open CwR
/-! ### where a value with an identity has been made before: one token is out -/
/-- a promise kept where one token is out -/
structure FnT (P : Program) (w : World) (K : PySem.W.Frag) (mg : Str → Option Value) (base : Heap) (C : CXT) (k : Nat) (f : Addr) (fd : FuncData) (ps : List Str) (sp : Sp) : Prop where
  many : ∀ vs H Q E, sp vs H Q E → vs.length = ps.length
  goes : ∀ (A : Around) (outer : List Env) (s : Shared) (H : Hp) (args : Args) (us : List Value) (vs : List V) (Q : VK) (E : XK),
    1 ≤ s.toks → Room k A → Env0 P w K mg base A outer s H → BindsTo s fd args (ps.zip us) → Vals vs us → sp vs H Q E → codeAny (model P w) A (.call (.ref f) args) (CR C outer P w H s Q E) s
section
variable {P : Program} {w : World} {K : PySem.W.Frag} {mg : Str → Option Value} {base : Heap} {x qual : Str} {st : Stmt} {f : Addr} {fd : FuncData} {N ps : List Str} {k : Nat} {sp : Sp} {C : CXT}
theorem Fun.okT (F : Fun K x qual st f fd) (S : FnScope N ps (defScope st)) (len : ∀ vs H Q E, sp vs H Q E → vs.length = ps.length)
    (body : ∀ (cdv : Value) (A : Around) (outer : List Env) (s : Shared) (H : Hp) (vs : List V) (Q : VK) (E : XK), Room k (A.deeper (envOfC qual (defScope st) s.heap.objs.size f cdv)) → sp vs H Q E →
      ∃ t, PSsT (cxOf C P w K mg base N qual (defScope st) f cdv A outer s H E) (defBody st) t ∧ t { nx := fun _ H' => Q .non H', rt := Q } (start N vs) H) : FnT P w K mg base C (k + 1) f fd ps sp := by
  obtain ⟨oc, od, kV, doc, pm, an, cdv, ct, osl, rfl, lk, hcd⟩ := F.ex
  refine ⟨len, ?_⟩
  intro A outer s H args us vs Q E h1 room env bind vals want
  have nlim : s.heap.NoLimit := env.mod.nolimit.keeps (fun b o z => (env.bs b o z).1)
  have inn : K.In s.heap := env.mod.kin.keeps (fun b o z => (env.bs b o z).1)
  have pars : ∀ y ∈ ps.zip us, (defScope st).names.lookup y.1 = some .local ∨ ((defScope st).names.lookup y.1 = some .cell ∧ ((cellsFrom (s.heap.objs.size + 1) (defScope st).names []).lookup y.1).isSome = true) := by
    rintro ⟨n, v⟩ hy
    rcases S.par n (List.of_mem_zip hy).1 with z | z
    · exact Or.inl z
    · exact Or.inr ⟨z, PySem.W.cellsFrom_some _ _ _ (Or.inl z)⟩
  have enter : ∀ (s1 : Shared), 1 ≤ s1.toks → InCallC s s.heap.objs.size (bindL (envOfC qual (defScope st) s.heap.objs.size f cdv).kindOf (ps.zip us) fun _ => none) (cellsFrom (s.heap.objs.size + 1) (defScope st).names []) (bindC (envOfC qual (defScope st) s.heap.objs.size f cdv).kindOf (ps.zip us) fun _ => none) s1 →
      wpAny (model P w) (A.deeper (envOfC qual (defScope st) s.heap.objs.size f cdv)) (execs (defBody st) (envOfC qual (defScope st) s.heap.objs.size f cdv))
        (SP (cxOf C P w K mg base N qual (defScope st) f cdv A outer s H E) [] { nx := fun _ H' => Q .non H', rt := Q }) (cxOf C P w K mg base N qual (defScope st) f cdv A outer s H E).xe s1 := fun s1 hk x1 => by
    obtain ⟨t, walk, reads⟩ := body cdv A outer s H vs Q E (room.deeper _) want
    exact walk [] s1 (start N vs) H _ hk (inv_start S room.hd env (len _ _ _ _ want) vals x1) reads
  refine codeAny_call_function room.depth (inn _ _ lk) rfl S.co S.gen rfl (PySem.W.codeRec_of inn hcd) (bind _ _ _ _ ?_)
  refine wpAny_with_toks h1 (wpAny_newFunctionEnv_cells S.kind pars fun e2 e2is s1 x1 hk => ?_)
  subst e2is
  refine ⟨nlim.keeps x1.toInCall.keep, codeAny_func (wpAny_mono (enter s1 hk x1) ?_ fun _ _ z => z)⟩
  have out : ∀ {s2 : Shared} {σ2 : L2.St} {H2 : Hp} {v : V} {u : Value}, Inv (cxOf C P w K mg base N qual (defScope st) f cdv A outer s H E) [] σ2 H2 s2 → RelV v u → Q v H2 → CE outer P w H s Q u s2 := fun J rv qv => ⟨_, _, J.os, J.bare, J.base, J.hok, rv, qv⟩
  intro fl s2 hs
  cases fl with
  | next => obtain ⟨_, _, J, qv⟩ := hs; exact out (v := V.non) (u := Value.none) J rfl qv
  | ret u => obtain ⟨_, _, _, J, rv, qv⟩ := hs; exact out J rv qv
  | brk => exact hs.choose_spec.choose_spec.2.elim
  | cont => exact hs.choose_spec.choose_spec.2.elim
end
section
variable {X : Cx} {x : Str} {e : Expr} {es : List Expr} {p pos : Pos} {f : Addr} {fd : FuncData} {ps : List Str} {k : Nat} {sp : Sp} {C : CXT} {E : L2.St → XK} {t : TA}
theorem pet_callS (F : FnT X.prog X.w X.K X.mg X.base C k f fd ps sp) (room : Room k X.A) (hg : Gl X x) (hm : X.mg x = some (.ref f)) (kp : PySem.W.keepIn X.K (.ref f) = true) (bd : Binds X.K fd ps []) (hx : ∀ σ, PassesAt C X σ (E σ))
    (ha : PA X (e :: es) t) (hdb : (x == ("__debug__" : Str)) = false := by decide) (he : starEach (e :: es) X.env = (false, eval e X.env) :: starEach es X.env := by rfl) (hpl : (backTo pos (starEach es X.env)).any (·.1) = false := by rfl) :
    PET X (.Call (.Name x p) (e :: es) [] pos) (tCallS sp E t) := by
  intro pins s σ H Q h1 I want
  have run : ∀ {s1 : Shared} {H1 : Hp} {us : List Value} {vs : List V}, 1 ≤ s1.toks → Inv X pins σ H1 s1 → Vals vs us → sp vs H1 Q (E σ) → wpAny (model X.prog X.w) X.A (call (.ref f) us) (EP X pins σ Q) X.xe s1 := by
    intro s1 H1 us vs hk J r q
    have b := bd s1 us J.kIn (by rw [List.append_nil, ← r.length]; exact F.many _ _ _ _ q)
    rw [List.append_nil] at b
    have c := F.goes X.A X.stack s1 H1 ⟨us, []⟩ us vs Q (E σ) hk room J.env0 b r q
    refine wpAny_call (codeAny_mono c ?_)
    intro res s2 hq
    match res, hq with
    | .error u, hq => exact hx σ pins H1 s1 u s2 J hq
    | .ok (.ret u), hq => exact J.after hq
  refine wpAny_Call_Name_kw (ld_glob I hg hm ?_ hdb)
  have args := wpAny_toks_of h1 (ha.run pos pins s σ H _ I want)
  refine PySem.W.callWith_K (h₀ := X.base) I.ok.mod.kin kp (wpAny_mono args ?_ fun _ _ z => z.2) he hpl
  rintro us s1 ⟨hk, vs, H1, J, r, q⟩
  exact ⟨J.kIn, run hk J r q⟩
/-- x = e -/
theorem pst_set {i : Nat} {y : Str} {te : TE} {pos' : Pos} (hN : X.N.Nodup) (hi : X.N[i]? = some y) (hl : Loc X.env.scope y) (he : PET X e te) (hs : swapsWith e (some (.Name y pos')) pos.line X.env = pure false := by rfl)
    (hf : X.fn y = true ∨ X.env.scope.names.lookup y = some .local := by first | exact .inl rfl | exact .inr rfl | assumption) : PST X (.Assign [.Name y pos'] e pos) (tAsg te (gName i)) := by
  intro pins s σ H D h1 I want
  refine wpAny_Assign_Name (wpAny_mono (he pins s σ H _ h1 I want) ?_ fun _ _ z => z) hs
  rintro v s1 ⟨z, H1, J, r, q⟩
  exact store_ok J hN hi hl r (fun s2 J2 => ⟨_, H1, J2, q⟩) hf
/-- if not e: .. -/
theorem pst_ifnot {a b : List Stmt} {te : TE} {t u : TS} {pos' : Pos} (he : PET X e te) (ha : PSs X a t) (hb : PSs X b u)
    (ht : ∀ whole, isTrue e X.env whole = (do let v ← whole; standAt e.pos; holding [v] (truthy v)) := by intro _; rfl) : PST X (.If (.UnaryOp .Not e pos') a b pos) (tIfS (tNot (tB te)) t u) := by
  intro pins s σ H D h1 I want
  have inner : wpAny (model X.prog X.w) X.A (isTrue e X.env (eval e X.env)) (fun c s1 => ∃ H1, Inv X pins σ H1 s1 ∧ (if (!c) = true then t D σ H1 else u D σ H1)) X.xe s := by
    refine isTrue_plain (wpAny_mono (he pins s σ H _ h1 I want) ?_ fun _ _ z => z) (ht _)
    rintro v s1 ⟨y, H1, J, r, d, ey, q⟩
    subst ey
    cases r
    exact wpAny_truthy_bool ⟨H1, J, q⟩
  refine wpAny_If (wpAny_mono (isTrue_not (Q := fun c s1 => ∃ H1, Inv X pins σ H1 s1 ∧ (if c = true then t D σ H1 else u D σ H1)) inner) ?_ fun _ _ z => z)
  rintro c s1 ⟨H1, J, q⟩
  cases c with
  | true => exact ha.run pins s1 σ H1 D J q
  | false => exact hb.run pins s1 σ H1 D J q
end
/-! ### try: .. except X as n: return .. -/
section
variable {X : Cx} {x n : Str} {c : Value} {i : Nat} {body suite : List Stmt} {b1 : Stmt} {np pos pos' : Pos} {tb : WX → TS} {ts : Addr → Value → Option Addr → TS}
/-- what an exception of the body must be, and what the suite then does -/
def wCatch (K : PySem.W.Frag) (c : Value) (i : Nat) (ts : Addr → Value → Option Addr → TS) (D : L2.Ends) : WX := fun cls d σ H => PySem.W.exmOne K cls c = some true ∧
  ∀ a, H a = none → ts a cls d { nx := fun σ' H' => D.nx (σ'.set i none) H', rt := D.rt, bk := fun σ' H' => D.bk (σ'.set i none) H', ct := fun σ' H' => D.ct (σ'.set i none) H' } (σ.set i (some (.ref a))) H
abbrev clause (x : Str) (np : Pos) (n : Str) (b1 : Stmt) (suite : List Stmt) (pos' : Pos) : List ExceptHandler := [.ExceptHandler (some (.Name x np)) (some n) (b1 :: suite) pos']
/-- from the exception on -/
theorem caught (hst : X.stack = X.env :: X.outer) (hfr : X.env.frame = some X.env.locals) (hN : X.N.Nodup) (hi : X.N[i]? = some n) (hloc : X.env.kindOf n = some .local) (hc : Names X x c)
    (hsu : ∀ (a : Addr) (oe : Obj) (cls : Value) (d : Option Addr) (pn : List (Addr × Obj)), Zc cls d oe → (∃ vs, oe.data = .fields vs) → PSs (X.suite a ((a, oe) :: pn)) (b1 :: suite) (ts a cls d))
    {pins : List (Addr × Obj)} {D : L2.Ends} {xe : Value → Shared → Prop} (ok : X.Ok) {u : Value} {s : Shared} (air : XE (X.tr (X.pn ++ pins) xe) (wCatch X.K c i ts D) u s) :
    wpAny (model X.prog X.w) X.A (noteFrame u X.env) (fun _ s2 => wpAny (model X.prog X.w) X.A (setFlight u none) (fun _ s3 => wpAny (model X.prog X.w) X.A (handleBy u X.env (clause x np n b1 suite pos')) (SP X pins D) X.xe s3) X.xe s2) X.xe s := by
  obtain ⟨a, G, sI, pins2, σ, H, cls, d, eu, J0, grd, slots, fly, new, sos, sbare, known, suits⟩ := air
  subst eu
  have frames : X.A.frames = some (X.env :: X.outer) := ok.frames.trans (congrArg some hst)
  have J : Inv X pins σ H sI := J0.ofTry ok
  have fly : Sky G (X.env :: X.outer) a (Zc cls d) X.env.locals s.heap := by
    have e : (X.tr (X.pn ++ pins) xe).stack = X.env :: X.outer := hst
    rw [← e]
    exact fly
  refine Sky.land Zc.steady frames hfr fly (fun h2 down slots2 => ?_)
  obtain ⟨o2, fs2, at2, z2, dat2⟩ := down.there
  have J2 : Inv X pins σ H { s with heap := h2 } := J.landed grd down.1 (slots.trans slots2) sos sbare
  have apart : a ∉ frs (X.env :: X.outer) := by
    intro hm
    obtain ⟨_, o', e', isf⟩ := down.2.2.1.mem hm
    rw [at2] at e'
    cases e'
    exact isf _ dat2
  have aL : a ≠ X.env.locals := by
    intro z
    refine apart (List.mem_filterMap.mpr ⟨X.env, List.mem_cons_self, ?_⟩)
    rw [hfr, z]
  have aF : a ∉ X.fs := by
    intro hm
    obtain ⟨en, hen, q⟩ := List.mem_filterMap.mp hm
    exact apart (List.mem_filterMap.mpr ⟨en, List.mem_cons_of_mem _ hen, q⟩)
  have clsIs : PySem.W.Looks (model X.prog X.w) h2 (typeOf (.ref a)) cls := fun _ _ _ _ kp q => wpAny_typeOf_ref (kp _ _ at2) (by rw [z2.1]; exact q)
  have hit := PySem.W.exm_one (M := model X.prog X.w) J2.kIn clsIs known
  have S2 := J2.suite at2 dat2 new aL aF
  have named : ∀ {Q : Value → Shared → Prop} {E : Value → Shared → Prop}, Q c { s with heap := h2 } → wpAny (model X.prog X.w) (X.A.mark (some (.ref a))) (eval (.Name x np) X.env) Q E { s with heap := h2 } := by
    intro Q E q
    rcases hc with ⟨g, dbg, m | ⟨m, v, nn⟩⟩
    · exact ld_glob (X := X.suite a ((a, o2) :: (X.pn ++ pins))) S2 g m q dbg
    · exact ld_blt (X := X.suite a ((a, o2) :: (X.pn ++ pins))) S2 g m v q nn dbg
  refine wpAny_handleBy_cons (codeAny_handlers_test (named (hit.here ?_))) (by intro q; cases q)
  show codeAny _ _ _ _ _
  refine codeAny_handlers_suite_as (HandSPX.lands_againZ down fun h3 down3 slots3 => ?_)
  obtain ⟨o3, fs3, at3, z3, dat3⟩ := down3.there
  have J3 : Inv X pins σ H { s with heap := h3 } := J.landed grd down3.1 ((slots.trans slots2).trans slots3) sos sbare
  have S3 := J3.suite at3 dat3 new aL aF
  refine store_ok (X := X.suite a ((a, o3) :: (X.pn ++ pins))) (v := .ref a) S3 hN hi (.inl hloc) rfl (fun s4 S4 => ?_) (.inr hloc)
  have walk := (hsu a o3 cls d (X.pn ++ pins) z3 ⟨_, dat3⟩).run [] s4 _ H _ S4 (suits a new)
  refine wpAny_mono walk (fun f s5 out => ?_) (fun _ _ z => z.elim)
  have leave : ∀ {σ5 : L2.St} {H5 : Hp} {Q : Shared → Prop}, Inv (X.suite a ((a, o3) :: (X.pn ++ pins))) [] σ5 H5 s5 → (∀ s6, Inv X pins (σ5.set i none) H5 s6 → Q s6) →
      wpAny (model X.prog X.w) X.A (do bindName X.env n .none; unbindBehindTheSuite X.env n pos') (fun _ s6 => Q s6) X.xe s5 := fun S5 hq => gone_ok (S5.unsuite ok) hN hi hloc hq
  match f, out with
  | .next, ⟨_, _, S5, q⟩ => exact leave S5 fun s6 J6 => ⟨_, _, J6, q⟩
  | .brk, ⟨_, _, S5, q⟩ => exact leave S5 fun s6 J6 => ⟨_, _, J6, q⟩
  | .cont, ⟨_, _, S5, q⟩ => exact leave S5 fun s6 J6 => ⟨_, _, J6, q⟩
  | .ret v, ⟨_, _, _, S5, r, q⟩ => exact leave S5 fun s6 J6 => ⟨_, _, _, J6, r, q⟩
theorem pst_try (hst : X.stack = X.env :: X.outer) (hfr : X.env.frame = some X.env.locals) (hN : X.N.Nodup) (hi : X.N[i]? = some n) (hloc : X.env.kindOf n = some .local) (hc : Names X x c)
    (hb : ∀ (W : WX) (pn : List (Addr × Obj)) (xe : Value → Shared → Prop), Takes (X.tr pn xe) W → PSsT (X.tr pn xe) body (tb W))
    (hsu : ∀ (a : Addr) (oe : Obj) (cls : Value) (d : Option Addr) (pn : List (Addr × Obj)), Zc cls d oe → (∃ vs, oe.data = .fields vs) → PSs (X.suite a ((a, oe) :: pn)) (b1 :: suite) (ts a cls d)) :
    PST X (.Try body (clause x np n b1 suite pos') [] [] pos) (fun D σ H => tb (wCatch X.K c i ts D) D σ H) := by
  intro pins s σ H D h1 I want
  have walk := hb (wCatch X.K c i ts D) (X.pn ++ pins) (fun u s1 => wpAny (model X.prog X.w) X.A (noteFrame u X.env) (fun _ s2 => wpAny (model X.prog X.w) X.A (setFlight u none) (fun _ s3 =>
    wpAny (model X.prog X.w) X.A (handleBy u X.env (clause x np n b1 suite pos')) (SP X pins D) X.xe s3) X.xe s2) X.xe s1) (fun u s1 air => caught hst hfr hN hi hloc hc hsu I.ok air) [] s σ H D h1 (I.toTry _) want
  refine wpAny_Try_except (wpAny_mono walk (fun f s1 out => ?_) fun _ _ z => z)
  match f, out with
  | .next, ⟨_, _, J, q⟩ => exact wpAny_execs_nil ⟨_, _, J.ofTry I.ok, q⟩
  | .brk, ⟨_, _, J, q⟩ => exact ⟨_, _, J.ofTry I.ok, q⟩
  | .cont, ⟨_, _, J, q⟩ => exact ⟨_, _, J.ofTry I.ok, q⟩
  | .ret v, ⟨_, _, _, J, r, q⟩ => exact ⟨_, _, _, J.ofTry I.ok, r, q⟩
end
/-! ### behind a written number a token is out -/
section
variable {X : Cx}
def PAK (X : Cx) (es : List Expr) (t : TA) : Prop := ∀ (pos : Pos) (pins : List (Addr × Obj)) (s : Shared) (σ : L2.St) (H : Hp) (Q : List V → Hp → Prop), Inv X pins σ H s → t σ H Q →
  wpAny (model X.prog X.w) X.A (spliced (backTo pos (starEach es X.env))) (fun us s1 => 1 ≤ s1.toks ∧ AP X pins σ Q us s1) X.xe s
theorem pak_int {m : Int} {j : Nat} {p : Pos} (hs : starEach [.Constant (.int m) j p] X.env = (false, eval (.Constant (.int m) j p) X.env) :: starEach [] X.env := by rfl) : PAK X [.Constant (.int m) j p] (tCons (tC (.int m)) tNil) := by
  intro pos pins s σ H Q I want
  rw [hs]
  refine Calls.spliced_cons (wpAny_Constant_int (k := j) (pos := p) ?_)
  refine Calls.spliced_nil ⟨Nat.succ_le_succ (Nat.zero_le _), [.int m], H, I.tok _, ?_, want⟩
  exact Paired.cons (a := V.int m) (b := Value.int m s.toks) ⟨_, rfl⟩ .nil
theorem pak_cons {e : Expr} {es : List Expr} {te : TE} {ta : TA} (he : PE X e te) (hr : PAK X es ta) (hs : starEach (e :: es) X.env = (false, eval e X.env) :: starEach es X.env := by rfl) : PAK X (e :: es) (tCons te ta) := by
  intro pos pins s σ H Q I want
  rw [hs]
  have first : wpAny (model X.prog X.w) X.A (eval e X.env) (fun v s1 => ∃ y H1, Inv X pins σ H1 s1 ∧ RelV y v ∧ ta σ H1 fun xs H2 => Q (y :: xs) H2) X.xe s := wpAny_mono (he.run pins s σ H _ I want) (fun v s1 ⟨y, H1, J, r, q⟩ => ⟨y, H1, J, r, q⟩) fun _ _ z => z
  refine Calls.spliced_cons (wpAny_mono first ?_ fun _ _ z => z)
  rintro v s1 ⟨y, H1, J, r, q⟩
  refine wpAny_mono (hr pos pins s1 σ H1 _ J q) ?_ fun _ _ z => z
  rintro us s2 ⟨hk, xs, H2, J2, r2, q2⟩
  exact ⟨hk, _, H2, J2, .cons r r2, q2⟩
/-- a call with a written number among its arguments, stored -/
theorem psk_call {x : Str} {e : Expr} {es : List Expr} {p pos pos2 : Pos} {f : Addr} {fd : FuncData} {ps : List Str} {k : Nat} {sp : Sp} {t : TA} {tg : Expr} {g : TG} {rest : List Stmt} {u : TS}
    (F : FnOk X.prog X.w X.K X.mg X.base C8.CX0 k f fd ps sp) (room : Room k X.A) (hg : Gl X x) (hm : X.mg x = some (.ref f)) (kp : PySem.W.keepIn X.K (.ref f) = true) (bd : Binds X.K fd ps []) (ha : PAK X (e :: es) t) (ht : PG X tg g) (hr : PSsT X rest u)
    (hdb : (x == ("__debug__" : Str)) = false := by decide) (he : starEach (e :: es) X.env = (false, eval e X.env) :: starEach es X.env := by rfl) (hpl : (backTo pos (starEach es X.env)).any (·.1) = false := by rfl)
    (hs : swapsWithSole [tg] (.Call (.Name x p) (e :: es) [] pos) pos2.line X.env = pure false := by rfl) (hw : swappedStores [tg] (.Call (.Name x p) (e :: es) [] pos) X.env = pure none := by rfl)
    (h1 : (assignEach [tg] X.env).map (·.2) = [assign tg X.env] := by rfl) :
    PSs X (.Assign [tg] (.Call (.Name x p) (e :: es) [] pos) pos2 :: rest) (tSeq (tAsg (tCall sp [] C8.E0 t) g) u) := by
  refine ⟨?_⟩
  intro pins s σ H D I want
  have value : wpAny (model X.prog X.w) X.A (eval (.Call (.Name x p) (e :: es) [] pos) X.env) (fun v s1 => 1 ≤ s1.toks ∧ EP X pins σ (fun y H1 => g y σ H1 (fun σ' H' => u D σ' H')) v s1) X.xe s := by
    refine wpAny_Call_Name_kw (ld_glob I hg hm ?_ hdb)
    refine PySem.W.callWith_K (h₀ := X.base) I.ok.mod.kin kp (wpAny_mono (ha pos pins s σ H _ I want) ?_ fun _ _ z => z) he hpl
    rintro us s1 ⟨hk, vs, H1, J, r, q⟩
    exact ⟨J.kIn, wpAny_toks_of hk (run_fn F room bd .nil C8.pass0 J r q) |> fun w => wpAny_mono w (fun _ _ z => z) fun _ _ z => z.2⟩
  refine wpAny_execs_cons (wpAny_Assign_stores (wpAny_mono value ?_ fun _ _ z => z) hs hw)
  rintro v s1 ⟨hk, y, H1, J, r, q⟩
  rw [h1]
  refine wpAny_mono (wpAny_toks_of hk (ht.run pins s1 σ H1 y v _ J r q)) ?_ fun _ _ z => z.2
  rintro _ s2 ⟨hk2, σ2, H2, J2, q2⟩
  exact hr pins s2 σ2 H2 D hk2 J2 q2
end
/-! ### for, a token out all the while -/
section
variable {X : Cx}
theorem pst_for {tg iter : Expr} {body : List Stmt} {wi : TI} {g : TG} {tb : TS} {pos : Pos} (own : PassesOwn (model X.prog X.w) X.A X.env X.xe) (calm : X.calm = true) (hi : PI X tg iter wi) (hg : PG X tg g) (hb : PSsT X body tb)
    (hs : ∀ x, foldedSetIterable iter X.env x = pure x := by intro _; rfl) : PST X (.For tg iter body [] pos) (tFor wi g tb) := by
  intro pins s σ H D h1 I want
  have up : ∀ {α : Type} {T : Sem α} {Q : α → Shared → Prop} {s1 : Shared}, 1 ≤ s1.toks → wpAny (model X.prog X.w) X.A T Q X.xe s1 → wpAny (model X.prog X.w) X.A T (fun v s2 => 1 ≤ s2.toks ∧ Q v s2) X.xe s1 :=
    fun h w => wpAny_mono (wpAny_toks_of h w) (fun _ _ z => z) fun _ _ z => z.2
  refine wpAny_For (wpAny_mono (up h1 (hi.run pins s σ H _ I want)) ?_ fun _ _ z => z) hs
  rintro v s1 ⟨h2, w1⟩
  refine wpAny_mono (up h2 w1) ?_ fun _ _ z => z
  rintro itv s2 ⟨h3, it, fp, tn, J, H2, eit, I2, T, tn0, young, W, ⟨m0, w0⟩, turn⟩
  subst eit
  have fps : ∀ {H' : Hp}, (∀ b ∈ fp, H' b = none) → ∀ b ∈ fp, FpOk X pins H' b := fun z b hb => ⟨z b hb, (young b hb).2⟩
  refine codeAny_forLoop_any (fun n s' => 1 ≤ s'.toks ∧ ∃ i σ' H', Inv X pins σ' H' s' ∧ tn i s'.heap ∧ (∀ b ∈ fp, H' b = none) ∧ W i n σ' H') ?_ m0 ⟨h3, 0, σ, H2, I2, tn0, fun b hb => (young b hb).1, w0⟩
  rintro n s3 ⟨k3, i, σ3, H3, I3, tn3, free3, w3⟩
  rcases turn i n σ3 H3 w3 with ⟨ends, last⟩ | ⟨goes, N, less, step⟩
  · refine wpAny_passesOwn own (wpAny_mono (T.done X rfl rfl rfl calm i pins s3 σ3 H3 X.xe I3 (fps free3) tn3 ends) ?_ fun _ _ z => z)
    rintro r s4 ⟨rfl, I4⟩
    exact wpAny_execs_nil ⟨σ3, H3, I4, last⟩
  · refine wpAny_passesOwn own (wpAny_mono (up k3 (T.item X rfl rfl rfl calm i pins s3 σ3 H3 X.xe I3 (fps free3) tn3 goes)) ?_ fun _ _ z => z)
    rintro r s4 ⟨k4, y, rfl, w4⟩
    refine wpAny_passesOwn own (wpAny_mono (up k4 w4) ?_ fun _ _ z => z)
    rintro _ s5 ⟨k5, x, H5, I5, r5, y5, tn5, free5⟩
    have P5 := I5.pinned (fps free5) (T.obj _ _ tn5)
    refine wpAny_passesOwn own (wpAny_mono (up k5 (hg.run _ s5 σ3 H5 x y _ P5 r5 (step x H5 y5))) ?_ fun _ _ z => z)
    rintro _ s6 ⟨k6, σ6, H6, I6, q6⟩
    refine wpAny_passesOwn own (wpAny_mono (up k6 (hb _ s6 σ6 H6 _ k6 I6 q6)) ?_ fun _ _ z => z)
    rintro f s7 ⟨k7, out⟩
    have stands : ∀ {σ7 : L2.St} {H7 : Hp}, Inv X (pins ++ pinsAt fp s5.heap) σ7 H7 s7 → ∀ b ∈ fp, ∀ o, s5.heap.get? b = some o → s7.heap.get? b = some o ∧ H7 b = none := fun I7 b hb o e =>
      let z := I7.pin (b, o) (List.mem_append_right _ (List.mem_append_right _ (mem_pinsAt hb e)))
      ⟨z.1, z.2.1⟩
    have next : ∀ {σ7 : L2.St} {H7 : Hp}, Inv X (pins ++ pinsAt fp s5.heap) σ7 H7 s7 → N σ7 H7 → ∃ m, m < n ∧ 1 ≤ s7.toks ∧ ∃ i σ' H', Inv X pins σ' H' s7 ∧ tn i s7.heap ∧ (∀ b ∈ fp, H' b = none) ∧ W i m σ' H' := by
      intro σ7 H7 I7 n7
      obtain ⟨m, lt, w7⟩ := less σ7 H7 n7
      refine ⟨m, lt, k7, i + 1, σ7, H7, I7.unpinned, T.keep _ _ _ tn5 (fun b hb o e => (stands I7 b hb o e).1), ?_, w7⟩
      intro b hb
      obtain ⟨o, e, _⟩ := T.obj _ _ tn5 b hb
      exact (stands I7 b hb o e).2
    match f, out with
    | .next, ⟨_, _, I7, q⟩ => exact next I7 q
    | .cont, ⟨_, _, I7, q⟩ => exact next I7 q
    | .brk, ⟨_, _, I7, q⟩ => exact ⟨_, _, I7.unpinned, q⟩
    | .ret v, ⟨_, _, _, I7, r, q⟩ => exact ⟨_, _, _, I7.unpinned, r, q⟩
end
end KT

namespace KT
open PySem PySem.Spec PyProof.Rows L2
/-! ### how the program cuts a text into pieces -/
def par (c : Nat) : Bool := c == 40 || c == 41
def flush (st : List (List Nat) × List Nat) : List (List Nat) := if st.2 = [] then st.1 else st.1 ++ [st.2]
def pstep (st : List (List Nat) × List Nat) (c : Nat) : List (List Nat) × List Nat :=
  if par c then (flush st ++ [[c]], []) else if Unicode.isSpace c then (flush st, []) else (st.1, st.2 ++ [c])
def pieces (T : List Nat) : List (List Nat) := flush (T.foldl pstep ([], []))
/-- with blanks around the parentheses -/
def wide (T : List Nat) : List Nat := T.flatMap fun c => if par c then [32, c, 32] else [c]
def wide1 (k : Nat) (T : List Nat) : List Nat := T.flatMap fun c => if c = k then [32, k, 32] else [c]
theorem repl_wide (k : Nat) : ∀ T : List Nat, StrLaws.replL [k] [32, k, 32] T = wide1 k T
  | [] => StrLaws.replL_nil
  | c :: r => by
    have ih := repl_wide k r
    by_cases h : c = k
    · subst h
      rw [StrLaws.replL_hit (by simp) (by simp)]
      show [32, c, 32] ++ StrLaws.replL [c] [32, c, 32] r = _
      rw [ih]
      simp [wide1]
    · rw [StrLaws.replL_miss (by simpa using h), ih]
      simp [wide1, h]
theorem replace_S (k : Nat) (T : List Nat) : Txt.replace (SX.S T) (SX.S [k]) (SX.S [32, k, 32]) = SX.S (wide1 k T) := by
  refine TL.ext_tl ?_
  show (Txt.replace (SX.S T) (SX.S [k]) (SX.S [32, k, 32])).cps.toList = wide1 k T
  rw [StrLaws.replace_list (by rw [SX.S_len]; show 1 ≤ 1; decide)]
  exact repl_wide k T
theorem wide_two : ∀ T : List Nat, wide1 41 (wide1 40 T) = wide T
  | [] => rfl
  | c :: r => by
    have ih := wide_two r
    have e1 : wide1 40 (c :: r) = (if c = 40 then [32, 40, 32] else [c]) ++ wide1 40 r := rfl
    have e2 : ∀ a b, wide1 41 (a ++ b) = wide1 41 a ++ wide1 41 b := fun a b => by simp [wide1]
    have e3 : wide (c :: r) = (if par c then [32, c, 32] else [c]) ++ wide r := rfl
    rw [e1, e2, ih, e3]
    by_cases h : c = 40
    · subst h
      rfl
    · rw [if_neg h]
      by_cases h2 : c = 41
      · subst h2
        rfl
      · simp [wide1, par, h, h2]
theorem space32 : Unicode.isSpace 32 = true := by decide +kernel
theorem wstep_space {st : List (List Nat) × List Nat} {c : Nat} (h : Unicode.isSpace c = true) : TL.wstep st c = (flush st, []) := by
  unfold TL.wstep flush
  rw [if_pos h]
  obtain ⟨a, b⟩ := st
  by_cases e : b = []
  · subst e
    rfl
  · rw [if_neg e, if_neg e]
theorem par_space {c : Nat} (h : par c = true) : Unicode.isSpace c = false := by
  have : c = 40 ∨ c = 41 := by simpa [par] using h
  rcases this with rfl | rfl <;> decide +kernel
theorem wstep_wide (st : List (List Nat) × List Nat) (c : Nat) : (if par c then [32, c, 32] else [c]).foldl TL.wstep st = pstep st c := by
  unfold pstep
  by_cases h : par c = true
  · rw [if_pos h, if_pos h]
    show TL.wstep (TL.wstep (TL.wstep st 32) c) 32 = _
    rw [wstep_space space32, wstep_space space32]
    have e : TL.wstep (flush st, []) c = (flush st, [c]) := by
      unfold TL.wstep
      rw [if_neg (by rw [par_space h]; exact Bool.false_ne_true)]
      rfl
    rw [e]
    rfl
  · rw [if_neg h, if_neg h]
    show TL.wstep st c = _
    by_cases hs : Unicode.isSpace c = true
    · rw [if_pos hs, wstep_space hs]
    · rw [if_neg hs]
      unfold TL.wstep
      rw [if_neg hs]
theorem fold_wide : ∀ (T : List Nat) (st : List (List Nat) × List Nat), (wide T).foldl TL.wstep st = T.foldl pstep st
  | [], _ => rfl
  | c :: r, st => by
    have e3 : wide (c :: r) = (if par c then [32, c, 32] else [c]) ++ wide r := rfl
    rw [e3, List.foldl_append, wstep_wide, fold_wide r]
    rfl
theorem words_wide (T : List Nat) : Txt.words (SX.S (wide T)) = (pieces T).map SX.S := by
  refine TL.map_tl_inj ?_
  rw [TL.words_tl]
  have e : TL.tl (SX.S (wide T)) = wide T := by simp [TL.tl, SX.S]
  rw [e, fold_wide, List.map_map]
  have e2 : ((pieces T).map (TL.tl ∘ SX.S)) = pieces T := by
    have : ∀ l : List (List Nat), l.map (TL.tl ∘ SX.S) = l := fun l => by
      induction l with
      | nil => rfl
      | cons x r ih => rw [List.map_cons, ih]; simp [TL.tl, SX.S]
    exact this _
  rw [e2]
  rfl
/-! ### the pieces of a value's text -/
mutual
def Good : Dat → Prop
  | .str l => l ≠ [] ∧ ∀ c ∈ l, letter c
  | .int _ => True
  | .tup ds => Goods ds
def Goods : List Dat → Prop
  | [] => True
  | d :: r => Good d ∧ Goods r
end
theorem good_str {l : List Nat} : Good (.str l) ↔ l ≠ [] ∧ ∀ c ∈ l, letter c := by rw [Good]
theorem goods_all : ∀ {ds : List Dat}, Goods ds ↔ ∀ d ∈ ds, Good d
  | [] => ⟨fun _ d h => (by cases h), fun _ => (by rw [Goods]; trivial)⟩
  | x :: r => by
    have ih := goods_all (ds := r)
    rw [Goods]
    constructor
    · rintro ⟨h1, h2⟩ d hd
      rcases List.mem_cons.mp hd with e | hd
      · rw [e]; exact h1
      · exact ih.mp h2 d hd
    · intro h
      exact ⟨h x (List.mem_cons_self ..), ih.mpr fun d hd => h d (List.mem_cons_of_mem _ hd)⟩
theorem good_tup {ds : List Dat} : Good (.tup ds) ↔ ∀ d ∈ ds, Good d := by
  rw [Good]
  exact goods_all
mutual
def toks : Dat → List (List Nat)
  | .str l => [l]
  | .int n => [intL n]
  | .tup ds => [40] :: (tokss ds ++ [[41]])
def tokss : List Dat → List (List Nat)
  | [] => []
  | d :: r => toks d ++ tokss r
end
theorem pfold_word : ∀ (l : List Nat) (ws : List (List Nat)) (u : List Nat), (∀ c ∈ l, par c = false ∧ Unicode.isSpace c = false) → l.foldl pstep (ws, u) = (ws, u ++ l)
  | [], ws, u, _ => by simp
  | c :: r, ws, u, h => by
    have hc := h c (List.mem_cons_self ..)
    rw [List.foldl_cons]
    have e : pstep (ws, u) c = (ws, u ++ [c]) := by
      unfold pstep
      rw [hc.1, hc.2]
      rfl
    rw [e, pfold_word r ws _ fun d hd => h d (List.mem_cons_of_mem _ hd), List.append_assoc]
    rfl
theorem plain_of {c : Nat} (h : 42 ≤ c ∧ c ≤ 126) : par c = false ∧ Unicode.isSpace c = false := by
  refine ⟨?_, PySem.W.KWk.nosp (by omega) h.2⟩
  simp [par]
  omega
theorem letter_plain {c : Nat} (h : letter c) : par c = false ∧ Unicode.isSpace c = false := plain_of ⟨by have := h.1; omega, by have := h.2; omega⟩
theorem intL_plain (n : Int) : ∀ c ∈ intL n, par c = false ∧ Unicode.isSpace c = false := by
  have hd : ∀ c ∈ TL.numL n.natAbs, par c = false ∧ Unicode.isSpace c = false := fun c hc => by
    have := TL.numL_digits _ c hc
    exact plain_of (by omega)
  unfold intL
  split
  · intro c hc
    rcases List.mem_cons.mp hc with rfl | hc
    · exact plain_of (by decide)
    · exact hd c hc
  · exact hd
theorem intL_ne (n : Int) : intL n ≠ [] := by
  unfold intL
  split
  · simp
  · exact TL.numL_ne _
theorem pstep_flush (st : List (List Nat) × List Nat) {c : Nat} (h : c = 32 ∨ par c = true) : pstep st c = pstep (flush st, []) c := by
  unfold pstep
  have e : flush (flush st, []) = flush st := by
    show (if ([] : List Nat) = [] then flush st else _) = _
    rw [if_pos rfl]
  rw [e]
  rcases h with rfl | h
  · rw [if_neg (show ¬ par 32 = true by decide), if_neg (show ¬ par 32 = true by decide), if_pos space32, if_pos space32]
  · rw [if_pos h, if_pos h]
mutual
theorem ptoks : ∀ (d : Dat), Good d → ∀ ws, flush (d.txt.foldl pstep (ws, [])) = ws ++ toks d
  | .str l, h, ws => by
    obtain ⟨h0, hl⟩ := good_str.mp h
    show flush (l.foldl pstep (ws, [])) = _
    rw [pfold_word l ws [] fun c hc => letter_plain (hl c hc), List.nil_append]
    show (if l = [] then ws else ws ++ [l]) = _
    rw [if_neg h0, toks]
  | .int n, h, ws => by
    show flush ((intL n).foldl pstep (ws, [])) = _
    rw [pfold_word (intL n) ws [] (intL_plain n), List.nil_append]
    show (if intL n = [] then ws else ws ++ [intL n]) = _
    rw [if_neg (intL_ne n), toks]
  | .tup ds, h, ws => by
    have hg := good_tup.mp h
    rw [txt_tup, List.foldl_cons, List.foldl_append]
    have e : pstep (ws, []) 40 = (ws ++ [[40]], []) := rfl
    rw [e]
    have ih := ptokss ds hg (ws ++ [[40]])
    show flush (pstep ((TL.joinL [32] (ds.map Dat.txt)).foldl pstep (ws ++ [[40]], [])) 41) = _
    rw [pstep_flush _ (.inr rfl), ih]
    show flush (flush (ws ++ [[40]] ++ tokss ds, []) ++ [[41]], []) = _
    show (if ([] : List Nat) = [] then _ else _) = _
    rw [if_pos rfl]
    show (if ([] : List Nat) = [] then _ else _) ++ [[41]] = _
    rw [if_pos rfl, toks]
    simp
theorem ptokss : ∀ (ds : List Dat), (∀ d ∈ ds, Good d) → ∀ ws, flush ((TL.joinL [32] (ds.map Dat.txt)).foldl pstep (ws, [])) = ws ++ tokss ds
  | [], _, ws => by
    show (if ([] : List Nat) = [] then ws else _) = _
    rw [if_pos rfl, tokss, List.append_nil]
  | [d], h, ws => by
    have := ptoks d (h d (List.mem_cons_self ..)) ws
    show flush (d.txt.foldl pstep (ws, [])) = _
    rw [this, tokss, tokss, List.append_nil]
  | d :: e :: r, h, ws => by
    have h1 := ptoks d (h d (List.mem_cons_self ..)) ws
    have h2 := ptokss (e :: r) (fun x hx => h x (List.mem_cons_of_mem _ hx)) (ws ++ toks d)
    show flush ((d.txt ++ ([32] ++ TL.joinL [32] ((e :: r).map Dat.txt))).foldl pstep (ws, [])) = _
    rw [List.foldl_append, List.foldl_append]
    show flush ((TL.joinL [32] ((e :: r).map Dat.txt)).foldl pstep (pstep (d.txt.foldl pstep (ws, [])) 32)) = _
    rw [pstep_flush _ (.inl rfl), h1]
    have e32 : pstep (ws ++ toks d, []) 32 = (ws ++ toks d, []) := by
      unfold pstep
      rw [if_neg (show ¬ par 32 = true by decide), if_pos space32]
      rfl
    rw [e32, h2]
    simp [tokss]
end
theorem pieces_txt {d : Dat} (h : Good d) : pieces d.txt = toks d := ptoks d h []
end KT

namespace KT
open PySem PySem.Spec PyProof.Rows L2
/-! ### what the program makes of the pieces -/
def negP (p : List Nat) : Bool := p.head? == some 45
def figP (p : List Nat) : List Nat := if negP p then p.drop 1 else p
def tokD (p : List Nat) : Option Dat :=
  if p.all isL then some (.str p)
  else if figP p == [] || !(figP p).all isD then none
  else some (.int (if negP p then -((NumText.digitsVal (figP p) : Nat) : Int) else ((NumText.digitsVal (figP p) : Nat) : Int)))
/-- one piece; the last begun tuple stands first -/
def lstep (p : List Nat) (st : List (List Dat)) : Option (List (List Dat)) :=
  if p = [40] then some ([] :: st)
  else if p = [41] then (match st with | t :: b :: r => some ((b ++ [.tup t]) :: r) | _ => none)
  else match tokD p, st with | some d, t :: r => some ((t ++ [d]) :: r) | _, _ => none
def lrun : List (List Nat) → List (List Dat) → Option (List (List Dat))
  | [], st => some st
  | p :: ps, st => match lstep p st with | none => none | some st' => lrun ps st'
def lfin : List (List Dat) → Option Dat
  | [[d]] => some d
  | _ => none
def loose (ps : List (List Nat)) : Option Dat := match lrun ps [[]] with | none => none | some st => lfin st
theorem lrun_app : ∀ (ps qs : List (List Nat)) (st : List (List Dat)), lrun (ps ++ qs) st = (match lrun ps st with | none => none | some st' => lrun qs st')
  | [], qs, st => rfl
  | p :: ps, qs, st => by
    show (match lstep p st with | none => none | some st' => lrun (ps ++ qs) st') = _
    cases e : lstep p st with
    | none => simp [lrun, e]
    | some st' => simp [lrun, e, lrun_app ps qs st']
/-! pieces of values -/
theorem isL_of {c : Nat} (h : letter c) : isL c = true := letter_isL h
theorem letters_all {l : List Nat} (h : ∀ c ∈ l, letter c) : l.all isL = true := List.all_eq_true.mpr fun c hc => isL_of (h c hc)
theorem tok_str {l : List Nat} (h : ∀ c ∈ l, letter c) : tokD l = some (.str l) := by
  unfold tokD
  rw [if_pos (letters_all h)]
theorem isL_letter {c : Nat} (h : isL c = true) : letter c := by
  have : 97 ≤ c ∧ c ≤ 122 := by simpa [isL] using h
  exact this
theorem numL_cons (n : Nat) : ∃ c r, TL.numL n = c :: r ∧ 48 ≤ c ∧ c ≤ 57 := by
  obtain ⟨c, r, e, _, h1, h2⟩ := numL_head n
  exact ⟨c, r, e, h1, h2⟩
theorem digits_all {l : List Nat} (h : NumText.AllDigits l) : l.all isD = true := List.all_eq_true.mpr fun c hc => by
  have := h c hc
  simp [isD, this]
theorem all_digits {l : List Nat} (h : l.all isD = true) : NumText.AllDigits l := fun c hc => by
  have := List.all_eq_true.mp h c hc
  simpa [isD] using this
theorem not_isL {c : Nat} (h : c ≤ 57) : isL c = false := by
  simp [isL]
  omega
theorem tok_int (n : Int) : tokD (intL n) = some (.int n) := by
  obtain ⟨c, r, e, h1, h2⟩ := numL_cons n.natAbs
  have hall := digits_all (TL.numL_digits n.natAbs)
  have hne := TL.numL_ne n.natAbs
  unfold tokD
  by_cases h : n < 0
  · have ei : intL n = 45 :: TL.numL n.natAbs := by unfold intL; rw [if_pos h]
    have hneg : negP (intL n) = true := by rw [ei]; rfl
    have hf : figP (intL n) = TL.numL n.natAbs := by unfold figP; rw [hneg, if_pos rfl, ei]; rfl
    rw [if_neg (by rw [ei]; simp [not_isL]), hf, hneg, hall]
    have : (TL.numL n.natAbs == [] || !true) = false := by simp [hne]
    rw [this, if_neg Bool.false_ne_true, if_pos rfl, TL.numL_val]
    congr 2
    omega
  · have ei : intL n = TL.numL n.natAbs := by unfold intL; rw [if_neg h]
    have hneg : negP (intL n) = false := by
      rw [ei, e]
      unfold negP
      simp
      omega
    have hf : figP (intL n) = TL.numL n.natAbs := by unfold figP; rw [hneg, if_neg Bool.false_ne_true, ei]
    rw [if_neg (by rw [ei, e]; simp [not_isL h2]), hf, hneg, hall]
    have : (TL.numL n.natAbs == [] || !true) = false := by simp [hne]
    rw [this, if_neg Bool.false_ne_true, if_neg Bool.false_ne_true, TL.numL_val]
    congr 2
    omega
theorem not_par {p : List Nat} (h : ∀ c ∈ p, par c = false) : p ≠ [40] ∧ p ≠ [41] := by
  constructor
  · rintro rfl
    have := h 40 (List.mem_singleton.mpr rfl)
    cases this
  · rintro rfl
    have := h 41 (List.mem_singleton.mpr rfl)
    cases this
theorem lstep_tok {p : List Nat} {d : Dat} {t : List Dat} {r : List (List Dat)} (h : ∀ c ∈ p, par c = false) (e : tokD p = some d) : lstep p (t :: r) = some ((t ++ [d]) :: r) := by
  obtain ⟨h1, h2⟩ := not_par h
  unfold lstep
  rw [if_neg h1, if_neg h2, e]
mutual
theorem lrun_toks : ∀ (d : Dat), Good d → ∀ (qs : List (List Nat)) (t : List Dat) (r : List (List Dat)), lrun (toks d ++ qs) (t :: r) = lrun qs ((t ++ [d]) :: r)
  | .str l, h, qs, t, r => by
    obtain ⟨h0, hl⟩ := good_str.mp h
    rw [toks]
    show (match lstep l (t :: r) with | none => none | some st' => lrun qs st') = _
    rw [lstep_tok (fun c hc => (letter_plain (hl c hc)).1) (tok_str hl)]
  | .int n, h, qs, t, r => by
    rw [toks]
    show (match lstep (intL n) (t :: r) with | none => none | some st' => lrun qs st') = _
    rw [lstep_tok (fun c hc => (intL_plain n c hc).1) (tok_int n)]
  | .tup ds, h, qs, t, r => by
    rw [toks, List.cons_append, List.append_assoc]
    have e1 : ∀ ps, lrun ([40] :: ps) (t :: r) = lrun ps ([] :: t :: r) := fun ps => rfl
    rw [e1, lrun_tokss ds (good_tup.mp h)]
    rfl
theorem lrun_tokss : ∀ (ds : List Dat), (∀ d ∈ ds, Good d) → ∀ (qs : List (List Nat)) (t : List Dat) (r : List (List Dat)), lrun (tokss ds ++ qs) (t :: r) = lrun qs ((t ++ ds) :: r)
  | [], _, qs, t, r => by rw [tokss, List.append_nil]; rfl
  | d :: ds, h, qs, t, r => by
    rw [tokss, List.append_assoc, lrun_toks d (h d (List.mem_cons_self ..)), lrun_tokss ds fun x hx => h x (List.mem_cons_of_mem _ hx), List.append_assoc]
    rfl
end
theorem loose_txt {d : Dat} (h : Good d) : loose (pieces d.txt) = some d := by
  rw [pieces_txt h]
  have e := lrun_toks d h [] [] []
  rw [List.append_nil] at e
  unfold loose
  rw [e]
  rfl
/-! what is told of a text is good -/
theorem tok_good {p : List Nat} {d : Dat} (h0 : p ≠ []) (h : tokD p = some d) : Good d := by
  unfold tokD at h
  split at h
  · rename_i hl
    cases h
    exact good_str.mpr ⟨h0, fun c hc => isL_letter (List.all_eq_true.mp hl c hc)⟩
  · split at h
    · cases h
    · cases h
      rw [Good]
      trivial
theorem lstep_good {p : List Nat} {st st' : List (List Dat)} (h0 : p ≠ []) (hg : ∀ t ∈ st, ∀ d ∈ t, Good d) (h : lstep p st = some st') : ∀ t ∈ st', ∀ d ∈ t, Good d := by
  unfold lstep at h
  split at h
  · cases h
    intro t ht d hd
    rcases List.mem_cons.mp ht with rfl | ht
    · cases hd
    · exact hg t ht d hd
  · split at h
    · split at h
      · rename_i t b r
        cases h
        intro t' ht d hd
        rcases List.mem_cons.mp ht with rfl | ht
        · rcases List.mem_append.mp hd with hd | hd
          · exact hg b (by simp) d hd
          · rw [List.mem_singleton.mp hd]
            exact good_tup.mpr (hg t (by simp))
        · exact hg t' (by simp [ht]) d hd
      · cases h
    · split at h
      · rename_i d t r e
        cases h
        intro t' ht x hx
        rcases List.mem_cons.mp ht with rfl | ht
        · rcases List.mem_append.mp hx with hx | hx
          · exact hg t (by simp) x hx
          · rw [List.mem_singleton.mp hx]
            exact tok_good h0 e
        · exact hg t' (by simp [ht]) x hx
      · cases h
theorem lrun_good : ∀ {ps : List (List Nat)} {st st' : List (List Dat)}, (∀ p ∈ ps, p ≠ []) → (∀ t ∈ st, ∀ d ∈ t, Good d) → lrun ps st = some st' → ∀ t ∈ st', ∀ d ∈ t, Good d
  | [], st, st', _, hg, h => by
    cases h
    exact hg
  | p :: ps, st, st', h0, hg, h => by
    have h : (match lstep p st with | none => none | some st' => lrun ps st') = some st' := h
    cases e : lstep p st with
    | none => rw [e] at h; cases h
    | some s1 =>
      rw [e] at h
      exact lrun_good (fun q hq => h0 q (List.mem_cons_of_mem _ hq)) (lstep_good (h0 p (List.mem_cons_self ..)) hg e) h
theorem loose_good {ps : List (List Nat)} {d : Dat} (h0 : ∀ p ∈ ps, p ≠ []) (h : loose ps = some d) : Good d := by
  unfold loose at h
  split at h
  · cases h
  · rename_i st e
    have hg := lrun_good h0 (fun t ht x hx => by rw [List.mem_singleton.mp ht] at hx; cases hx) e
    unfold lfin at h
    split at h
    · cases h
      exact hg _ (List.mem_singleton.mpr rfl) _ (List.mem_singleton.mpr rfl)
    · cases h
mutual
theorem good_rd : ∀ (d : Dat), Good d → Rd1 d
  | .str l, h => rd_word (good_str.mp h).1 (good_str.mp h).2
  | .int n, _ => rd_int n
  | .tup ds, h => rd_tup (good_rds ds (good_tup.mp h))
theorem good_rds : ∀ (ds : List Dat), (∀ d ∈ ds, Good d) → ∀ d ∈ ds, Rd1 d
  | [], _, d, hd => by cases hd
  | x :: r, h, d, hd => by
    rcases List.mem_cons.mp hd with e | hd
    · rw [e]; exact good_rd x (h x (List.mem_cons_self ..))
    · exact good_rds r (fun y hy => h y (List.mem_cons_of_mem _ hy)) d hd
end
theorem good_item {d : Dat} (h : Good d) : Item d.txt d [] := by
  have := good_rd d h [] (fun c hc => by cases hc)
  rw [List.append_nil] at this
  exact this
end KT

namespace KT
open PySem PySem.Spec PyProof.Rows L2
/-! ### what is read is good -/
theorem atom_good {t : List Nat} {d : Dat} {r : List Nat} (h : atom t = some (d, r)) : Good d := by
  unfold atom at h
  split at h
  · rename_i h0
    injection h with h
    injection h with h1 h2
    rw [← h1]
    exact good_str.mpr ⟨h0, fun c hc => isL_letter (in_take hc)⟩
  · split at h
    · split at h
      · injection h with h
        injection h with h1 h2
        rw [← h1, Good]
        trivial
      · cases h
    · split at h
      · injection h with h
        injection h with h1 h2
        rw [← h1, Good]
        trivial
      · cases h
theorem items_good : ∀ n, (∀ t d r, item n t = some (d, r) → Good d) ∧ (∀ t ds r, items n t = some (ds, r) → ∀ d ∈ ds, Good d)
  | 0 => ⟨fun t d r h => (by rw [item] at h; cases h), fun t ds r h => (by rw [items] at h; cases h)⟩
  | n + 1 => by
    obtain ⟨h1, h2⟩ := items_good n
    refine ⟨fun t d r h => ?_, fun t ds r h => ?_⟩
    · rw [item] at h
      split at h
      · split at h
        · injection h with h
          injection h with h3 h4
          rw [← h3]
          exact good_tup.mpr fun d hd => by cases hd
        · split at h
          · cases h
          · rename_i ds r' e
            injection h with h
            injection h with h3 h4
            rw [← h3]
            exact good_tup.mpr (h2 _ _ _ e)
      · exact atom_good h
    · rw [items] at h
      split at h
      · cases h
      · rename_i d r' e
        have hd := h1 _ _ _ e
        split at h
        · injection h with h
          injection h with h3 h4
          rw [← h3]
          intro x hx
          rw [List.mem_singleton.mp hx]
          exact hd
        · split at h
          · split at h
            · cases h
            · rename_i ds' r'' e2
              injection h with h
              injection h with h3 h4
              rw [← h3]
              intro x hx
              rcases List.mem_cons.mp hx with rfl | hx
              · exact hd
              · exact h2 _ _ _ e2 x hx
          · cases h
theorem Item.good {t r : List Nat} {d : Dat} (i : Item t d r) : Good d := by
  obtain ⟨n, i⟩ := i
  exact (items_good n).1 _ _ _ i
/-! ### the pieces of any text -/
/-- p stands in T -/
def In (p T : List Nat) : Prop := ∃ a b, T = a ++ (p ++ b)
theorem In.more {p T : List Nat} (h : In p T) (c : Nat) : In p (T ++ [c]) := by
  obtain ⟨a, b, e⟩ := h
  exact ⟨a, b ++ [c], by rw [e]; simp⟩
/-- what is cut so far off T -/
structure Cut (T : List Nat) (st : List (List Nat) × List Nat) : Prop where
  ne : ∀ p ∈ st.1, p ≠ []
  into : ∀ p ∈ st.1, In p T
  tail : ∃ a, T = a ++ st.2
  wt : (st.1.map (fun p => p.length + 1)).sum + (if st.2 = [] then 0 else st.2.length + 1) ≤ 2 * T.length
theorem Cut.flush {T : List Nat} {st : List (List Nat) × List Nat} (h : Cut T st) : (∀ p ∈ KT.flush st, p ≠ [] ∧ In p T) ∧ ((KT.flush st).map (fun p => p.length + 1)).sum ≤ 2 * T.length := by
  unfold KT.flush
  have hw := h.wt
  split
  · rename_i e
    rw [if_pos e] at hw
    exact ⟨fun p hp => ⟨h.ne p hp, h.into p hp⟩, by omega⟩
  · rename_i e
    rw [if_neg e] at hw
    refine ⟨fun p hp => ?_, ?_⟩
    · rcases List.mem_append.mp hp with hp | hp
      · exact ⟨h.ne p hp, h.into p hp⟩
      · rw [List.mem_singleton.mp hp]
        obtain ⟨a, ea⟩ := h.tail
        exact ⟨e, a, [], by rw [List.append_nil]; exact ea⟩
    · rw [List.map_append, List.sum_append]
      simp
      omega
theorem Cut.step {T : List Nat} {st : List (List Nat) × List Nat} (h : Cut T st) (c : Nat) : Cut (T ++ [c]) (pstep st c) := by
  obtain ⟨f1, f2⟩ := h.flush
  have hl : (T ++ [c]).length = T.length + 1 := by simp
  unfold pstep
  split
  · refine ⟨fun p hp => ?_, fun p hp => ?_, ⟨T ++ [c], by simp⟩, ?_⟩
    · rcases List.mem_append.mp hp with hp | hp
      · exact (f1 p hp).1
      · rw [List.mem_singleton.mp hp]
        simp
    · rcases List.mem_append.mp hp with hp | hp
      · exact (f1 p hp).2.more c
      · rw [List.mem_singleton.mp hp]
        exact ⟨T, [], by simp⟩
    · rw [List.map_append, List.sum_append, hl]
      simp
      omega
  · split
    · exact ⟨fun p hp => (f1 p hp).1, fun p hp => (f1 p hp).2.more c, ⟨T ++ [c], by simp⟩, by rw [hl]; simp; omega⟩
    · refine ⟨h.ne, fun p hp => (h.into p hp).more c, ?_, ?_⟩
      · obtain ⟨a, e⟩ := h.tail
        exact ⟨a, by rw [← List.append_assoc, ← e]⟩
      · have hw := h.wt
        show (st.1.map (fun p => p.length + 1)).sum + (if st.2 ++ [c] = [] then 0 else (st.2 ++ [c]).length + 1) ≤ 2 * (T ++ [c]).length
        rw [hl, if_neg (by simp), List.length_append, List.length_singleton]
        split at hw
        · rename_i e
          rw [e]
          simp
          omega
        · omega
theorem cut_fold : ∀ (T A : List Nat) (st : List (List Nat) × List Nat), Cut A st → Cut (A ++ T) (T.foldl pstep st)
  | [], A, st, h => by rw [List.append_nil]; exact h
  | c :: r, A, st, h => by
    have := cut_fold r (A ++ [c]) (pstep st c) (h.step c)
    rw [List.append_assoc] at this
    exact this
theorem pieces_cut (T : List Nat) : (∀ p ∈ pieces T, p ≠ [] ∧ In p T) ∧ ((pieces T).map (fun p => p.length + 1)).sum ≤ 2 * T.length := by
  have h := cut_fold T [] ([], []) ⟨fun p hp => (by cases hp), fun p hp => (by cases hp), ⟨[], rfl⟩, by simp⟩
  rw [List.nil_append] at h
  exact h.flush
/-! ### how long what is told may be -/
def rowW (t : List Dat) : Nat := (t.map fun d => d.txt.length + 1).sum
def stW (st : List (List Dat)) : Nat := (st.map fun t => rowW t + 2).sum
theorem rowW_app (a b : List Dat) : rowW (a ++ b) = rowW a + rowW b := by simp [rowW]
theorem stW_cons (t : List Dat) (r : List (List Dat)) : stW (t :: r) = rowW t + 2 + stW r := by simp [stW]
theorem tup_len (ds : List Dat) : (Dat.tup ds).txt.length ≤ rowW ds + 2 := by
  have e := joinL_len (ds.map Dat.txt)
  have h : ((ds.map Dat.txt).map (·.length)).sum + ds.length = rowW ds := by
    unfold rowW
    induction ds with
    | nil => rfl
    | cons d r ih =>
      have e := joinL_len (r.map Dat.txt)
      have ih := ih e
      simp at ih ⊢
      omega
  rw [txt_tup]
  simp only [List.length_cons, List.length_append, List.length_map, List.length_nil] at e ⊢
  split at e <;> omega
theorem tok_len {p : List Nat} {d : Dat} (h : tokD p = some d) : d.txt.length ≤ p.length := by
  unfold tokD at h
  split at h
  · cases h
    exact Nat.le_refl _
  · split at h
    · cases h
    · rename_i hf
      have hf : ¬ (figP p == [] || !(figP p).all isD) = true := hf
      have h1 : figP p ≠ [] := fun e => hf (by rw [e]; rfl)
      have h2 : (figP p).all isD = true := by
        cases e : (figP p).all isD with
        | true => rfl
        | false => exact absurd (by rw [e]; simp) hf
      have lt := digitsVal_lt (figP p) (all_digits h2)
      have hl := TL.numL_len (n := NumText.digitsVal (figP p)) (List.length_pos_iff.mpr h1) lt
      cases h
      show (intL _).length ≤ _
      by_cases hn : negP p = true
      · rw [if_pos hn]
        have hp : (figP p).length + 1 = p.length := by
          unfold figP
          rw [if_pos hn]
          cases p with
          | nil => cases hn
          | cons c r => simp
        unfold intL
        rw [Int.natAbs_neg, Int.natAbs_natCast]
        split
        · simp
          omega
        · omega
      · rw [if_neg hn]
        have hp : figP p = p := by
          unfold figP
          rw [if_neg hn]
        unfold intL
        rw [Int.natAbs_natCast, if_neg (by omega)]
        rw [hp] at hl ⊢
        exact hl
theorem lstep_W {p : List Nat} {st st' : List (List Dat)} (h : lstep p st = some st') : stW st' ≤ stW st + (p.length + 1) := by
  unfold lstep at h
  split at h
  · rename_i e
    cases h
    rw [e, stW_cons]
    simp [rowW]
    omega
  · split at h
    · rename_i e
      split at h
      · rename_i t b r
        cases h
        have := tup_len t
        rw [e, stW_cons, stW_cons, stW_cons, rowW_app]
        have : rowW [Dat.tup t] = (Dat.tup t).txt.length + 1 := by simp [rowW]
        simp
        omega
      · cases h
    · split at h
      · rename_i d t r e
        cases h
        have := tok_len e
        rw [stW_cons, stW_cons, rowW_app]
        have : rowW [d] = d.txt.length + 1 := by simp [rowW]
        omega
      · cases h
theorem lrun_W : ∀ {ps : List (List Nat)} {st st' : List (List Dat)}, lrun ps st = some st' → stW st' ≤ stW st + (ps.map (fun p => p.length + 1)).sum
  | [], st, st', h => by
    cases h
    simp
  | p :: ps, st, st', h => by
    have h : (match lstep p st with | none => none | some st' => lrun ps st') = some st' := h
    cases e : lstep p st with
    | none => rw [e] at h; cases h
    | some s1 =>
      rw [e] at h
      have h1 := lstep_W e
      have h2 := lrun_W h
      rw [List.map_cons, List.sum_cons]
      omega
theorem loose_len {ps : List (List Nat)} {d : Dat} (h : loose ps = some d) : d.txt.length ≤ (ps.map (fun p => p.length + 1)).sum := by
  unfold loose at h
  split at h
  · cases h
  · rename_i st e
    have hw := lrun_W e
    unfold lfin at h
    split at h
    · cases h
      have e1 : stW [[d]] = d.txt.length + 1 + 2 + 0 := rfl
      have e2 : stW ([[]] : List (List Dat)) = 2 := rfl
      omega
    · cases h
end KT

namespace KT
open PySem PySem.Spec PyProof.Rows L2
open C8 (Cal pe_c)
/-- an error of the class at S is what «except S» names -/
theorem exm_self {K : PySem.W.Frag} {S : Addr} (h1 : PySem.W.subIn K (.ref S) (.type "BaseException") = some true) (h2 : PySem.W.isClsIn K S = true) (h3 : PySem.W.typeIn K (.ref S) = some (.type "type")) (h4 : PySem.W.subIn K (.ref S) (.ref S) = some true) :
    PySem.W.exmOne K (.ref S) (.ref S) = some true := by
  have e1 : (PySem.W.subIn K (.ref S) (.type "BaseException") == some true) = true := by rw [h1]; rfl
  have e2 : ((PySem.W.clsIn K S).isSome && PySem.W.typeIn K (.ref S) == some (.type "type")) = true := by
    have h2' : (PySem.W.clsIn K S).isSome = true := h2
    rw [h2', h3]; rfl
  show (if (PySem.W.subIn K (.ref S) (.type "BaseException") == some true) = true then (if ((PySem.W.clsIn K S).isSome && PySem.W.typeIn K (.ref S) == some (.type "type")) = true then PySem.W.subIn K (.ref S) (.ref S) else none) else none) = some true
  rw [if_pos e1, if_pos e2]
  exact h4
theorem kit_own {K : PySem.W.Frag} {B I : Addr} (h1 : PySem.W.isClsIn K I = true) (h2 : PySem.W.typeIn K (.ref I) = some (.type "type")) (h3 : PySem.W.subIn K (.ref B) (.ref I) = some true) : PySem.W.kitOne K (.ref B) (.ref I) = some true := by
  have e : ((PySem.W.clsIn K I).isSome && PySem.W.typeIn K (.ref I) == some (.type "type")) = true := by
    have h1' : (PySem.W.clsIn K I).isSome = true := h1
    rw [h1', h2]; rfl
  show (if (Value.ref B == Value.ref I) = true then some true else (if ((PySem.W.clsIn K I).isSome && PySem.W.typeIn K (.ref I) == some (.type "type")) = true then PySem.W.subIn K (.ref B) (.ref I) else none)) = some true
  rw [if_pos e, h3]
  split <;> rfl
theorem kit_bltn {K : PySem.W.Frag} {B : Addr} {T : String} (h1 : PySem.W.kitMeta T = true) (h3 : PySem.W.subIn K (.ref B) (.type T) = some true) : PySem.W.kitOne K (.ref B) (.type T) = some true := by
  show (if (Value.ref B == Value.type T) = true then some true else (if PySem.W.kitMeta T = true then PySem.W.subIn K (.ref B) (.type T) else none)) = some true
  rw [if_pos h1, h3]
  split <;> rfl
/-- the program's error class for texts -/
structure Bad (K : PySem.W.Frag) (mg : Str → Option Value) (B I : Addr) : Prop where
  gB : mg "BadText" = some (.ref B)
  gI : mg "IsthmusError" = some (.ref I)
  xF : PySem.W.excIn K B [.type "ValueError", .type "Exception", .type "BaseException", .type "object"] "ValueError.__new__" = true
  kB : PySem.W.keepIn K (.ref B) = true
  sB : PySem.W.subIn K (.ref B) (.type "BaseException") = some true
  tB : PySem.W.typeIn K (.ref B) = some (.type "type")
  xB : ExcC K B
  eB : PySem.W.exmOne K (.ref B) (.ref B) = some true
  i1 : PySem.W.kitOne K (.ref B) (.ref I) = some true
  i2 : PySem.W.kitOne K (.ref B) (.type "ValueError") = some true
abbrev sReadP : Stmt := top 10
abbrev sLoose : Stmt := top 11
abbrev sWI : Stmt := top 12
theorem scWI : FnScope ["piece", "negative", "figures", "many", "number", "at", "letter", "figure"] ["piece"] (defScope sWI) := ⟨rfl, rfl, rfl, by decide +kernel, rfl, by decide +kernel, by decide +kernel⟩
/-- what a piece tells, or the error of class B -/
def spWI (B : Addr) : Sp := fun vs H Q E => ∃ p : List Nat, vs = [.str (SX.S p)] ∧ p ≠ [] ∧ p.length ≤ 1700000 ∧ ((figP p).all isD = true → (figP p).length ≤ 99999) ∧
  (tokD p = none → ∀ H', Same H H' → E (.ref B) none H') ∧ (∀ d v H', tokD p = some d → Leaf v d → Same H H' → Q v H')
/-- a test of each sign of a text -/
theorem lc_signs {l : List Nat} {pb : Nat → Bool} {g : TG} {te : TE} {vs : List Nat} {σ : L2.St} {H1 : Hp} {D : Addr} {Qd : Hp → Prop} (hl : l.length ≤ 1700000) (hD : H1 D = none)
    (hs : ∀ c H, c ∈ l → Same H1 H → ∀ (R : VK) (S : Hp → Prop), R (.bl (pb c)) H → g (.str (SX.S [c])) (wipe σ vs) H fun σ2 H2 => wipe σ2 vs = wipe σ vs ∧ tYes σ2 H2 fun b H3 => if b = true then te σ2 H3 R else S H3)
    (hd : ∀ H, Same H1 H → H D = some (.lst ((l.map pb).map V.bl)) → Qd H) :
    ∃ W : Nat → Nat → Hp → Prop, (∃ m, W 0 m (upd H1 D (.lst []))) ∧ ∀ i m H, W i m H →
      ((Its (SX.S l)).stop i H ∧ Qd H) ∨ ((Its (SX.S l)).go i H ∧ ∃ Nx : Hp → Prop, (∀ H', Nx H' → ∃ m', m' < m ∧ W (i + 1) m' H') ∧ ∀ x H', (Its (SX.S l)).yld i H x H' → g x (wipe σ vs) H' fun σ2 H2 => wipe σ2 vs = wipe σ vs ∧ tYes σ2 H2 fun b H3 =>
        if b = true then te σ2 H3 fun y H4 => ∃ acc, H4 D = some (.lst acc) ∧ acc.length < sizeLine ∧ Nx (upd H4 D (.lst (acc ++ [y]))) else Nx H3) := by
  refine ⟨fun i m H => m = l.length - i ∧ i ≤ l.length ∧ Same H1 H ∧ H D = some (.lst (((l.take i).map pb).map V.bl)), ⟨_, rfl, Nat.zero_le _, Same.upd_new hD, upd_same⟩, ?_⟩
  rintro i m H ⟨rfl, hi, s1, eD⟩
  have sz : (SX.S l).cps.size = l.length := by simp [SX.S]
  by_cases lt : i < l.length
  · refine .inr ⟨by show i < (SX.S l).cps.size; omega, fun H' => Same H1 H' ∧ H' D = some (.lst (((l.take (i + 1)).map pb).map V.bl)), fun H' q => ⟨_, ?_, rfl, lt, q⟩, ?_⟩
    · omega
    rintro x H' ⟨rfl, c, hc, rfl⟩
    have hc : l[i]? = some c := by simpa [SX.S] using hc
    have cm : c ∈ l := List.mem_of_getElem? hc
    refine hs c H' cm s1 _ _ ⟨_, eD, ?_, ?_, ?_⟩
    · rw [List.length_map, List.length_map, List.length_take]
      exact Nat.lt_of_le_of_lt (show _ ≤ 1700000 by omega) (by decide)
    · intro b o e
      rw [upd_ne (ne_of_none e hD)]
      exact s1 _ _ e
    · rw [upd_same, List.take_add_one, hc, List.map_append, List.map_append]
      rfl
  · have e : i = l.length := by omega
    subst e
    rw [List.take_length] at eD
    exact .inl ⟨by show (SX.S l).cps.size ≤ _; omega, hd H s1 eD⟩
theorem lt1 (a b : Nat) : decide ((SX.S [a]).cps.toList < (SX.S [b]).cps.toList) = decide (a < b) := by
  have : ((SX.S [a]).cps.toList < (SX.S [b]).cps.toList) ↔ a < b := by simp [SX.S, List.cons_lt_cons_iff]
  simp [this]
theorem eA : ("a" : Str) = SX.S [97] := by decide +kernel
theorem eZ : ("z" : Str) = SX.S [122] := by decide +kernel
theorem eM : ("-" : Str) = SX.S [45] := by decide +kernel
theorem eE : ("" : Str) = SX.S [] := by decide +kernel
section
variable {P : Program} {w : World} {K : PySem.W.Frag} {mg : Str → Option Value} {base : Heap} {f : Addr} {fd : FuncData} {B I : Addr}
theorem ok_wi {t1 t2 t3 : Tok} (CB : Bad K mg B I) (F : Fun K "word_or_integer" "word_or_integer" sWI f fd) (mA : mg "all" = none) (mL : mg "len" = none) (mR : mg "range" = none) (mN : mg "int" = none)
    (gR : mg "ROW" = some (.int 18 t1)) (gL : mg "ROW_LIMIT" = some (.int 1000000000000000000 t2)) (gF : mg "FIGURES" = some (.str "0123456789" t3)) : FnOk P w K mg base (L2.CX P w) 1 f fd ["piece"] (spWI B) := by
  refine F.okX scWI (fun vs H Q E h => ?_) (fun cdv A outer s H vs Q E hr h => ?_)
  · obtain ⟨p, rfl, _⟩ := h
    rfl
  obtain ⟨p, rfl, h0, hl, hfl, bad, q⟩ := h
  have raises := @raises_own
  refine ⟨_, pss_cons (ps_if (pt_val (pe_callB (cr_all rfl) (by rfl) mA (by decide +kernel) (pa_cons (pe_lc (own := [("letter", 6)]) (g := gName 6) (te := tChain (fun x y H Q => ∃ i j, x = .str i ∧ y = .str j ∧ Q (.bl (!decide (j.cps.toList < i.cps.toList))) H) (fun x y H Q => ∃ i j, x = .str i ∧ y = .str j ∧ Q (.bl (!decide (j.cps.toList < i.cps.toList))) H) (tC (.str "a")) (tVar 6) (tC (.str "z"))) rfl scWI.nd (pi_str (pv 0)) (blkOk_by (N := ["piece", "negative", "figures", "many", "number", "at", "letter", "figure"]) (sc := defScope sWI) (by decide +kernel)) (fun _ _ _ _ _ => pg_name (i := 6) scWI.nd rfl (Or.inl rfl)) (fun _ _ _ _ _ => pts_nil)
        (fun _ _ _ _ _ => pe_chain op_le_str op_le_str pe_str (pv 6) pe_str)) pa_nil)))
      (pss_one (ps_ret (pv 0))) pss_nil)
    (pss_cons (ps_set (i := 1) scWI.nd rfl (Or.inl rfl) (pe_cmpR op_eq (pe_ix ix_str (pv 0) pe_int (fun _ _ => rfl)) pe_str (nomark _)))
    (C8.pss_cut (ps_set (i := 2) scWI.nd rfl (Or.inl rfl) (pe_ifExp (pt_val (pv 1)) (pe_slice C8.sl_txt (pv 0) (po_some pe_int) po_none) (pv 0)))
    (pss_cons (ps_if (PW.pt (pw_or (pt_cmpR op_eq (pv 2) pe_str (nomark _)) (pw_or1 (pt_not (pt_val (pe_callB (cr_all rfl) (by rfl) mA (by decide +kernel) (pa_cons (pe_lc (own := [("figure", 7)]) (g := gName 7) (te := tOp (fun x y H Q => ∃ i j, x = .str i ∧ y = .str j ∧ Q (.bl (!(Builtin.Str.occurrences j i 0 j.length 1).isEmpty)) H) (tVar 7) (tC (.str "0123456789"))) rfl scWI.nd (pi_str (pv 2)) (blkOk_by (N := ["piece", "negative", "figures", "many", "number", "at", "letter", "figure"]) (sc := defScope sWI) (by decide +kernel)) (fun _ _ _ _ _ => pg_name (i := 7) scWI.nd rfl (Or.inl rfl)) (fun _ _ _ _ _ => pts_nil)
        (fun _ _ _ _ _ => pe_cmpR op_in_str (pv 7) (pe_glob (v := .str "0123456789") (by rfl) gF ⟨_, rfl⟩) rfl)) pa_nil)))))))
      (pss_one (ps_raise rfl (takes_of rfl rfl rfl rfl) (pmk_own PySem.F.excBase_ValueError CB.xF CB.gB CB.kB (raises_own CB.sB CB.tB) rfl))) pss_nil)
    (PSs.nox (pss_cons (ps_set (i := 3) scWI.nd rfl (Or.inl rfl) (pe_un un_neg (pe_op op_fdiv (pe_un un_neg (pe_callB call_len_str (by rfl) mL PySem.boot_len (pa_cons (pv 2) pa_nil))) (pe_glob (v := .int 18) (by rfl) gR ⟨_, rfl⟩))))
    (pss_cons (ps_set (i := 2) scWI.nd rfl (Or.inl rfl) (pe_bm PySem.F.plainAttrs_str PySem.F.slot_str_zfill PySem.F.type_str_zfill mt_zfill (pv 2) (pa_cons (pe_op op_mul (pv 3) (pe_glob (v := .int 18) (by rfl) gR ⟨_, rfl⟩)) pa_nil)))
    (pss_cons (ps_set (i := 4) scWI.nd rfl (Or.inl rfl) pe_int)
    (pss_cons (ps_for PassesOwn.never rfl (pi_range1 (by rfl) mR (pa_cons (pv 3) pa_nil)) (pg_name (i := 5) scWI.nd rfl (Or.inl rfl))
      (pss_one (ps_set (i := 4) scWI.nd rfl (Or.inl rfl) (pe_op op_add (pe_op op_mulW (pv 4) (pe_glob (v := .int 1000000000000000000) (by rfl) gL ⟨_, rfl⟩))
        (pe_callTy call_int_str (by rfl) mN boot_int (pa_cons (pe_slice sl_str (pv 2) (po_some (pe_op op_mul (pv 5) (pe_glob (v := .int 18) (by rfl) gR ⟨_, rfl⟩))) (po_some (pe_op op_add (pe_op op_mul (pv 5) (pe_glob (v := .int 18) (by rfl) gR ⟨_, rfl⟩)) (pe_glob (v := .int 18) (by rfl) gR ⟨_, rfl⟩)))) pa_nil))))))
    (pss_one (ps_ret (pe_ifExp (pt_val (pv 1)) (pe_un un_neg (pv 4)) (pv 4)))))))))))), ?_⟩
  have lS : ∀ l : List Nat, (SX.S l).length ≤ sizeLine ↔ l.length ≤ sizeLine := fun l => by rw [SX.S_len]
  refine ⟨_, rfl, SX.S p, rfl, fun D hD => ?_⟩
  refine lc_signs (pb := isL) hl hD (fun c H1 cm s1 R S r => ?_) (fun H1 s1 eD => ?_)
  · refine ⟨rfl, ?_⟩
    refine ⟨_, rfl, _, _, rfl, rfl, _, rfl, ?_⟩
    rw [eA, eZ, lt1]
    by_cases h1 : c < 97
    · rw [decide_eq_true h1]
      have e : isL c = false := by simp [isL]; omega
      rw [e] at r
      exact iteF r
    · rw [decide_eq_false h1]
      refine iteT ?_
      refine ⟨_, _, rfl, rfl, ?_⟩
      rw [lt1]
      have e : isL c = !decide (122 < c) := by
        unfold isL
        rw [decide_eq_true (show 97 ≤ c by omega)]
        by_cases h2 : 122 < c
        · rw [decide_eq_true h2, decide_eq_false (show ¬ c ≤ 122 by omega)]
          rfl
        · rw [decide_eq_false h2, decide_eq_true (show c ≤ 122 by omega)]
          rfl
      rw [← e]
      exact r
  refine ⟨D, p.map isL, rfl, SqL.of eD, _, rfl, ?_⟩
  have hmap : (p.map isL).all id = p.all isL := by simp
  rw [hmap]
  refine ite2 (fun hall => ?_) (fun hall => ?_)
  · exact ⟨_, rfl, q (.str p) _ H1 (by unfold tokD; rw [if_pos hall]) (.inl ⟨p, rfl, rfl⟩) s1⟩
  obtain ⟨c0, r0, ep⟩ : ∃ c r, p = c :: r := by
    cases p with
    | nil => exact absurd rfl h0
    | cons c r => exact ⟨c, r, rfl⟩
  have hsz : (SX.S p).length ≤ sizeLine := (lS p).mpr (Nat.le_trans hl (by decide))
  refine ⟨_, rfl, SX.S p, 0, c0, rfl, rfl, hsz, ?_, rfl, ?_⟩
  · rw [ep]
    exact atI_nat (xs := (SX.S (c0 :: r0)).cps.toList) (j := 0) rfl
  -- the sign
  have hneg : decide (V.str (⟨#[c0]⟩ : Str) = V.str "-") = negP p := by
    rw [eM, ep]
    show decide (V.str (SX.S [c0]) = V.str (SX.S [45])) = (some c0 == some 45)
    by_cases h : c0 = 45
    · subst h
      rw [decide_eq_true rfl]
      rfl
    · rw [decide_eq_false (fun e => h (by
        have := SX.S_inj (V.str.inj e)
        simpa using this))]
      simp [h]
  rw [hneg]
  refine ⟨fun σ H2 => σ = [some (.str (SX.S p)), some (.bl (negP p)), some (.str (SX.S (figP p))), none, none, none, none, none] ∧ H2 = H1, ?_, ?_⟩
  · refine ⟨_, rfl, negP p, rfl, ?_⟩
    refine ite2 (fun hn => ?_) (fun hn => ?_)
    · have es : Txt.slice (SX.S p) (some 1) none = SX.S (figP p) := by
        unfold figP
        rw [if_pos hn]
        exact SX.slice_from (a := p) (i := 1) (by decide)
      refine ⟨_, rfl, 1, rfl, _, rfl, hsz, ?_⟩
      rw [es]
      exact ⟨rfl, rfl⟩
    · have es : figP p = p := by
        unfold figP
        rw [if_neg hn]
      rw [es]
      exact ⟨_, rfl, rfl, rfl⟩
  rintro σ H2 ⟨rfl, rfl⟩
  have fl : (figP p).length ≤ 1700000 := by
    unfold figP
    split
    · rw [List.length_drop]; omega
    · exact hl
  have tok : tokD p = if figP p == [] || !(figP p).all isD then none else some (.int (if negP p then -((NumText.digitsVal (figP p) : Nat) : Int) else ((NumText.digitsVal (figP p) : Nat) : Int))) := by
    unfold tokD
    rw [if_neg hall]
  refine ⟨_, rfl, rfl, _, rfl, ?_⟩
  refine ite2 (fun he => ?_) (fun he => ?_)
  · refine iteT ?_
    have e0 : figP p = [] := by
      have := V.str.inj (of_decide_eq_true he)
      rw [eE] at this
      exact SX.S_inj this
    exact bad (by rw [tok, e0]; rfl) _ s1
  have hne : figP p ≠ [] := fun e => he (by rw [e, eE]; exact decide_eq_true rfl)
  refine ⟨_, rfl, SX.S (figP p), rfl, fun D2 hD2 => ?_⟩
  refine lc_signs (pb := isD) fl hD2 (fun c H3 cm s3 R S r => ?_) (fun H3 s3 eD3 => ?_)
  · refine ⟨rfl, ?_⟩
    refine ⟨_, rfl, _, _, rfl, rfl, ?_⟩
    have ei : (!(Builtin.Str.occurrences ("0123456789" : Str) (SX.S [c]) 0 ("0123456789" : Str).length 1).isEmpty) = isD c := by
      rw [digs_eq, SX.in_one, mem_digs]
    rw [ei]
    exact r
  refine ⟨D2, (figP p).map isD, rfl, SqL.of eD3, _, rfl, ?_⟩
  have hmap2 : ((figP p).map isD).all id = (figP p).all isD := by simp
  rw [hmap2]
  cases hd : (figP p).all isD with
  | false =>
    refine iteT ?_
    exact bad (by rw [tok, hd]; simp) _ (s1.trans s3)
  | true =>
  refine iteF ?_
  have tok2 : tokD p = some (.int (if negP p then -((NumText.digitsVal (figP p) : Nat) : Int) else ((NumText.digitsVal (figP p) : Nat) : Int))) := by
    rw [tok, hd, if_neg]
    simp [hne]
  have hal := all_digits hd
  have hlen := hfl hd
  -- blocks of eighteen
  generalize hF : figP p = F' at *
  have sF : (SX.S F').length ≤ sizeLine := (lS F').mpr (Nat.le_trans fl (by decide))
  refine ⟨_, rfl, _, rfl, sF, _, rfl, _, _, rfl, rfl, ⟨by decide, by decide⟩, _, rfl, ?_⟩
  rw [SX.S_len]
  obtain ⟨m, hm⟩ : ∃ m : Nat, -((-((F'.length : Nat) : Int)) / 18) = (m : Int) := ⟨((F'.length + 17) / 18), by omega⟩
  have hm18 : F'.length ≤ m * 18 ∧ m * 18 < F'.length + 18 := by omega
  show gName 3 (V.int (-((-((F'.length : Nat) : Int)) / 18))) _ _ _
  rw [hm]
  refine ⟨_, rfl, rfl, _, rfl, _, _, rfl, rfl, .inr ⟨by decide, by decide⟩, _, _, rfl, rfl, ?_, ?_⟩
  · exact padOk_of (by omega) (by omega)
  have em : (m : Int) * 18 = ((m * 18 : Nat) : Int) := by omega
  rw [em, zfill_S hal]
  have hG : NumText.AllDigits (List.replicate (m * 18 - F'.length) 48 ++ F') := by
    intro c hc
    rcases List.mem_append.mp hc with hc | hc
    · rw [List.eq_of_mem_replicate hc]
      decide
    · exact hal c hc
  have lG : (List.replicate (m * 18 - F'.length) 48 ++ F').length = m * 18 := by
    rw [List.length_append, List.length_replicate]
    omega
  have vG : NumText.digitsVal (List.replicate (m * 18 - F'.length) 48 ++ F') = NumText.digitsVal F' := by
    rw [digitsVal_app]
    have z : ∀ n, NumText.digitsVal (List.replicate n 48) = 0 := by
      intro n
      induction n with
      | zero => rfl
      | succ n ih =>
        rw [List.replicate_succ', digitsVal_app, ih]
        rfl
    rw [z]
    omega
  generalize List.replicate (m * 18 - F'.length) 48 ++ F' = G at hG lG vG
  have sG : (SX.S G).length ≤ sizeLine := (lS G).mpr (by rw [lG]; exact Nat.le_trans (show m * 18 ≤ 2000000 by omega) (by decide))
  refine ⟨_, rfl, (m : Int), rfl, by omega, by omega, ?_⟩
  refine for_range (n := ((m : Int)).toNat) (fun i σ H4 => ∃ y, σ = [some (.str (SX.S p)), some (.bl (negP p)), some (.str (SX.S G)), some (.int (m : Int)), some (.int ((NumText.digitsVal (G.take (18 * i)) : Nat) : Int)), y, none, none] ∧ H4 = H3) ⟨none, by rw [Nat.mul_zero, List.take_zero]; rfl, rfl⟩ (fun i σ H4 hi hP => ?_) (fun σ H4 hP => ?_)
  · obtain ⟨y, rfl, rfl⟩ := hP
    have hi : i < m := by omega
    have cut : cutS (SX.S G) (some (((0 : Int) + (i : Int)) * 18)) (some (((0 : Int) + (i : Int)) * 18 + 18)) = SX.S ((G.drop (18 * i)).take 18) := by
      have e1 : (((0 : Int) + (i : Int)) * 18) = ((18 * i : Nat) : Int) := by omega
      have e2 : (((0 : Int) + (i : Int)) * 18 + 18) = ((18 * i + 18 : Nat) : Int) := by omega
      rw [e2, e1, cutN G (by omega)]
      congr 2
      omega
    have el : ((G.drop (18 * i)).take 18).length = 18 := by
      rw [List.length_take, List.length_drop]
      omega
    have part : G.take (18 * (i + 1)) = G.take (18 * i) ++ (G.drop (18 * i)).take 18 := by
      rw [show 18 * (i + 1) = 18 * i + 18 by omega, List.take_add]
    have pd : NumText.AllDigits ((G.drop (18 * i)).take 18) := fun d hm => hG d (List.mem_of_mem_drop (List.mem_of_mem_take hm))
    have it : intText? (SX.S ((G.drop (18 * i)).take 18)) = some ((NumText.digitsVal ((G.drop (18 * i)).take 18) : Nat) : Int) := SX.int_S (by
      rw [List.all_eq_true]
      intro c hc
      have := pd c hc
      simp [this]) (by intro e; rw [e] at el; cases el) (by omega)
    refine ⟨_, rfl, _, _, rfl, rfl, ?_, _, rfl, _, rfl, _, _, rfl, rfl, .inr ⟨by decide, by decide⟩, _, rfl, _, rfl, _, _, rfl, rfl, .inr ⟨by decide, by decide⟩, _, _, rfl, rfl, _, rfl, _, rfl, sG, ?_⟩
    · have b1 := digitsVal_lt (G.take (18 * i)) fun d hm => hG d (List.mem_of_mem_take hm)
      have b2 : (G.take (18 * i)).length ≤ 200000 := by rw [List.length_take]; omega
      exact wide_mul (a := 4 * 200000) (b := 60) (by
        rw [Int.natAbs_natCast]
        exact Nat.lt_of_lt_of_le b1 (Nat.le_trans (Nat.pow_le_pow_right (by decide) b2) (ten_two _))) (by decide) (by decide) (by decide) (by decide)
    rw [cut]
    refine ⟨_, _, rfl, it, ?_, _, _, rfl, rfl, some (.int ((0 : Int) + (i : Int))), ?_, rfl⟩
    · rw [SX.S_len, el]
      decide
    · rw [part, digitsVal_app, el]
      show [some (V.str (SX.S p)), some (V.bl (negP p)), some (V.str (SX.S G)), some (V.int (m : Int)), some (V.int _), some (V.int _), none, none] = _
      simp
  · obtain ⟨y, rfl, rfl⟩ := hP
    rw [List.take_of_length_le (by omega), vG]
    refine ⟨_, rfl, negP p, rfl, ?_⟩
    refine ite2 (fun hn => ?_) (fun hn => ?_)
    · rw [if_pos hn] at tok2
      exact ⟨_, rfl, _, rfl, q _ _ _ tok2 (.inr ⟨_, rfl, rfl⟩) (s1.trans s3)⟩
    · rw [if_neg hn] at tok2
      exact ⟨_, rfl, q _ _ _ tok2 (.inr ⟨_, rfl, rfl⟩) (s1.trans s3)⟩
end
end KT

namespace KT
open PySem PySem.Spec PyProof.Rows L2
open C8 (Cal pe_c)
theorem scLoose : FnScope ["pieces", "rows", "piece", "whole"] ["pieces"] (defScope sLoose) := ⟨rfl, rfl, rfl, by decide +kernel, rfl, by decide +kernel, by decide +kernel⟩
/-- the conditions of a piece -/
def Pc (p : List Nat) : Prop := p ≠ [] ∧ p.length ≤ 1700000 ∧ ((figP p).all isD = true → (figP p).length ≤ 99999)
def spLoose (B : Addr) : Sp := fun vs H Q E => ∃ (a : Addr) (ps : List (List Nat)), vs = [.ref a] ∧ H a = some (.lst ((ps.map SX.S).map V.str)) ∧ (∀ p ∈ ps, Pc p) ∧ ps.length ≤ 4000000 ∧
  (loose ps = none → ∀ H', Same H H' → E (.ref B) none H') ∧ (∀ d n v H', loose ps = some d → DV H' n v d → Same H H' → Q v H')
/-- a row of values -/
def Row (H : Hp) (n : Nat) (a : Addr) (t : List Dat) : Prop := ∃ xs, H a = some (.lst xs) ∧ Paired (DV H n) xs t
/-- the heap of the loop: the rows, the last begun first -/
structure Rws (H0 H : Hp) (R : Addr) (ts : List Addr) (st : List (List Dat)) (n : Nat) : Prop where
  same : Same H0 H
  newR : H0 R = none
  atR : H R = some (.lst (ts.reverse.map V.ref))
  rows : Paired (Row H n) ts st
  new : ∀ a ∈ ts, H0 a = none ∧ a ≠ R
  nd : ts.Nodup
theorem lst_tups {H : Hp} {a : Addr} {xs : List V} {o : HO} (h : H a = some (.lst xs)) : Tups H (upd H a o) := fun p ys e => by
  have : p ≠ a := fun z => by rw [z, h] at e; cases e
  rw [upd_ne this]
  exact e
theorem DV.tp {H H' : Hp} {n : Nat} {v : V} {d : Dat} (k : Tups H H') (h : DV H n v d) : DV H' n v d := DVL.keep k (fun _ _ h => h) h
theorem Row.keep {H H' : Hp} {n m : Nat} {a : Addr} {t : List Dat} (k : Tups H H') (le : n ≤ m) (e : H' a = H a) (h : Row H n a t) : Row H' m a t := by
  obtain ⟨xs, ha, r⟩ := h
  exact ⟨xs, e.trans ha, Paired.mono (fun _ _ z => DVL.mono (DV.tp k z) le) r⟩
theorem paired_mem {α β : Type} {F G : α → β → Prop} : ∀ {l : List α} {m : List β}, Paired F l m → (∀ a ∈ l, ∀ b, F a b → G a b) → Paired G l m
  | _, _, .nil, _ => .nil
  | _, _, .cons x r, h => .cons (h _ (List.mem_cons_self ..) _ x) (paired_mem r fun a ha => h a (List.mem_cons_of_mem _ ha))
/-- a row put at the end -/
theorem Rws.begin {H0 H : Hp} {R p : Addr} {ts : List Addr} {st : List (List Dat)} {n : Nat} (h : Rws H0 H R ts st n) (hp : H p = none) : Rws H0 (upd (upd H p (.lst [])) R (.lst (ts.reverse.map V.ref ++ [.ref p]))) R (p :: ts) ([] :: st) n := by
  have npR : p ≠ R := fun e => by rw [e, h.atR] at hp; cases hp
  have tk : Tups H (upd (upd H p (.lst [])) R (.lst (ts.reverse.map V.ref ++ [.ref p]))) := (Same.tups (Same.upd_new hp)).trans (lst_tups (by rw [upd_ne (fun e => npR e.symm)]; exact h.atR))
  have hpt : ∀ a ∈ ts, a ≠ p := fun a ha e => by
    obtain ⟨t, ht⟩ : ∃ t, Row H n a t := by
      have : ∀ {l : List Addr} {m : List (List Dat)}, Paired (Row H n) l m → ∀ a ∈ l, ∃ t, Row H n a t := by
        intro l m r
        induction r with
        | nil => intro a ha; cases ha
        | cons x _ ih =>
          intro a ha
          rcases List.mem_cons.mp ha with rfl | ha
          · exact ⟨_, x⟩
          · exact ih a ha
      exact this h.rows a ha
    obtain ⟨xs, hx, _⟩ := ht
    rw [e, hp] at hx
    cases hx
  refine ⟨fun b o e => ?_, h.newR, ?_, .cons ⟨[], ?_, .nil⟩ (paired_mem h.rows fun a ha t ht => ht.keep tk (Nat.le_refl _) ?_), fun a ha => ?_, ?_⟩
  · have n1 : b ≠ p := ne_of_none (h.same _ _ e) hp
    have n2 : b ≠ R := ne_of_none e h.newR
    rw [upd_ne n2, upd_ne n1]
    exact h.same _ _ e
  · rw [upd_same, List.reverse_cons, List.map_append]
    rfl
  · rw [upd_ne npR, upd_same]
  · rw [upd_ne (h.new a ha).2, upd_ne (hpt a ha)]
  · rcases List.mem_cons.mp ha with rfl | ha
    · refine ⟨?_, npR⟩
      cases e : H0 a with
      | none => rfl
      | some o => rw [h.same _ _ e] at hp; cases hp
    · exact h.new a ha
  · exact List.nodup_cons.mpr ⟨fun hm => hpt p hm rfl, h.nd⟩
/-- a value put behind the last begun row -/
theorem Rws.push {H0 H : Hp} {R a : Addr} {ts : List Addr} {t : List Dat} {st : List (List Dat)} {n : Nat} {v : V} {d : Dat} {xs : List V} (h : Rws H0 H R (a :: ts) (t :: st) n) (ha : H a = some (.lst xs)) (hv : DV H n v d) : Rws H0 (upd H a (.lst (xs ++ [v]))) R (a :: ts) ((t ++ [d]) :: st) n := by
  have tk : Tups H (upd H a (.lst (xs ++ [v]))) := lst_tups ha
  cases h.rows with
  | cons x r =>
    obtain ⟨ys, hy, py⟩ := x
    rw [ha] at hy
    cases hy
    have nd := List.nodup_cons.mp h.nd
    refine ⟨fun b o e => ?_, h.newR, ?_, .cons ⟨_, upd_same, paired_app (Paired.mono (fun _ _ z => DV.tp tk z) py) (.cons (DV.tp tk hv) .nil)⟩ (paired_mem r fun b hb t ht => ht.keep tk (Nat.le_refl _) ?_), h.new, h.nd⟩
    · have : b ≠ a := ne_of_none e (h.new a (List.mem_cons_self ..)).1
      rw [upd_ne this]
      exact h.same _ _ e
    · rw [upd_ne (fun e => (h.new a (List.mem_cons_self ..)).2 e.symm)]
      exact h.atR
    · have : b ≠ a := fun e => nd.1 (e ▸ hb)
      rw [upd_ne this]
theorem Rws.step {H0 H H' : Hp} {R : Addr} {ts : List Addr} {st : List (List Dat)} {n m : Nat} (h : Rws H0 H R ts st n) (k : Same H H') (le : n ≤ m) : Rws H0 H' R ts st m :=
  ⟨h.same.trans k, h.newR, k _ _ h.atR, paired_mem h.rows fun a ha t ht => by
    obtain ⟨xs, hx, r⟩ := ht
    exact ⟨xs, k _ _ hx, Paired.mono (fun _ _ z => DVL.mono (DV.tp (KT.Same.tups k) z) le) r⟩, h.new, h.nd⟩
theorem Rws.pop {H0 H : Hp} {R a : Addr} {ts : List Addr} {t : List Dat} {st : List (List Dat)} {n : Nat} (h : Rws H0 H R (a :: ts) (t :: st) n) : Rws H0 (upd H R (.lst (ts.reverse.map V.ref))) R ts st n ∧ Row (upd H R (.lst (ts.reverse.map V.ref))) n a t := by
  have tk : Tups H (upd H R (.lst (ts.reverse.map V.ref))) := lst_tups h.atR
  have hne : ∀ b ∈ a :: ts, b ≠ R := fun b hb => (h.new b hb).2
  cases h.rows with
  | cons x r =>
    refine ⟨⟨fun b o e => ?_, h.newR, upd_same, paired_mem r fun b hb t ht => ht.keep tk (Nat.le_refl _) ?_, fun b hb => h.new b (List.mem_cons_of_mem _ hb), (List.nodup_cons.mp h.nd).2⟩, x.keep tk (Nat.le_refl _) ?_⟩
    · rw [upd_ne (ne_of_none e h.newR)]
      exact h.same _ _ e
    · rw [upd_ne (hne b (List.mem_cons_of_mem _ hb))]
    · rw [upd_ne (hne a (List.mem_cons_self ..))]
section
variable {P : Program} {w : World} {K : PySem.W.Frag} {mg : Str → Option Value} {base : Heap} {f fW : Addr} {fd dW : FuncData} {B I : Addr}
theorem ok_loose (CB : Bad K mg B I) (F : Fun K "loose_value" "loose_value" sLoose f fd) (FW : FnOk P w K mg base (L2.CX P w) 1 fW dW ["piece"] (spWI B)) (gW : mg "word_or_integer" = some (.ref fW)) (kW : PySem.W.keepIn K (.ref fW) = true) (bW : Binds K dW ["piece"] [])
    (mL : mg "len" = none) (mT : mg "tuple" = none) : FnOk P w K mg base (L2.CX P w) 2 f fd ["pieces"] (spLoose B) := by
  refine F.okX scLoose (fun vs H Q E h => ?_) (fun cdv A outer s H vs Q E hr h => ?_)
  · obtain ⟨a, ps, rfl, _⟩ := h
    rfl
  obtain ⟨a, ps, rfl, ha, hpc, hlen, bad, q⟩ := h
  refine ⟨_, pss_cons (ps_set (i := 1) scLoose.nd rfl (Or.inl rfl) (pe_lst (pa_cons (pe_lst pa_nil) pa_nil)))
    (pss_cons (ps_for (passes_of rfl) rfl (pi_list (pv 0)) (pg_name (i := 2) scLoose.nd rfl (Or.inl rfl))
      (pss_one (ps_if (pt_cmpR op_eq (pv 2) pe_str (nomark _))
        (pss_one (ps_expr (pe_bm PySem.F.plainAttrs_list PySem.F.slot_list_append PySem.F.type_list_append mt_append (pv 1) (pa_cons (pe_lst pa_nil) pa_nil))))
        (pss_one (ps_if (pt_cmpR op_eq (pv 2) pe_str (nomark _))
          (pss_cons (ps_if (pt_cmpR op_eq (pe_callB call_len_seq (by rfl) mL PySem.boot_len (pa_cons (pv 1) pa_nil)) pe_int (nomark _))
            (pss_one (ps_raise rfl (takes_of rfl rfl rfl rfl) (pmk_own PySem.F.excBase_ValueError CB.xF CB.gB CB.kB (raises_own CB.sB CB.tB) rfl))) pss_nil)
          (pss_cons (ps_set (i := 3) scLoose.nd rfl (Or.inl rfl) (pe_tupleOf (by rfl) mT (pe_bm0 PySem.F.plainAttrs_list PySem.F.slot_list_pop PySem.F.type_list_pop mt_pop (pv 1))))
          (pss_one (ps_expr (pe_bm PySem.F.plainAttrs_list PySem.F.slot_list_append PySem.F.type_list_append mt_append (pe_ix ix_list (pv 1) (pe_un un_neg pe_int) (fun _ _ => rfl)) (pa_cons (pv 3) pa_nil))))))
          (pss_one (ps_expr (pe_bm PySem.F.plainAttrs_list PySem.F.slot_list_append PySem.F.type_list_append mt_append (pe_ix ix_list (pv 1) (pe_un un_neg pe_int) (fun _ _ => rfl)) (pa_cons (pe_callS FW hr rfl gW kW bW (fun σ => passAt (takes_of rfl rfl rfl rfl) σ) (pa_cons (pv 2) pa_nil)) pa_nil)))))))))
    (pss_cons (ps_if (PW.pt (pw_or (pt_cmpR op_gt (pe_callB call_len_seq (by rfl) mL PySem.boot_len (pa_cons (pv 1) pa_nil)) pe_int (nomark _)) (pw_or1 (pt_cmpR op_ne (pe_callB call_len_seq (by rfl) mL PySem.boot_len (pa_cons (pe_ix ix_list (pv 1) pe_int (fun _ _ => rfl)) pa_nil)) pe_int (nomark _)))))
      (pss_one (ps_raise rfl (takes_of rfl rfl rfl rfl) (pmk_own PySem.F.excBase_ValueError CB.xF CB.gB CB.kB (raises_own CB.sB CB.tB) rfl))) pss_nil)
    (pss_one (ps_ret (pe_ix ix_list (pe_ix ix_list (pv 1) pe_int (fun _ _ => rfl)) pe_int (fun _ _ => rfl)))))), ?_⟩
  refine ⟨by show 0 ≤ sizeLine; decide, fun b0 hb0 => ?_⟩
  refine ⟨by show 1 ≤ sizeLine; decide, fun R hR => ?_⟩
  have n0R : b0 ≠ R := ne_of_none upd_same hR
  have hRH : H R = none := by rw [← hR, upd_ne (fun e => n0R e.symm)]
  have start : Rws H (upd (upd H b0 (.lst [])) R (.lst [.ref b0])) R [b0] [[]] 0 := by
    refine ⟨(Same.upd_new hb0).trans (Same.upd_new hR), hRH, upd_same, .cons ⟨[], by rw [upd_ne n0R, upd_same], .nil⟩ .nil, fun b hb => ?_, List.nodup_cons.mpr ⟨by simp, .nil⟩⟩
    rw [List.mem_singleton.mp hb]
    exact ⟨hb0, n0R⟩
  refine ⟨_, rfl, a, rfl, ⟨_, SqL.of (start.same _ _ ha)⟩, ?_⟩
  refine for_list (xs := (ps.map SX.S).map V.str) (fun i σ H1 => ∃ ts st n y2 y3, σ = [some (.ref a), some (.ref R), y2, y3] ∧ Rws H H1 R ts st n ∧ lrun (ps.take i) [[]] = some st ∧ st ≠ [] ∧ ts.length ≤ i + 1 ∧ (∀ t ∈ st, t.length ≤ i))
    ⟨[b0], [[]], 0, none, none, rfl, start, rfl, by simp, by simp, by simp⟩ (fun i σ H1 _ hP => ?_) (fun i x σ H1 hx hP => ?_) (fun σ H1 hP => ?_)
  · obtain ⟨ts, st, n, y2, y3, rfl, rw1, _⟩ := hP
    exact SqL.of (rw1.same _ _ ha)
  · obtain ⟨ts, st, n, y2, y3, rfl, rw1, hrun, hne, htl, hrl⟩ := hP
    obtain ⟨p, hp, rfl⟩ : ∃ p, ps[i]? = some p ∧ x = .str (SX.S p) := by
      rw [List.getElem?_map, List.getElem?_map] at hx
      cases e : ps[i]? with
      | none => rw [e] at hx; cases hx
      | some p =>
        rw [e] at hx
        cases hx
        exact ⟨p, rfl, rfl⟩
    have hi : i < ps.length := (List.getElem?_eq_some_iff.mp hp).1
    have next : lrun (ps.take (i + 1)) [[]] = lstep p st := by
      rw [List.take_add_one, hp, lrun_app, hrun]
      show (match lstep p st with | none => none | some st' => some st') = _
      cases lstep p st <;> rfl
    have lost : lstep p st = none → loose ps = none := by
      intro e
      have e1 : ps = ps.take (i + 1) ++ ps.drop (i + 1) := (List.take_append_drop _ _).symm
      unfold loose
      rw [e1, lrun_app, next, e]
    have small : ∀ k, k ≤ 4000002 → k < sizeLine := fun k hk => Nat.lt_of_le_of_lt hk (by decide)
    have hpcp := hpc p (List.mem_of_getElem? hp)
    have ltr : (ts.reverse.map V.ref).length ≤ 4000001 := by rw [List.length_map, List.length_reverse]; omega
    refine ⟨_, rfl, rfl, _, rfl, ?_⟩
    have eO : ("(" : Str) = SX.S [40] := by decide +kernel
    have eC : (")" : Str) = SX.S [41] := by decide +kernel
    refine ite2 (fun h40 => ?_) (fun h40 => ?_)
    · have ep : p = [40] := by
        have := V.str.inj (of_decide_eq_true h40)
        rw [eO] at this
        exact SX.S_inj this
      refine ⟨_, rfl, .inl ⟨rfl, _, SqL.of rw1.atR⟩, by show 0 ≤ sizeLine; decide, fun b hb => ?_⟩
      have nbR : R ≠ b := ne_of_none rw1.atR hb
      refine ⟨_, _, _, rfl, rfl, by rw [upd_ne nbR]; exact rw1.atR, small _ (by omega), ?_⟩
      have hs : lstep p st = some ([] :: st) := by rw [ep]; rfl
      exact ⟨b :: ts, [] :: st, n, _, y3, rfl, rw1.begin hb, by rw [next, hs], by simp, by rw [List.length_cons]; omega, fun t ht => by
        rcases List.mem_cons.mp ht with rfl | ht
        · exact Nat.zero_le _
        · have := hrl t ht; omega⟩
    have np40 : p ≠ [40] := fun e => h40 (by rw [e, eO]; exact decide_eq_true rfl)
    refine ⟨_, rfl, rfl, _, rfl, ?_⟩
    refine ite2 (fun h41 => ?_) (fun h41 => ?_)
    · have ep : p = [41] := by
        have := V.str.inj (of_decide_eq_true h41)
        rw [eC] at this
        exact SX.S_inj this
      refine ⟨_, rfl, R, _, rfl, .inl (SqL.of rw1.atR), rfl, _, rfl, ?_⟩
      have hlenR : (ts.reverse.map V.ref).length = st.length := by rw [List.length_map, List.length_reverse]; exact rw1.rows.length
      rw [hlenR]
      match st, hne, rw1, hrl, next, lost, hlenR with
      | [t], _, rw1, hrl, next, lost, _ =>
        refine iteT ?_
        exact bad (lost (by rw [ep]; rfl)) _ rw1.same
      | t :: b :: r, _, rw1, hrl, next, lost, _ =>
        have hone : decide (V.int (((t :: b :: r).length : Nat) : Int) = V.int 1) = false := decide_eq_false fun e => by
          have := V.int.inj e
          simp at this
          omega
        rw [hone]
        refine iteF ?_
        have hs : lstep p (t :: b :: r) = some ((b ++ [.tup t]) :: r) := by rw [ep]; rfl
        match ts, rw1, htl, ltr with
        | [], rw1, _, _ => cases rw1.rows
        | [a1], rw1, _, _ => cases rw1.rows with | cons _ z => cases z
        | a1 :: a2 :: ts, rw1, htl, ltr =>
        obtain ⟨rw2, xs, e1, r1⟩ := rw1.pop
        have eRev : (a1 :: a2 :: ts).reverse.map V.ref = (a2 :: ts).reverse.map V.ref ++ [.ref a1] := by rw [List.reverse_cons, List.map_append]; rfl
        have atR : H1 R = some (.lst ((a2 :: ts).reverse.map V.ref ++ [.ref a1])) := by rw [← eRev]; exact rw1.atR
        refine ⟨_, rfl, .inl ⟨rfl, _, SqL.of atR⟩, R, _, .ref a1, rfl, rfl, atR, by simp, ?_⟩
        rw [List.dropLast_concat]
        refine .inl ⟨a1, xs, rfl, SqL.of e1, fun T hT => ?_⟩
        have rw3 := rw2.step (Same.upd_new (o := .tup xs) hT) (Nat.le_succ n)
        have hv : DV (upd (upd H1 R (.lst ((a2 :: ts).reverse.map V.ref))) T (.tup xs)) (n + 1) (.ref T) (.tup t) := DVL.tup upd_same (Paired.mono (fun _ _ z => DV.tp (KT.Same.tups (Same.upd_new hT)) z) r1)
        obtain ⟨ys, e2, r2⟩ : Row (upd (upd H1 R (.lst ((a2 :: ts).reverse.map V.ref))) T (.tup xs)) (n + 1) a2 b := by
          cases rw3.rows with | cons z _ => exact z
        have atR3 := rw3.atR
        have rev2 : (a2 :: ts).reverse.map V.ref = ts.reverse.map V.ref ++ [.ref a2] := by rw [List.reverse_cons, List.map_append]; rfl
        have lb : b.length ≤ i := hrl b (by simp)
        refine ⟨_, rfl, _, rfl, R, _, _, .ref a2, rfl, rfl, SqL.of atR3, ?_, ?_⟩
        · rw [rev2]
          exact atI_last _ _
        have ly : ys.length = b.length := r2.length
        refine ⟨.inl ⟨rfl, _, SqL.of e2⟩, _, rfl, _, _, _, rfl, rfl, e2, small _ (by omega), ?_⟩
        refine ⟨a2 :: ts, (b ++ [.tup t]) :: r, n + 1, _, _, rfl, rw3.push e2 hv, by rw [next, hs], by simp, by simp at htl ⊢; omega, fun u hu => ?_⟩
        rcases List.mem_cons.mp hu with rfl | hu
        · rw [List.length_append, List.length_singleton]
          omega
        · have := hrl u (by simp [hu])
          omega
    · have np41 : p ≠ [41] := fun e => h41 (by rw [e, eC]; exact decide_eq_true rfl)
      match st, hne, rw1, hrl, next, lost with
      | t :: r, _, rw1, hrl, next, lost =>
      match ts, rw1, htl, ltr with
      | [], rw1, _, _ => cases rw1.rows
      | a1 :: ts, rw1, htl, ltr =>
      have hs : lstep p (t :: r) = (match tokD p with | some d => some ((t ++ [d]) :: r) | none => none) := by
        unfold lstep
        rw [if_neg np40, if_neg np41]
        cases tokD p <;> rfl
      obtain ⟨ys, e2, r2⟩ : Row H1 n a1 t := by
        cases rw1.rows with | cons z _ => exact z
      have rev1 : (a1 :: ts).reverse.map V.ref = ts.reverse.map V.ref ++ [.ref a1] := by rw [List.reverse_cons, List.map_append]; rfl
      have lb : t.length ≤ i := hrl t (by simp)
      have ly : ys.length = t.length := r2.length
      refine ⟨_, rfl, _, rfl, R, _, _, .ref a1, rfl, rfl, SqL.of rw1.atR, ?_, ?_⟩
      · rw [rev1]
        exact atI_last _ _
      refine ⟨.inl ⟨rfl, _, SqL.of e2⟩, _, rfl, p, rfl, hpcp.1, hpcp.2.1, hpcp.2.2, fun hn H2 s2 => ?_, fun d v H2 hd hv s2 => ?_⟩
      · exact bad (lost (by rw [hs, hn])) _ (rw1.same.trans s2)
      · rw [hd] at hs
        have rw2 := rw1.step s2 (Nat.le_refl n)
        have e3 := s2 _ _ e2
        refine ⟨_, _, _, rfl, rfl, e3, small _ (by omega), ?_⟩
        refine ⟨a1 :: ts, (t ++ [d]) :: r, n, _, _, rfl, rw2.push e3 (DVL.leaf hv n), by rw [next, hs], by simp, by simp at htl ⊢; omega, fun u hu => ?_⟩
        rcases List.mem_cons.mp hu with rfl | hu
        · rw [List.length_append, List.length_singleton]
          omega
        · have := hrl u (by simp [hu])
          omega
  · obtain ⟨ts, st, n, y2, y3, rfl, rw1, hrun, hne, _, _⟩ := hP
    rw [List.take_of_length_le (by rw [List.length_map, List.length_map]; exact Nat.le_refl _)] at hrun
    have hl : loose ps = lfin st := by
      unfold loose
      rw [hrun]
    have hlenR : (ts.reverse.map V.ref).length = st.length := by rw [List.length_map, List.length_reverse]; exact rw1.rows.length
    refine ⟨_, rfl, R, _, rfl, .inl (SqL.of rw1.atR), _, _, rfl, rfl, _, rfl, ?_⟩
    rw [hlenR]
    match st, hne, rw1, hl with
    | t :: b :: r, _, rw1, hl =>
      have hone : decide ((1 : Int) < (((t :: b :: r).length : Nat) : Int)) = true := decide_eq_true (by simp; omega)
      rw [hone]
      refine iteT ?_
      refine iteT ?_
      refine bad (hl.trans ?_) _ rw1.same
      cases t with
      | nil => rfl
      | cons x y => cases y <;> rfl
    | [t], _, rw1, hl =>
      refine iteF ?_
      match ts, rw1 with
      | [], rw1 => cases rw1.rows
      | a1 :: a2 :: ts, rw1 => cases rw1.rows with | cons _ z => cases z
      | [a1], rw1 =>
      obtain ⟨ys, e2, r2⟩ : Row H1 n a1 t := by
        cases rw1.rows with | cons z _ => exact z
      have ly : ys.length = t.length := r2.length
      have at0 : atI (([a1] : List Addr).reverse.map V.ref) 0 = some (.ref a1) := atI_nat (xs := [V.ref a1]) (j := 0) rfl
      refine ⟨_, rfl, R, _, _, .ref a1, rfl, rfl, SqL.of rw1.atR, at0, a1, _, rfl, .inl (SqL.of e2), rfl, _, rfl, ?_⟩
      rw [ly]
      match t, ys, r2, hl with
      | [], _, _, hl =>
        refine iteT ?_
        exact bad hl _ rw1.same
      | d :: d2 :: t, _, _, hl =>
        have hone : (!decide (V.int (((d :: d2 :: t).length : Nat) : Int) = V.int 1)) = true := by
          rw [Bool.not_eq_true']
          refine decide_eq_false fun e => ?_
          have := V.int.inj e
          simp at this
          omega
        rw [hone]
        refine iteT ?_
        exact bad hl _ rw1.same
      | [d], ys, r2, hl =>
        refine iteF ?_
        cases r2 with
        | @cons v _ _ _ hv z =>
        cases z
        have at1 : atI [v] 0 = some v := atI_nat (xs := [v]) (j := 0) rfl
        exact ⟨_, rfl, R, _, _, .ref a1, rfl, rfl, SqL.of rw1.atR, at0, a1, _, _, v, rfl, rfl, SqL.of e2, at1, q d n v H1 hl hv rw1.same⟩
end
end KT

namespace KT
open PySem PySem.Spec PyProof.Rows L2
open C8 (Cal pe_c)
open CwR
section
variable {X : Cx}
/-- e.split(), where e wants a token -/
theorem pet_words {o : Expr} {to : TE} {apos pos : Pos} (ho : PET X o to) (hbase : attributeBase o "split" X.env (eval o X.env) = eval o X.env := by rfl) (hline : (apos.endLine == pos.line) = true := by rfl) :
    PET X (.Call (.Attribute o "split" apos) [] [] pos) (fun σ H Q => to σ H fun x H1 => ∃ a, x = .str a ∧ a.length + 2 ≤ sizeLine ∧ rNewStrs (Txt.words a) H1 Q) := by
  intro pins s σ H Q h1 I want
  refine PySem.Call_method0 hbase hline (wpAny_mono (ho pins s σ H _ h1 I want) ?_ fun _ _ z => z)
  rintro v s1 ⟨x, H1, J, r, a, ex, hz, q⟩
  subst ex
  obtain ⟨t, ev⟩ : ∃ t, v = .str a t := r
  subst ev
  refine ⟨"str", _, F.plainAttrs_str, F.slot_str_split, F.type_str_split, typeIs_str _ _ _, fun _ e => (by cases e), Calls.callWith_builtin rfl (PySem.evalArgs_none ?_)⟩
  exact mt_words pins s1 σ H1 (.str a) [] _ [] Q J ⟨t, rfl⟩ .nil ⟨a, rfl, rfl, hz, q⟩
/-- f(e), where e wants a token and f may raise -/
theorem pet_callA {x : Str} {e : Expr} {es : List Expr} {p pos : Pos} {f : Addr} {fd : FuncData} {ps : List Str} {k : Nat} {sp : Sp} {C : CXT} {E : L2.St → XK} {t : TA} (F : FnOk X.prog X.w X.K X.mg X.base C k f fd ps sp) (room : Room k X.A) (hg : Gl X x) (hm : X.mg x = some (.ref f)) (kp : PySem.W.keepIn X.K (.ref f) = true)
    (bd : Binds X.K fd ps []) (hx : ∀ σ, PassesAt C X σ (E σ)) (ha : PAT X (e :: es) t) (hdb : (x == ("__debug__" : Str)) = false := by decide) (he : starEach (e :: es) X.env = (false, eval e X.env) :: starEach es X.env := by rfl)
    (hpl : (backTo pos (starEach es X.env)).any (·.1) = false := by rfl) : PET X (.Call (.Name x p) (e :: es) [] pos) (tCallS sp E t) := by
  intro pins s σ H Q h1 I want
  refine wpAny_Call_Name_kw (ld_glob I hg hm ?_ hdb)
  refine PySem.W.callWith_K (h₀ := X.base) I.ok.mod.kin kp (wpAny_mono (ha pos pins s σ H _ h1 I want) ?_ fun _ _ z => z) he hpl
  rintro us s1 ⟨vs, H1, J, r, q⟩
  exact ⟨J.kIn, run_fnS F room bd (hx σ) J r q⟩
end
theorem scReadP : FnScope ["text", "value"] ["text"] (defScope sReadP) := ⟨rfl, rfl, rfl, by decide +kernel, rfl, by decide +kernel, by decide +kernel⟩
/-- the program's read: the value of which it is the text, or the error of class B -/
def spRead (B : Addr) (k : Nat) : Sp := fun vs H Q E => ∃ T : List Nat, vs = [.str (SX.S T)] ∧ T.length ≤ 1700000 ∧ Sh (k : Int) T ∧ Runs 99999 T ∧
  ((∀ d, ¬ Item T d []) → ∀ H', Same H H' → E (.ref B) none H') ∧
  (∀ d v H', Item T d [] → Same H H' → DV H' k v d → Q v H')
/-- the program's write, for values of any depth -/
def spWriteA : Sp := fun vs H Q E => ∃ n, spWrite n vs H Q E
/-! a text's pieces -/
def cnt (k : Nat) (T : List Nat) : Nat := (T.filter (· == k)).length
theorem wide1_len (k : Nat) : ∀ T : List Nat, (wide1 k T).length = T.length + 2 * cnt k T
  | [] => rfl
  | c :: r => by
    have ih := wide1_len k r
    have e : wide1 k (c :: r) = (if c = k then [32, k, 32] else [c]) ++ wide1 k r := rfl
    rw [e, List.length_append, ih]
    by_cases h : c = k
    · subst h
      simp [cnt]
      omega
    · simp [cnt, h]
      omega
theorem cnt_bal : ∀ T : List Nat, (cnt 40 T : Int) = cnt 41 T + bal T
  | [] => rfl
  | c :: r => by
    have ih := cnt_bal r
    rw [bal]
    by_cases h : c = 40
    · subst h
      simp [cnt] at ih ⊢
      omega
    · by_cases h2 : c = 41
      · subst h2
        simp [cnt] at ih ⊢
        omega
      · simp [cnt, h, h2] at ih ⊢
        omega
theorem cnt_two : ∀ T : List Nat, cnt 40 T + cnt 41 T ≤ T.length
  | [] => Nat.le_refl _
  | c :: r => by
    have ih := cnt_two r
    by_cases h : c = 40
    · subst h
      simp [cnt] at ih ⊢
      omega
    · by_cases h2 : c = 41
      · subst h2
        simp [cnt] at ih ⊢
        omega
      · simp [cnt, h, h2] at ih ⊢
        omega
mutual
/-- how deep a value is -/
def deep : Dat → Nat
  | .str _ => 0
  | .int _ => 0
  | .tup ds => 1 + deeps ds
def deeps : List Dat → Nat
  | [] => 0
  | d :: r => max (deep d) (deeps r)
end
theorem deep_mem : ∀ {ds : List Dat} {d : Dat}, d ∈ ds → deep d ≤ deeps ds
  | x :: r, d, h => by
    rw [deeps]
    rcases List.mem_cons.mp h with rfl | h
    · exact Nat.le_max_left _ _
    · exact Nat.le_trans (deep_mem h) (Nat.le_max_right _ _)
/-- a value is told as deep as it is -/
theorem dv_deep {H : Hp} : ∀ {n : Nat} {v : V} {d : Dat}, DV H n v d → DV H (deep d) v d
  | 0, v, d, h => DVL.leaf h _
  | n + 1, v, d, h => by
    rcases h.cases with h | ⟨p, xs, ds, rfl, e2, rfl, r⟩
    · exact DVL.leaf h _
    · rw [deep, Nat.add_comm]
      refine DVL.tup e2 ?_
      have : ∀ {xs : List V} {ds : List Dat} (m : Nat), (∀ d ∈ ds, deep d ≤ m) → Paired (DVL Leaf H n) xs ds → Paired (DVL Leaf H m) xs ds := by
        intro xs ds m
        intro hm r
        induction r with
        | nil => exact .nil
        | cons x _ ih =>
          refine .cons (DVL.mono (dv_deep x) (hm _ (List.mem_cons_self ..))) (ih fun d hd => hm d (List.mem_cons_of_mem _ hd))
      exact this _ (fun d hd => deep_mem hd) r
mutual
theorem deep_sh : ∀ (d : Dat) (k : Nat), Good d → Sh (k : Int) d.txt → deep d ≤ k
  | .str _, _, _, _ => Nat.zero_le _
  | .int _, _, _, _ => Nat.zero_le _
  | .tup ds, k, hg, h => by
    rw [txt_tup] at h
    have h1 : Sh ((k : Int) - 1) (TL.joinL [32] (ds.map Dat.txt)) := by
      intro a b e
      have := h (40 :: a) (b ++ [41]) (by rw [e]; simp)
      rw [bal] at this
      simp at this
      omega
    have hk : 1 ≤ k := by
      have := h [40] (TL.joinL [32] (ds.map Dat.txt) ++ [41]) rfl
      simp [bal] at this
      omega
    have := deeps_sh ds (k - 1) (good_tup.mp hg) (by rw [show ((k - 1 : Nat) : Int) = (k : Int) - 1 by omega]; exact h1)
    rw [deep]
    omega
theorem deeps_sh : ∀ (ds : List Dat) (k : Nat), (∀ d ∈ ds, Good d) → Sh (k : Int) (TL.joinL [32] (ds.map Dat.txt)) → deeps ds ≤ k
  | [], _, _, _ => Nat.zero_le _
  | [d], k, hg, h => by
    have := deep_sh d k (hg d (List.mem_cons_self ..)) h
    rw [deeps, deeps]
    omega
  | d :: e :: r, k, hg, h => by
    have ej : TL.joinL [32] ((d :: e :: r).map Dat.txt) = d.txt ++ ([32] ++ TL.joinL [32] ((e :: r).map Dat.txt)) := rfl
    rw [ej] at h
    have h1 : Sh (k : Int) d.txt := fun a b eq => h a (b ++ ([32] ++ TL.joinL [32] ((e :: r).map Dat.txt))) (by rw [eq]; simp)
    have hb : bal d.txt = 0 := by
      obtain ⟨a, ea, hb⟩ := (good_item (hg d (List.mem_cons_self ..))).flat
      rw [List.append_nil] at ea
      rw [ea]
      exact hb
    have h2 : Sh (k : Int) (TL.joinL [32] ((e :: r).map Dat.txt)) := fun a b eq => by
      have := h (d.txt ++ ([32] ++ a)) b (by rw [eq]; simp)
      rw [bal_app, bal_app, hb] at this
      simp [bal] at this
      exact this
    have i1 := deep_sh d k (hg d (List.mem_cons_self ..)) h1
    have i2 := deeps_sh (e :: r) k (fun x hx => hg x (List.mem_cons_of_mem _ hx)) h2
    rw [deeps]
    exact Nat.max_le.mpr ⟨i1, i2⟩
end
end KT

namespace KT
open PySem PySem.Spec PyProof.Rows L2
open C8 (Cal pe_c)
open CwR
theorem in_len {p T : List Nat} (h : In p T) : p.length ≤ T.length := by
  obtain ⟨a, b, e⟩ := h
  rw [e]
  simp
  omega
theorem in_tail {c : Nat} {p T : List Nat} (h : In (c :: p) T) : In p T := by
  obtain ⟨a, b, e⟩ := h
  exact ⟨a ++ [c], b, by rw [e]; simp⟩
theorem piece_ok {T p : List Nat} (hT : T.length ≤ 1700000) (hr : Runs 99999 T) (h0 : p ≠ []) (h : In p T) : Pc p := by
  refine ⟨h0, Nat.le_trans (in_len h) hT, fun hd => ?_⟩
  have hf : In (figP p) T := by
    unfold figP
    split
    · cases p with
      | nil => exact absurd rfl h0
      | cons c r => exact in_tail h
    · exact h
  obtain ⟨a, b, e⟩ := hf
  exact hr a (figP p) b e fun x hx => List.all_eq_true.mp hd x hx
section
variable {P : Program} {w : World} {K : PySem.W.Frag} {mg : Str → Option Value} {base : Heap} {f fL : Addr} {fd dL : FuncData} {B I : Addr}
theorem ok_read (CB : Bad K mg B I) (F : Fun K "read" "read" sReadP f fd) (FL : FnOk P w K mg base (L2.CX P w) 2 fL dL ["pieces"] (spLoose B)) (gL : mg "loose_value" = some (.ref fL)) (kL : PySem.W.keepIn K (.ref fL) = true) (bL : Binds K dL ["pieces"] [])
    (cW : Cal P w K mg base 2 "write" spWriteA []) : FnT P w K mg base (L2.CX P w) 3 f fd ["text"] (spRead B 72) := by
  refine Fun.okT F scReadP (fun vs H Q E h => ?_) (fun cdv A outer s H vs Q E hr h => ?_)
  · obtain ⟨T, rfl, _⟩ := h
    rfl
  obtain ⟨T, rfl, hT, hsh, hrun, bad, q⟩ := h
  refine ⟨_, psst_cons (pst_set (i := 1) scReadP.nd rfl (Or.inl rfl) (pet_callA FL hr rfl gL kL bL (fun σ => passAt (takes_of rfl rfl rfl rfl) σ) (pat_cons (pet_words (pet_replT (pet_replC (pv 0) (by decide +kernel)) (by decide +kernel))) pat_nil)))
    (PSsT.of (pss_cons (ps_if (pt_cmpR op_ne (pe_c cW hr (by decide) (by rfl) (pa_cons (pv 1) pa_nil)) (pv 0) (nomark _))
      (pss_one (ps_raise rfl (takes_of rfl rfl rfl rfl) (pmk_own PySem.F.excBase_ValueError CB.xF CB.gB CB.kB (raises_own CB.sB CB.tB) rfl))) pss_nil)
    (pss_one (ps_ret (pv 1))))), ?_⟩
  have e40 : ("(" : Str) = SX.S [40] := by decide +kernel
  have e41 : (")" : Str) = SX.S [41] := by decide +kernel
  have w40 : (" ( " : Str) = SX.S [32, 40, 32] := by decide +kernel
  have w41 : (" ) " : Str) = SX.S [32, 41, 32] := by decide +kernel
  have c2 := cnt_two T
  have cb := cnt_bal T
  have cs := hsh T [] (by simp)
  have c40 : cnt 40 T ≤ 850036 := by omega
  have l1 := wide1_len 40 T
  have l2 := wide1_len 41 (wide1 40 T)
  have c41 : cnt 41 (wide1 40 T) ≤ T.length := by
    have : ∀ T : List Nat, cnt 41 (wide1 40 T) = cnt 41 T := by
      intro T
      induction T with
      | nil => rfl
      | cons c r ih =>
        have e : wide1 40 (c :: r) = (if c = 40 then [32, 40, 32] else [c]) ++ wide1 40 r := rfl
        rw [e]
        by_cases h : c = 40
        · subst h
          simp [cnt] at ih ⊢
          exact ih
        · simp [cnt, h, List.filter_cons] at ih ⊢
          split <;> simp [ih]
    rw [this]
    omega
  refine ⟨_, rfl, SX.S T, rfl, ?_, SX.S (wide1 40 T), ?_, ?_, SX.S (wide T), ?_, ?_, ?_⟩
  · rw [SX.S_len, w40, SX.S_len]
    show T.length + (T.length + 1) * 3 ≤ 16777216
    omega
  · rw [e40, w40, replace_S]
  · rw [SX.S_len, w41, SX.S_len]
    show (wide1 40 T).length + ((wide1 40 T).length + 1) * 3 ≤ 16777216
    omega
  · rw [e41, w41, replace_S, wide_two]
  · rw [SX.S_len]
    have := wide_two T
    rw [← this]
    exact Nat.le_trans (show _ ≤ 9000000 by omega) (by decide)
  rw [words_wide]
  intro ps hps
  obtain ⟨pcs, pw⟩ := pieces_cut T
  have hlen : (pieces T).length ≤ 4000000 := by
    have : ∀ l : List (List Nat), l.length ≤ (l.map (fun p => p.length + 1)).sum := by
      intro l
      induction l with
      | nil => exact Nat.le_refl _
      | cons x r ih =>
        rw [List.length_cons, List.map_cons, List.sum_cons]
        omega
    have := this (pieces T)
    omega
  refine ⟨ps, pieces T, rfl, upd_same, fun p hp => piece_ok hT hrun (pcs p hp).1 (pcs p hp).2, hlen, fun hn H' s' => ?_, fun d n v H' hd hv s' => ?_⟩
  · refine bad (fun d hi => ?_) H' ((Same.upd_new hps).trans s')
    have ht := hi.txt
    have := loose_txt hi.good
    rw [ht, hn] at this
    cases this
  · have s2 : Same H H' := (Same.upd_new hps).trans s'
    have hg := loose_good (fun p hp => (pcs p hp).1) hd
    have hdl := loose_len hd
    refine ⟨_, rfl, n, v, d, rfl, hv, by omega, fun H2 s3 => ?_⟩
    have s4 := s2.trans s3
    have hv2 : DV H2 n v d := DVL.tups s3 hv
    refine ⟨_, rfl, rfl, _, rfl, ?_⟩
    by_cases e : d.txt = T
    · have : (!decide (V.str (SX.S d.txt) = V.str (SX.S T))) = false := by rw [e, decide_eq_true rfl]; rfl
      rw [this]
      refine iteF ?_
      refine ⟨_, rfl, q d v H2 (by rw [← e]; exact good_item hg) s4 ?_⟩
      exact DVL.mono (dv_deep hv2) (deep_sh d 72 hg (by rw [e]; exact hsh))
    · have : (!decide (V.str (SX.S d.txt) = V.str (SX.S T))) = true := by
        rw [Bool.not_eq_true']
        exact decide_eq_false fun z => e (SX.S_inj (V.str.inj z))
      rw [this]
      refine iteT ?_
      refine bad (fun d2 hi => ?_) H2 s4
      have h1 := loose_txt hi.good
      rw [hi.txt, hd] at h1
      have : d = d2 := Option.some.inj h1
      subst this
      exact e hi.txt
end
end KT

namespace KT
open PySem PySem.Spec PyProof.Rows L2
open C8 (Cal pe_c)
open CwR
abbrev sAsked : Stmt := top 27
theorem scAsked : FnScope ["text", "due", "told", "e"] ["text", "due"] (defScope sAsked) := ⟨rfl, rfl, rfl, by decide +kernel, rfl, by decide +kernel, by decide +kernel⟩
def spAsked (k : Nat) : Sp := fun vs H Q _ => ∃ (T : List Nat) (p : Addr), vs = [.str (SX.S T), .ref p] ∧ T.length ≤ 1700000 ∧ Sh (k : Int) T ∧ Runs 99999 T ∧
  ((H p = some (.lst []) ∧ ∀ d, ¬ Item T d []) ∨ ∃ v d, H p = some (.lst [v]) ∧ DV H k v d ∧ Item T d []) ∧ ∀ H', Same H H' → Q (.bl true) H'
theorem pss_when {X : Cx} {st : List Stmt} {t : TS} {p : Prop} (h : p → PSs X st t) : PSs X st (fun D σ H => p ∧ t D σ H) := ⟨fun pins s σ H D I q => (h q.1).run pins s σ H D I q.2⟩
theorem zc_of {B : Addr} {cls : Value} {d : Option Addr} {oe : Obj} (hz : Zc cls d oe) (e : cls = .ref B ∧ d = none) : Zc (.ref B) none oe := by
  obtain ⟨rfl, rfl⟩ := e
  exact hz
section
variable {P : Program} {w : World} {K : PySem.W.Frag} {mg : Str → Option Value} {base : Heap} {f : Addr} {fd : FuncData}
theorem ok_asked {k j : Nat} {B I fR : Addr} {dR : FuncData} (hk : 1 + k ≤ j) (F : Fun K "_law_asked" "_law_asked" sAsked f fd) (FR : FnT P w K mg base (L2.CX P w) j fR dR ["text"] (spRead B k)) (gR : mg "read" = some (.ref fR)) (kR : PySem.W.keepIn K (.ref fR) = true) (bR : Binds K dR ["text"] [])
    (cS : Cal P w K mg base (1 + k) "_law_same" (spSame k) []) (mL : mg "len" = none) (mI : mg "isinstance" = none) (mV : mg "ValueError" = none) (gB : mg "BadText" = some (.ref B)) (gI : mg "IsthmusError" = some (.ref I)) (xB : ExcC K B) (eB : PySem.W.exmOne K (.ref B) (.ref B) = some true) (i1 : PySem.W.kitOne K (.ref B) (.ref I) = some true) (i2 : PySem.W.kitOne K (.ref B) (.type "ValueError") = some true) :
    FnT P w K mg base CX0 (j + 1) f fd ["text", "due"] (spAsked k) := by
  refine Fun.okT F scAsked (fun vs H Q E h => ?_) (fun cdv A outer s H vs Q E hr h => ?_)
  · obtain ⟨T, p, rfl, _⟩ := h
    rfl
  obtain ⟨T, p, rfl, hT, hsh, hruns, due, q⟩ := h
  have un := hr.un
  refine ⟨_, psst_cons (pst_try (i := 3) rfl rfl scAsked.nd rfl rfl ⟨rfl, by decide, .inl gB⟩
      (fun W pn xe tk => psst_one (pst_set (i := 2) scAsked.nd rfl (Or.inl rfl) (pet_callS FR hr rfl gR kR bR (fun σ => passAt tk σ) (pa_cons (pv 0) pa_nil))))
      (fun a oe cls d pn hz hf => pss_when (p := cls = .ref B ∧ d = none) fun e => pss_one (ps_ret (pe_and (pe_cmpR (r := rEqD K) (op_eqD ?hu) (pv 1) (pe_lst pa_nil) (nomark _))
        (pe_and (pe_callB (r := rIsE K B a) (call_isE xB (zc_of hz e) hf) (by rfl) mI boot_isinstance (pa_cons (pv 3) (pa_cons (pe_glob (v := .ref I) rfl gI rfl) pa_nil)))
        (pe_one (pe_callB (r := rIsE K B a) (call_isE xB (zc_of hz e) hf) (by rfl) mI boot_isinstance (pa_cons (pv 3) (pa_cons (pe_bltn (v := .ty "ValueError") (by rfl) mV (by rfl) rfl) pa_nil)))))))))
    (PSsT.of (pss_one (ps_ret (pe_and (pe_cmpR op_eq (pe_callB call_len_seq (by rfl) mL PySem.boot_len (pa_cons (pv 1) pa_nil)) pe_int (nomark _))
      (pe_one (pe_c cS hr ?hs (by rfl) (pa_cons (pv 2) (pa_cons (pe_ix ix_list (pv 1) pe_int (fun _ _ => rfl)) pa_nil)))))))), ?_⟩
  case hu =>
    have : (A.deeper (envOfC (Str.ofString "_law_asked") (defScope sAsked) s.heap.objs.size f cdv)).units + 64 < cLine := by omega
    exact this
  case hs => omega
  have un1 : (1 : Nat) ≤ 10000000 := by decide
  refine ⟨_, rfl, T, rfl, hT, hsh, hruns, fun hn H1 s1 => ?_, fun d v H1 hi s1 hd => ?_⟩
  · rcases due with ⟨ep, _⟩ | ⟨v, d, ep, hd, hi⟩
    · refine ⟨eB, fun a ha => ?_⟩
      refine ⟨⟨rfl, rfl⟩, ?_⟩
      refine ⟨_, rfl, by show 0 ≤ sizeLine; decide, fun p2 hp2 => ?_⟩
      have s2 : Same H (upd H1 p2 (.lst [])) := s1.trans (Same.upd_new hp2)
      refine ⟨.list [], .list [], .lst (SqL.of (s2 _ _ ep)) .nil, .lst (SqL.of upd_same) .nil, rfl, rfl, ?_⟩
      refine ⟨true, rfl, ?_⟩
      refine iteT ?_
      refine ⟨_, rfl, .ref I, .ref I, true, rfl, fun u h => h, i1, true, rfl, ?_⟩
      refine iteT ?_
      refine ⟨_, rfl, .ty "ValueError", .type "ValueError", true, rfl, fun u h => h, i2, ?_⟩
      exact q _ s2
    · exact absurd hi (hn d)
  · rcases due with ⟨ep, hn⟩ | ⟨v2, d2, ep, hd2, hi2⟩
    · exact absurd hi (hn d)
    have e := (hi.one hi2).1
    subst e
    have ep1 := s1 _ _ ep
    refine ⟨_, rfl, p, _, rfl, .inl (SqL.of ep1), rfl, _, rfl, ?_⟩
    refine iteT ?_
    refine ⟨_, rfl, _, rfl, p, _, 0, v2, rfl, rfl, .inl (.inl ep1), rfl, v, v2, d, rfl, hd, DVL.tups s1 hd2, by rw [hi.txt]; omega, fun H2 s2 => ?_⟩
    exact q H2 (s1.trans s2)
end
end KT

namespace KT
open PySem PySem.Spec PyProof.Rows L2
open C8 (Cal pe_c)
open CwR
abbrev sLaw2 : Stmt := top 29
theorem scLaw2 : FnScope ["script", "turn", "box", "value", "text", "k", "other"] ["script"] (defScope sLaw2) := ⟨rfl, rfl, rfl, by decide +kernel, rfl, by decide +kernel, by decide +kernel⟩
def spLaw2 (K : PySem.W.Frag) : Sp := fun vs H Q _ => ∃ (a : Addr) (ns : List Int), vs = [.ref a] ∧ SqL K H a (ns.map V.int) ∧ ∀ H', Q (.bl true) H'
/-- a text after at most one edit -/
def Tx (n k m : Nat) (T : List Nat) : Prop := Sh (n : Int) T ∧ Rn k T ∧ T.length ≤ m
theorem Kept.same2 {b : Addr} {H H' : Hp} {o : HO} (h : H b = none) (k : Kept b (L2.upd H b o) H') : Same H H' := fun a u e => k a u (ne_of_none e h) (by rw [upd_ne (ne_of_none e h)]; exact e)
section
variable {P : Program} {w : World} {K : PySem.W.Frag} {mg : Str → Option Value} {base : Heap} {f : Addr} {fd : FuncData}
theorem psk_c {X : Cx} {x : Str} {e : Expr} {es : List Expr} {p pos pos2 : Pos} {k j : Nat} {sp : Sp} {t : TA} {tg : Expr} {g : TG} {rest : List Stmt} {u : TS} (c : Cal X.prog X.w X.K X.mg X.base k x sp []) (hr : Room j X.A) (hk : k ≤ j) (hg : Gl X x) (ha : PAK X (e :: es) t) (ht : PG X tg g) (hu : PSsT X rest u)
    (hdb : (x == ("__debug__" : Str)) = false := by decide) (he : starEach (e :: es) X.env = (false, eval e X.env) :: starEach es X.env := by rfl) (hpl : (backTo pos (starEach es X.env)).any (·.1) = false := by rfl)
    (hs : swapsWithSole [tg] (.Call (.Name x p) (e :: es) [] pos) pos2.line X.env = pure false := by rfl) (hw : swappedStores [tg] (.Call (.Name x p) (e :: es) [] pos) X.env = pure none := by rfl)
    (h1 : (assignEach [tg] X.env).map (·.2) = [assign tg X.env] := by rfl) :
    PSs X (.Assign [tg] (.Call (.Name x p) (e :: es) [] pos) pos2 :: rest) (tSeq (tAsg (tCall sp [] E0 t) g) u) := by
  obtain ⟨f, fd, ps, ds, F, m, kp, b, d⟩ := c.ex
  cases d
  exact psk_call F (hr.mono hk) hg m kp b ha ht hu hdb he hpl hs hw h1
theorem passN {X : Cx} (σ : L2.St) : PassesAt CX0 X σ E0 := fun _ _ _ _ _ _ h => h.elim
theorem ok_law2 {j fA : Nat} {dA : FuncData} (hj : 75 ≤ j) (F : Fun K "law" "law" sLaw2 f fd) (mR : mg "range" = none)
    (cB : Cal P w K mg base 1 "_law_box" (spBox K) []) (cN : Cal P w K mg base 11 "_law_nested" (spNest 4) []) (FA : FnT P w K mg base CX0 j fA dA ["text", "due"] (spAsked 72)) (gA : mg "_law_asked" = some (.ref fA)) (kA : PySem.W.keepIn K (.ref fA) = true) (bA : Binds K dA ["text", "due"] [])
    (cR : Cal P w K mg base 75 "_law_read" (spReadL 72) []) (cS : Cal P w K mg base 2 "_law_spoilt" spSpoilt []) : FnOk P w K mg base CX0 (j + 1) f fd ["script"] (spLaw2 K) := by
  refine F.ok scLaw2 (fun vs H Q E h => ?_) (fun cdv A outer s H vs Q E hr h => ?_)
  · obtain ⟨a, ns, rfl, _⟩ := h
    rfl
  obtain ⟨a, ns, rfl, hS, q⟩ := h
  refine ⟨_, pss_cons (ps_for PassesOwn.never rfl (pi_range1 (by rfl) mR (pa_cons pe_int pa_nil)) (pg_name (i := 1) scLaw2.nd rfl (Or.inl rfl))
      (pss_cons (ps_set (i := 2) scLaw2.nd rfl (Or.inl rfl) (pe_c cB hr (by omega) (by rfl) (pa_cons (pv 0) (pa_cons (pv 1) pa_nil))))
      (psk_c cN hr (by omega) (by rfl) (pak_cons (pv 2) pak_int) (pg_tup rfl (pgs_cons (pg_name (i := 3) scLaw2.nd rfl (Or.inl rfl)) (pgs_cons (pg_name (i := 4) scLaw2.nd rfl (Or.inl rfl)) pgs_nil)))
      (psst_cons (pst_ifnot (pet_callS (E := fun _ => E0) FA hr (by rfl) gA kA bA passN (pa_cons (pv 4) (pa_cons (pe_lst (pa_cons (pv 3) pa_nil)) pa_nil))) pss_never pss_nil)
      (psst_one (pst_for PassesOwn.never rfl (pi_range1 (by rfl) mR (pa_cons pe_int pa_nil)) (pg_name (i := 5) scLaw2.nd rfl (Or.inl rfl))
        (psst_cons (PST.of (ps_set (i := 6) scLaw2.nd rfl (Or.inl rfl) (pe_c cS hr (by omega) (by rfl) (pa_cons (pv 2) (pa_cons (pv 4) pa_nil)))))
        (psst_cons (pst_ifnot (pet_callS (E := fun _ => E0) FA hr (by rfl) gA kA bA passN (pa_cons (pv 6) (pa_cons (pe_c cR hr (by omega) (by rfl) (pa_cons (pv 6) pa_nil)) pa_nil))) pss_never pss_nil)
        (PSsT.of (pss_one (ps_if (pt_cmpR op_eq (pe_op op_mod (pv 5) pe_int) pe_int (nomark _)) (pss_one (ps_set (i := 4) scLaw2.nd rfl (Or.inl rfl) (pv 6))) pss_nil)))))))))))
    (pss_one (ps_ret pe_bl)), ?_⟩
  refine ⟨3, rfl, by decide, by decide, ?_⟩
  refine for_range (n := 3) (fun i σ H1 => ∃ y1 y2 y3 y4 y5 y6, σ = [some (.ref a), y1, y2, y3, y4, y5, y6] ∧ SqL K H1 a (ns.map V.int)) ⟨none, none, none, none, none, none, rfl, hS⟩ (fun i σ H1 hi hP => ?_) (fun σ H1 hP => ?_)
  · obtain ⟨y1, y2, y3, y4, y5, y6, rfl, hS1⟩ := hP
    refine ⟨_, rfl, _, rfl, a, ns, i, by show [V.ref a, V.int (0 + (i : Int))] ++ [] = _; rw [Int.zero_add]; rfl, hS1, fun b z hz hb => ?_⟩
    have s1 : Same H1 (L2.upd H1 b (.lst [.int z])) := Same.upd_new hb
    have hS2 := s1.seq hS1
    refine ⟨_, rfl, b, z, rfl, upd_same, hz, fun d z2 p H2 hz2 hb2 k2 hp => ?_⟩
    obtain ⟨v, e2, hv, hl, hrd, hsh, _, hlo, hrn⟩ := hp
    have s2 : Same H1 H2 := Kept.same2 hb k2
    refine ⟨p, _, rfl, .inl (.inl e2), rfl, v, _, rfl, _, _, rfl, rfl, ?_⟩
    have dm : Sh ((64 : Nat) : Int) d.txt := hsh
    have rn : Rn 4401 d.txt := rn_of hrn
    have len : d.txt.length ≤ 1665040 := hl
    refine ⟨_, rfl, _, rfl, by show 1 ≤ sizeLine; decide, fun p3 hp3 => ?_⟩
    have it : Item d.txt d [] := by
      have := hrd [] (fun c hc => by cases hc)
      rw [List.append_nil] at this
      exact this
    have s3 : Same H2 (L2.upd H2 p3 (.lst [v])) := Same.upd_new hp3
    refine ⟨d.txt, p3, rfl, by omega, fun a b e => Int.le_trans (dm a b e) (by decide), rn.runs (by decide), .inr ⟨v, d, upd_same, DVL.tups s3 (DVL.mono hv (by decide)), it⟩, fun H3 s4 => ?_⟩
    have s13 : Same H1 H3 := s2.trans (s3.trans s4)
    have hb3 : Bx H3 b z2 := s4 _ _ (s3 _ _ hb2)
    have hS3 := s13.seq hS1
    refine ⟨_, rfl, ?_⟩
    refine iteF ?_
    refine ⟨6, rfl, by decide, by decide, ?_⟩
    refine for_range (n := 6) (fun k σ H4 => ∃ y5 y6 z T, σ = [some (.ref a), some (.int ((0 : Int) + (i : Int))), some (.ref b), some v, some (.str (SX.S T)), y5, y6] ∧ Same H1 H4 ∧ Bx H4 b z ∧ 0 ≤ z ∧ (k < 3 → Tx 64 4401 1665040 T) ∧ (k < 6 → Tx 68 8804 1665042 T))
      ⟨_, _, _, d.txt, rfl, s13, hb3, hz2, fun _ => ⟨dm, rn, len⟩, fun _ => ⟨fun a b e => Int.le_trans (dm a b e) (by decide), fun y hy hd => Nat.le_trans (rn y hy hd) (by decide), Nat.le_trans len (by decide)⟩⟩ (fun k σ H4 hk hP => ?_) (fun σ H4 hP => ?_)
    · obtain ⟨y5, y6, z4, T, rfl, hS4, hb4, hz4, t1, t2⟩ := hP
      have t2 := t2 hk
      refine ⟨_, rfl, _, rfl, b, z4, T, rfl, hb4, hz4, Nat.le_trans t2.2.2 (by decide), fun T' z5 H5 ed le5 hz5 hb5 k5 => ?_⟩
      have big : Tx 72 17610 1665044 T' := ⟨sh_ed ed t2.1 (by decide), rn_ed ed t2.2.1, Nat.le_trans le5 (Nat.add_le_add_right t2.2.2 2)⟩
      have s5 : Same H1 H5 := fun x o e => k5 x o (ne_of_none e hb) (hS4 x o e)
      have len5 : T'.length ≤ 10000000 := Nat.le_trans big.2.2 (by decide)
      have len6 : T'.length ≤ 1700000 := Nat.le_trans big.2.2 (by decide)
      have sh5 : Sh ((72 : Nat) : Int) T' := big.1
      have rn5 : Runs 99999 T' := big.2.1.runs (by decide)
      have nxt : k < 3 → Tx 68 8804 1665042 T' := fun h => ⟨sh_ed ed (t1 h).1 (by decide), rn_ed ed (t1 h).2.1, Nat.le_trans le5 (Nat.add_le_add_right (t1 h).2.2 2)⟩
      refine ⟨_, rfl, _, rfl, T', rfl, len5, sh5, rn5, fun hn p6 H6 s6 e6 => ⟨T', p6, rfl, len6, sh5, rn5, .inl ⟨e6, hn⟩, fun H7 s7 => ⟨_, rfl, iteF ?_⟩⟩, fun d6 v6 p6 H6 hi6 s6 e6 hd6 => ⟨T', p6, rfl, len6, sh5, rn5, .inr ⟨v6, d6, e6, hd6, hi6⟩, fun H7 s7 => ⟨_, rfl, iteF ?_⟩⟩⟩
      all_goals
        have s57 : Same H1 H7 := s5.trans (s6.trans s7)
        have hb7 : Bx H7 b z5 := s7 _ _ (s6 _ _ hb5)
        refine ⟨_, rfl, _, _, rfl, rfl, by show (0 : Int) < 3; decide, rfl, _, rfl, ?_⟩
        refine ite2 (fun hc => ?_) (fun hc => ?_)
        · refine ⟨_, rfl, ?_⟩
          refine ⟨_, _, z5, T', rfl, s57, hb7, hz5, fun h => ?_, fun h => ?_⟩
          · have := V.int.inj (of_decide_eq_true hc)
            omega
          · have := V.int.inj (of_decide_eq_true hc)
            exact nxt (by omega)
        · exact ⟨_, _, z5, T, rfl, s57, hb7, hz5, fun h => t1 (by omega), fun h => t2⟩
    · obtain ⟨y5, y6, z4, T, rfl, hS4, _⟩ := hP
      exact ⟨_, _, _, _, _, _, rfl, hS4.seq hS1⟩
  · obtain ⟨y1, y2, y3, y4, y5, y6, rfl, hS1⟩ := hP
    exact q H1
end
end KT

namespace KT
open PySem PySem.Spec PyProof.Rows L2
open C8 (Cal pe_c)
theorem FnT.mono {P : Program} {w : World} {K : PySem.W.Frag} {mg : Str → Option Value} {base : Heap} {C : CXT} {j k : Nat} {f : Addr} {fd : FuncData} {ps : List Str} {sp : Sp} (F : FnT P w K mg base C j f fd ps sp) (h : j ≤ k) : FnT P w K mg base C k f fd ps sp :=
  ⟨F.many, fun A outer s H args us vs Q E h1 hr => F.goes A outer s H args us vs Q E h1 (hr.mono h)⟩
theorem fn_any {P : Program} {w : World} {K : PySem.W.Frag} {mg : Str → Option Value} {base : Heap} {C : CXT} {k : Nat} {f : Addr} {fd : FuncData} {ps : List Str} (h : ∀ n, FnOk P w K mg base C k f fd ps (spWrite n)) : FnOk P w K mg base C k f fd ps spWriteA :=
  ⟨fun vs H Q E ⟨n, z⟩ => (h n).len vs H Q E z, fun A outer s H args us vs Q E hr e b v ⟨n, z⟩ => (h n).run A outer s H args us vs Q E hr e b v z⟩
theorem whole {P : Program} {w : World} {K : PySem.W.Frag} {mg : Str → Option Value} {base : Heap} {t1 t2 t3 : Tok} {B I f1 f2 f3 f4 f5 f6 f7 f8 f9 f10 f11 f12 f13 f14 f15 f16 f17 f18 f19 f20 f21 f22 : Addr} {d1 d2 d3 d4 d5 d6 d7 d8 d9 d10 d11 d12 d13 d14 d15 d16 d17 d18 d19 d20 d21 d22 : FuncData} (CB : Bad K mg B I) (gRow : mg "ROW" = some (.int 18 t1)) (gLim : mg "ROW_LIMIT" = some (.int 1000000000000000000 t2)) (gFig : mg "FIGURES" = some (.str "0123456789" t3))
    (F1 : Fun K "write" "write" sWrite f1 d1) (b1 : Binds K d1 ["value"] []) (g1 : mg "write" = some (.ref f1))
    (F2 : Fun K "spaced_parts" "spaced_parts" sSpaced f2 d2) (b2 : Binds K d2 ["parts"] []) (g2 : mg "spaced_parts" = some (.ref f2))
    (F3 : Fun K "integer_text" "integer_text" sIT f3 d3) (b3 : Binds K d3 ["number"] []) (g3 : mg "integer_text" = some (.ref f3))
    (F4 : Fun K "read" "read" sReadP f4 d4) (b4 : Binds K d4 ["text"] []) (g4 : mg "read" = some (.ref f4))
    (F5 : Fun K "loose_value" "loose_value" sLoose f5 d5) (b5 : Binds K d5 ["pieces"] []) (g5 : mg "loose_value" = some (.ref f5))
    (F6 : Fun K "word_or_integer" "word_or_integer" sWI f6 d6) (b6 : Binds K d6 ["piece"] []) (g6 : mg "word_or_integer" = some (.ref f6))
    (F7 : Fun K "_law_box" "_law_box" sBox f7 d7) (b7 : Binds K d7 ["script", "at"] []) (g7 : mg "_law_box" = some (.ref f7))
    (F8 : Fun K "_law_take" "_law_take" sTake f8 d8) (b8 : Binds K d8 ["box", "many"] []) (g8 : mg "_law_take" = some (.ref f8))
    (F9 : Fun K "_law_word" "_law_word" sWord f9 d9) (b9 : Binds K d9 ["box"] []) (g9 : mg "_law_word" = some (.ref f9))
    (F10 : Fun K "_law_figures" "_law_figures" sFig f10 d10) (b10 : Binds K d10 ["box"] []) (g10 : mg "_law_figures" = some (.ref f10))
    (F11 : Fun K "_law_number" "_law_number" sNum f11 d11) (b11 : Binds K d11 ["figures"] []) (g11 : mg "_law_number" = some (.ref f11))
    (F12 : Fun K "_law_integer" "_law_integer" sInt f12 d12) (b12 : Binds K d12 ["box"] []) (g12 : mg "_law_integer" = some (.ref f12))
    (F13 : Fun K "_law_sample" "_law_sample" sSamp f13 d13) (b13 : Binds K d13 ["box"] []) (g13 : mg "_law_sample" = some (.ref f13))
    (F14 : Fun K "_law_plain" "_law_plain" sPlain f14 d14) (b14 : Binds K d14 ["value"] []) (g14 : mg "_law_plain" = some (.ref f14))
    (F15 : Fun K "_law_nested" "_law_nested" sNest f15 d15) (b15 : Binds K d15 ["box", "depth"] []) (g15 : mg "_law_nested" = some (.ref f15))
    (F16 : Fun K "_law_run" "_law_run" sRun f16 d16) (b16 : Binds K d16 ["text", "at", "signs"] []) (g16 : mg "_law_run" = some (.ref f16))
    (F17 : Fun K "_law_item" "_law_item" sItem f17 d17) (b17 : Binds K d17 ["text", "at"] []) (g17 : mg "_law_item" = some (.ref f17))
    (F18 : Fun K "_law_read" "_law_read" sReadL f18 d18) (b18 : Binds K d18 ["text"] []) (g18 : mg "_law_read" = some (.ref f18))
    (F19 : Fun K "_law_same" "_law_same" sSame f19 d19) (b19 : Binds K d19 ["one", "two"] []) (g19 : mg "_law_same" = some (.ref f19))
    (F20 : Fun K "_law_asked" "_law_asked" sAsked f20 d20) (b20 : Binds K d20 ["text", "due"] []) (g20 : mg "_law_asked" = some (.ref f20))
    (F21 : Fun K "_law_spoilt" "_law_spoilt" sSpoilt f21 d21) (b21 : Binds K d21 ["box", "text"] []) (g21 : mg "_law_spoilt" = some (.ref f21))
    (F22 : Fun K "law" "law" sLaw2 f22 d22)
    (mR : mg "range" = none) (mI : mg "isinstance" = none) (mS : mg "str" = none) (mN : mg "int" = none) (mL : mg "len" = none) (mA : mg "abs" = none) (mM : mg "min" = none) (mT : mg "tuple" = none) (mB : mg "bool" = none) (mAl : mg "all" = none) (mV : mg "ValueError" = none) (mD : mg "divmod" = none) (mRv : mg "reversed" = none) :
    FnOk P w K mg base CX0 82 f22 d22 ["script"] (spLaw2 K) := by
  have cT : Cal P w K mg base 1 "_law_take" spTake [] := ⟨f8, d8, _, _, ok_take F8 mN, g8, F8.kp, b8, .nil⟩
  have cB : Cal P w K mg base 1 "_law_box" (spBox K) [] := ⟨f7, d7, _, _, ok_box F7 mL mA mN, g7, F7.kp, b7, .nil⟩
  have cW : Cal P w K mg base 2 "_law_word" spWord [] := ⟨f9, d9, _, _, ok_word F9 cT mR, g9, F9.kp, b9, .nil⟩
  have cF : Cal P w K mg base 2 "_law_figures" spFig [] := ⟨f10, d10, _, _, ok_fig F10 cT mR mM mS mL, g10, F10.kp, b10, .nil⟩
  have cNu : Cal P w K mg base 1 "_law_number" spNum [] := ⟨f11, d11, _, _, ok_num F11 mR mL mN, g11, F11.kp, b11, .nil⟩
  have cI : Cal P w K mg base 3 "_law_integer" spInt [] := ⟨f12, d12, _, _, ok_int F12 cT cF cNu, g12, F12.kp, b12, .nil⟩
  have cS : Cal P w K mg base 3 "_law_sample" spSamp [] := ⟨f13, d13, _, _, ok_samp F13 cT cW mL, g13, F13.kp, b13, .nil⟩
  have cP : Cal P w K mg base 6 "_law_plain" (spText Small 5) [] := ⟨f14, d14, _, _, ok_plain F14 mI mS mN g14 b14 5, g14, F14.kp, b14, .nil⟩
  have cN : Cal P w K mg base 11 "_law_nested" (spNest 4) [] := ⟨f15, d15, _, _, ok_nest F15 g15 b15 mR mT cT cI cW cS cP 4 (by decide), g15, F15.kp, b15, .nil⟩
  have cRun : Cal P w K mg base 1 "_law_run" spRun [] := ⟨f16, d16, _, _, ok_run F16 mR mL, g16, F16.kp, b16, .nil⟩
  have cIt : Cal P w K mg base (2 + 72) "_law_item" (spItem 72) [] := ⟨f17, d17, _, _, ok_item F17 g17 b17 mR mL mT cRun cNu 72, g17, F17.kp, b17, .nil⟩
  have cRd : Cal P w K mg base (3 + 72) "_law_read" (spReadL 72) [] := ⟨f18, d18, _, _, ok_readL F18 mL cIt, g18, F18.kp, b18, .nil⟩
  have cSm : Cal P w K mg base (1 + 72) "_law_same" (spSame 72) [] := ⟨f19, d19, _, _, ok_same F19 g19 b19 mI mT mS mN mB mL mAl mR 72, g19, F19.kp, b19, .nil⟩
  have cSp : Cal P w K mg base 1 "spaced_parts" (spSpaced K) [] := ⟨f2, d2, _, _, ok_spaced F2 mRv mR mL, g2, F2.kp, b2, .nil⟩
  have cIT : Cal P w K mg base 1 "integer_text" spIT [] := ⟨f3, d3, _, _, ok_it F3 mA mD mS gRow gLim, g3, F3.kp, b3, .nil⟩
  have cWr : Cal P w K mg base 2 "write" spWriteA [] := ⟨f1, d1, _, _, fn_any fun n => ok_write (n := n) F1 mI mS mN cSp cIT, g1, F1.kp, b1, .nil⟩
  have FW := ok_wi (P := P) (w := w) (base := base) CB F6 mAl mL mR mN gRow gLim gFig
  have FL := ok_loose CB F5 FW g6 F6.kp b6 mL mT
  have FR := (ok_read CB F4 FL g5 F5.kp b5 cWr).mono (show 3 ≤ 80 by decide)
  have FA := ok_asked (by decide) F20 FR g4 F4.kp b4 cSm mL mI mV CB.gB CB.gI CB.xB CB.eB CB.i1 CB.i2
  have cSpo : Cal P w K mg base 2 "_law_spoilt" spSpoilt [] := ⟨f21, d21, _, _, ok_spoilt F21 cT mL, g21, F21.kp, b21, .nil⟩
  exact ok_law2 (by decide) F22 mR cB cN FA g20 F20.kp b20 cRd cSpo
theorem all_mk {l : PySem.W.OpenLaw} {w : World} {K : PySem.W.Frag} {h : Heap} {mg : Str → Option Value} {fa f1 f2 f3 f4 f5 f6 f7 f8 f9 f10 f11 f12 f13 f14 f15 f16 f17 f18 f19 f20 f21 f22 : Addr} (X : K.In h) (G : h.Ns mainGlobals mg) (hfa : mg "law" = some (.ref fa))
    {od1 an1 od2 an2 od3 an3 od4 an4 od5 an5 od6 an6 od7 an7 od8 an8 od9 an9 od10 an10 od11 an11 od12 an12 od13 an13 od14 an14 od15 an15 od16 an16 od17 an17 od18 an18 od19 an19 od20 an20 od21 an21 od22 an22 : Option Addr} {sl1 sl2 sl3 sl4 sl5 sl6 sl7 sl8 sl9 sl10 sl11 sl12 sl13 sl14 sl15 sl16 sl17 sl18 sl19 sl20 sl21 sl22 : Array (Option Value)} {oc1 kV1 dc1 pm1 cd1 ct1 oc2 kV2 dc2 pm2 cd2 ct2 oc3 kV3 dc3 pm3 cd3 ct3 oc4 kV4 dc4 pm4 cd4 ct4 oc5 kV5 dc5 pm5 cd5 ct5 oc6 kV6 dc6 pm6 cd6 ct6 oc7 kV7 dc7 pm7 cd7 ct7 oc8 kV8 dc8 pm8 cd8 ct8 oc9 kV9 dc9 pm9 cd9 ct9 oc10 kV10 dc10 pm10 cd10 ct10 oc11 kV11 dc11 pm11 cd11 ct11 oc12 kV12 dc12 pm12 cd12 ct12 oc13 kV13 dc13 pm13 cd13 ct13 oc14 kV14 dc14 pm14 cd14 ct14 oc15 kV15 dc15 pm15 cd15 ct15 oc16 kV16 dc16 pm16 cd16 ct16 oc17 kV17 dc17 pm17 cd17 ct17 oc18 kV18 dc18 pm18 cd18 ct18 oc19 kV19 dc19 pm19 cd19 ct19 oc20 kV20 dc20 pm20 cd20 ct20 oc21 kV21 dc21 pm21 cd21 ct21 oc22 kV22 dc22 pm22 cd22 ct22 : Value}
    (a1 : PySem.W.nsIn K mainGlobals "write" = some (some (.ref f1))) (l1 : K.lookup f1 = some ⟨oc1, od1, .func (PySem.W.fnOf "write" "write" (defArgs sWrite) (defBody sWrite) (defScope sWrite) .none kV1 dc1 pm1 an1 cd1 ct1), sl1⟩) (c1 : PySem.W.codeIn K cd1 "write" = true) (k1 : PySem.W.keepIn K (.ref f1) = true)
    (a2 : PySem.W.nsIn K mainGlobals "spaced_parts" = some (some (.ref f2))) (l2 : K.lookup f2 = some ⟨oc2, od2, .func (PySem.W.fnOf "spaced_parts" "spaced_parts" (defArgs sSpaced) (defBody sSpaced) (defScope sSpaced) .none kV2 dc2 pm2 an2 cd2 ct2), sl2⟩) (c2 : PySem.W.codeIn K cd2 "spaced_parts" = true) (k2 : PySem.W.keepIn K (.ref f2) = true)
    (a3 : PySem.W.nsIn K mainGlobals "integer_text" = some (some (.ref f3))) (l3 : K.lookup f3 = some ⟨oc3, od3, .func (PySem.W.fnOf "integer_text" "integer_text" (defArgs sIT) (defBody sIT) (defScope sIT) .none kV3 dc3 pm3 an3 cd3 ct3), sl3⟩) (c3 : PySem.W.codeIn K cd3 "integer_text" = true) (k3 : PySem.W.keepIn K (.ref f3) = true)
    (a4 : PySem.W.nsIn K mainGlobals "read" = some (some (.ref f4))) (l4 : K.lookup f4 = some ⟨oc4, od4, .func (PySem.W.fnOf "read" "read" (defArgs sReadP) (defBody sReadP) (defScope sReadP) .none kV4 dc4 pm4 an4 cd4 ct4), sl4⟩) (c4 : PySem.W.codeIn K cd4 "read" = true) (k4 : PySem.W.keepIn K (.ref f4) = true)
    (a5 : PySem.W.nsIn K mainGlobals "loose_value" = some (some (.ref f5))) (l5 : K.lookup f5 = some ⟨oc5, od5, .func (PySem.W.fnOf "loose_value" "loose_value" (defArgs sLoose) (defBody sLoose) (defScope sLoose) .none kV5 dc5 pm5 an5 cd5 ct5), sl5⟩) (c5 : PySem.W.codeIn K cd5 "loose_value" = true) (k5 : PySem.W.keepIn K (.ref f5) = true)
    (a6 : PySem.W.nsIn K mainGlobals "word_or_integer" = some (some (.ref f6))) (l6 : K.lookup f6 = some ⟨oc6, od6, .func (PySem.W.fnOf "word_or_integer" "word_or_integer" (defArgs sWI) (defBody sWI) (defScope sWI) .none kV6 dc6 pm6 an6 cd6 ct6), sl6⟩) (c6 : PySem.W.codeIn K cd6 "word_or_integer" = true) (k6 : PySem.W.keepIn K (.ref f6) = true)
    (a7 : PySem.W.nsIn K mainGlobals "_law_box" = some (some (.ref f7))) (l7 : K.lookup f7 = some ⟨oc7, od7, .func (PySem.W.fnOf "_law_box" "_law_box" (defArgs sBox) (defBody sBox) (defScope sBox) .none kV7 dc7 pm7 an7 cd7 ct7), sl7⟩) (c7 : PySem.W.codeIn K cd7 "_law_box" = true) (k7 : PySem.W.keepIn K (.ref f7) = true)
    (a8 : PySem.W.nsIn K mainGlobals "_law_take" = some (some (.ref f8))) (l8 : K.lookup f8 = some ⟨oc8, od8, .func (PySem.W.fnOf "_law_take" "_law_take" (defArgs sTake) (defBody sTake) (defScope sTake) .none kV8 dc8 pm8 an8 cd8 ct8), sl8⟩) (c8 : PySem.W.codeIn K cd8 "_law_take" = true) (k8 : PySem.W.keepIn K (.ref f8) = true)
    (a9 : PySem.W.nsIn K mainGlobals "_law_word" = some (some (.ref f9))) (l9 : K.lookup f9 = some ⟨oc9, od9, .func (PySem.W.fnOf "_law_word" "_law_word" (defArgs sWord) (defBody sWord) (defScope sWord) .none kV9 dc9 pm9 an9 cd9 ct9), sl9⟩) (c9 : PySem.W.codeIn K cd9 "_law_word" = true) (k9 : PySem.W.keepIn K (.ref f9) = true)
    (a10 : PySem.W.nsIn K mainGlobals "_law_figures" = some (some (.ref f10))) (l10 : K.lookup f10 = some ⟨oc10, od10, .func (PySem.W.fnOf "_law_figures" "_law_figures" (defArgs sFig) (defBody sFig) (defScope sFig) .none kV10 dc10 pm10 an10 cd10 ct10), sl10⟩) (c10 : PySem.W.codeIn K cd10 "_law_figures" = true) (k10 : PySem.W.keepIn K (.ref f10) = true)
    (a11 : PySem.W.nsIn K mainGlobals "_law_number" = some (some (.ref f11))) (l11 : K.lookup f11 = some ⟨oc11, od11, .func (PySem.W.fnOf "_law_number" "_law_number" (defArgs sNum) (defBody sNum) (defScope sNum) .none kV11 dc11 pm11 an11 cd11 ct11), sl11⟩) (c11 : PySem.W.codeIn K cd11 "_law_number" = true) (k11 : PySem.W.keepIn K (.ref f11) = true)
    (a12 : PySem.W.nsIn K mainGlobals "_law_integer" = some (some (.ref f12))) (l12 : K.lookup f12 = some ⟨oc12, od12, .func (PySem.W.fnOf "_law_integer" "_law_integer" (defArgs sInt) (defBody sInt) (defScope sInt) .none kV12 dc12 pm12 an12 cd12 ct12), sl12⟩) (c12 : PySem.W.codeIn K cd12 "_law_integer" = true) (k12 : PySem.W.keepIn K (.ref f12) = true)
    (a13 : PySem.W.nsIn K mainGlobals "_law_sample" = some (some (.ref f13))) (l13 : K.lookup f13 = some ⟨oc13, od13, .func (PySem.W.fnOf "_law_sample" "_law_sample" (defArgs sSamp) (defBody sSamp) (defScope sSamp) .none kV13 dc13 pm13 an13 cd13 ct13), sl13⟩) (c13 : PySem.W.codeIn K cd13 "_law_sample" = true) (k13 : PySem.W.keepIn K (.ref f13) = true)
    (a14 : PySem.W.nsIn K mainGlobals "_law_plain" = some (some (.ref f14))) (l14 : K.lookup f14 = some ⟨oc14, od14, .func (PySem.W.fnOf "_law_plain" "_law_plain" (defArgs sPlain) (defBody sPlain) (defScope sPlain) .none kV14 dc14 pm14 an14 cd14 ct14), sl14⟩) (c14 : PySem.W.codeIn K cd14 "_law_plain" = true) (k14 : PySem.W.keepIn K (.ref f14) = true)
    (a15 : PySem.W.nsIn K mainGlobals "_law_nested" = some (some (.ref f15))) (l15 : K.lookup f15 = some ⟨oc15, od15, .func (PySem.W.fnOf "_law_nested" "_law_nested" (defArgs sNest) (defBody sNest) (defScope sNest) .none kV15 dc15 pm15 an15 cd15 ct15), sl15⟩) (c15 : PySem.W.codeIn K cd15 "_law_nested" = true) (k15 : PySem.W.keepIn K (.ref f15) = true)
    (a16 : PySem.W.nsIn K mainGlobals "_law_run" = some (some (.ref f16))) (l16 : K.lookup f16 = some ⟨oc16, od16, .func (PySem.W.fnOf "_law_run" "_law_run" (defArgs sRun) (defBody sRun) (defScope sRun) .none kV16 dc16 pm16 an16 cd16 ct16), sl16⟩) (c16 : PySem.W.codeIn K cd16 "_law_run" = true) (k16 : PySem.W.keepIn K (.ref f16) = true)
    (a17 : PySem.W.nsIn K mainGlobals "_law_item" = some (some (.ref f17))) (l17 : K.lookup f17 = some ⟨oc17, od17, .func (PySem.W.fnOf "_law_item" "_law_item" (defArgs sItem) (defBody sItem) (defScope sItem) .none kV17 dc17 pm17 an17 cd17 ct17), sl17⟩) (c17 : PySem.W.codeIn K cd17 "_law_item" = true) (k17 : PySem.W.keepIn K (.ref f17) = true)
    (a18 : PySem.W.nsIn K mainGlobals "_law_read" = some (some (.ref f18))) (l18 : K.lookup f18 = some ⟨oc18, od18, .func (PySem.W.fnOf "_law_read" "_law_read" (defArgs sReadL) (defBody sReadL) (defScope sReadL) .none kV18 dc18 pm18 an18 cd18 ct18), sl18⟩) (c18 : PySem.W.codeIn K cd18 "_law_read" = true) (k18 : PySem.W.keepIn K (.ref f18) = true)
    (a19 : PySem.W.nsIn K mainGlobals "_law_same" = some (some (.ref f19))) (l19 : K.lookup f19 = some ⟨oc19, od19, .func (PySem.W.fnOf "_law_same" "_law_same" (defArgs sSame) (defBody sSame) (defScope sSame) .none kV19 dc19 pm19 an19 cd19 ct19), sl19⟩) (c19 : PySem.W.codeIn K cd19 "_law_same" = true) (k19 : PySem.W.keepIn K (.ref f19) = true)
    (a20 : PySem.W.nsIn K mainGlobals "_law_asked" = some (some (.ref f20))) (l20 : K.lookup f20 = some ⟨oc20, od20, .func (PySem.W.fnOf "_law_asked" "_law_asked" (defArgs sAsked) (defBody sAsked) (defScope sAsked) .none kV20 dc20 pm20 an20 cd20 ct20), sl20⟩) (c20 : PySem.W.codeIn K cd20 "_law_asked" = true) (k20 : PySem.W.keepIn K (.ref f20) = true)
    (a21 : PySem.W.nsIn K mainGlobals "_law_spoilt" = some (some (.ref f21))) (l21 : K.lookup f21 = some ⟨oc21, od21, .func (PySem.W.fnOf "_law_spoilt" "_law_spoilt" (defArgs sSpoilt) (defBody sSpoilt) (defScope sSpoilt) .none kV21 dc21 pm21 an21 cd21 ct21), sl21⟩) (c21 : PySem.W.codeIn K cd21 "_law_spoilt" = true) (k21 : PySem.W.keepIn K (.ref f21) = true)
    (a22 : PySem.W.nsIn K mainGlobals "law" = some (some (.ref f22))) (l22 : K.lookup f22 = some ⟨oc22, od22, .func (PySem.W.fnOf "law" "law" (defArgs sLaw2) (defBody sLaw2) (defScope sLaw2) .none kV22 dc22 pm22 an22 cd22 ct22), sl22⟩) (c22 : PySem.W.codeIn K cd22 "law" = true) (k22 : PySem.W.keepIn K (.ref f22) = true)
    {B I : Addr} {t1 t2 t3 : Tok} (aB : PySem.W.nsIn K mainGlobals "BadText" = some (some (.ref B))) (aI : PySem.W.nsIn K mainGlobals "IsthmusError" = some (some (.ref I))) (xF : PySem.W.excIn K B [.type "ValueError", .type "Exception", .type "BaseException", .type "object"] "ValueError.__new__" = true) (kB : PySem.W.keepIn K (.ref B) = true) (sB : PySem.W.subIn K (.ref B) (.type "BaseException") = some true) (tB : PySem.W.typeIn K (.ref B) = some (.type "type")) (iB : PySem.W.isClsIn K B = true) (sS : PySem.W.subIn K (.ref B) (.ref B) = some true) (x1 : PySem.W.findIn K (.ref B) "__getattribute__" = some (some (.builtin "BaseException.__getattribute__"))) (x2 : PySem.W.findIn K (.ref B) "__getattr__" = some none) (x3 : PySem.W.hasDictIn K B = true) (x4 : PySem.W.findIn K (.ref B) "__class__" = some (some (.builtin "object.__class__"))) (x5 : PySem.W.specialIn K (.builtin "object.__class__") "__get__" = some (some (.builtin "getset_descriptor.__get__"))) (x6 : PySem.W.takesIn K (.builtin "object.__class__") = some true) (x7 : PySem.W.mroIn K B (.type "object") = some true) (i3 : PySem.W.isClsIn K I = true) (i4 : PySem.W.typeIn K (.ref I) = some (.type "type")) (i1 : PySem.W.subIn K (.ref B) (.ref I) = some true) (i2 : PySem.W.subIn K (.ref B) (.type "ValueError") = some true) (aR : PySem.W.nsIn K mainGlobals "ROW" = some (some (.int 18 t1))) (aL : PySem.W.nsIn K mainGlobals "ROW_LIMIT" = some (some (.int 1000000000000000000 t2))) (aF : PySem.W.nsIn K mainGlobals "FIGURES" = some (some (.str "0123456789" t3)))
    (z_range : PySem.W.nsIn K mainGlobals "range" = some none) (z_isinstance : PySem.W.nsIn K mainGlobals "isinstance" = some none) (z_str : PySem.W.nsIn K mainGlobals "str" = some none) (z_int : PySem.W.nsIn K mainGlobals "int" = some none) (z_len : PySem.W.nsIn K mainGlobals "len" = some none) (z_abs : PySem.W.nsIn K mainGlobals "abs" = some none) (z_min : PySem.W.nsIn K mainGlobals "min" = some none) (z_tuple : PySem.W.nsIn K mainGlobals "tuple" = some none) (z_bool : PySem.W.nsIn K mainGlobals "bool" = some none) (z_all : PySem.W.nsIn K mainGlobals "all" = some none) (z_ValueError : PySem.W.nsIn K mainGlobals "ValueError" = some none) (z_divmod : PySem.W.nsIn K mainGlobals "divmod" = some none) (z_reversed : PySem.W.nsIn K mainGlobals "reversed" = some none) :
    ∃ fd : FuncData, (∀ (s : Shared) (v : Value), BindsTo s fd ⟨[v], []⟩ [("script", v)]) ∧ ∀ base : Heap, K.In base → base.Ns mainGlobals mg → FnOk l.prog w K mg base CX0 82 fa fd ["script"] (spLaw2 K) := by
  have e := hfa.symm.trans (PySem.W.mg_of X G a22)
  cases e
  have F1 := fun_mk (st := sWrite) l1 c1 k1
  have b1 := F1.binds (ps := ["value"]) fun _ _ _ _ _ _ us hl => match us, hl with | [_], _ => rfl
  have g1 := PySem.W.mg_of X G a1
  have F2 := fun_mk (st := sSpaced) l2 c2 k2
  have b2 := F2.binds (ps := ["parts"]) fun _ _ _ _ _ _ us hl => match us, hl with | [_], _ => rfl
  have g2 := PySem.W.mg_of X G a2
  have F3 := fun_mk (st := sIT) l3 c3 k3
  have b3 := F3.binds (ps := ["number"]) fun _ _ _ _ _ _ us hl => match us, hl with | [_], _ => rfl
  have g3 := PySem.W.mg_of X G a3
  have F4 := fun_mk (st := sReadP) l4 c4 k4
  have b4 := F4.binds (ps := ["text"]) fun _ _ _ _ _ _ us hl => match us, hl with | [_], _ => rfl
  have g4 := PySem.W.mg_of X G a4
  have F5 := fun_mk (st := sLoose) l5 c5 k5
  have b5 := F5.binds (ps := ["pieces"]) fun _ _ _ _ _ _ us hl => match us, hl with | [_], _ => rfl
  have g5 := PySem.W.mg_of X G a5
  have F6 := fun_mk (st := sWI) l6 c6 k6
  have b6 := F6.binds (ps := ["piece"]) fun _ _ _ _ _ _ us hl => match us, hl with | [_], _ => rfl
  have g6 := PySem.W.mg_of X G a6
  have F7 := fun_mk (st := sBox) l7 c7 k7
  have b7 := F7.binds (ps := ["script", "at"]) fun _ _ _ _ _ _ us hl => match us, hl with | [_, _], _ => rfl
  have g7 := PySem.W.mg_of X G a7
  have F8 := fun_mk (st := sTake) l8 c8 k8
  have b8 := F8.binds (ps := ["box", "many"]) fun _ _ _ _ _ _ us hl => match us, hl with | [_, _], _ => rfl
  have g8 := PySem.W.mg_of X G a8
  have F9 := fun_mk (st := sWord) l9 c9 k9
  have b9 := F9.binds (ps := ["box"]) fun _ _ _ _ _ _ us hl => match us, hl with | [_], _ => rfl
  have g9 := PySem.W.mg_of X G a9
  have F10 := fun_mk (st := sFig) l10 c10 k10
  have b10 := F10.binds (ps := ["box"]) fun _ _ _ _ _ _ us hl => match us, hl with | [_], _ => rfl
  have g10 := PySem.W.mg_of X G a10
  have F11 := fun_mk (st := sNum) l11 c11 k11
  have b11 := F11.binds (ps := ["figures"]) fun _ _ _ _ _ _ us hl => match us, hl with | [_], _ => rfl
  have g11 := PySem.W.mg_of X G a11
  have F12 := fun_mk (st := sInt) l12 c12 k12
  have b12 := F12.binds (ps := ["box"]) fun _ _ _ _ _ _ us hl => match us, hl with | [_], _ => rfl
  have g12 := PySem.W.mg_of X G a12
  have F13 := fun_mk (st := sSamp) l13 c13 k13
  have b13 := F13.binds (ps := ["box"]) fun _ _ _ _ _ _ us hl => match us, hl with | [_], _ => rfl
  have g13 := PySem.W.mg_of X G a13
  have F14 := fun_mk (st := sPlain) l14 c14 k14
  have b14 := F14.binds (ps := ["value"]) fun _ _ _ _ _ _ us hl => match us, hl with | [_], _ => rfl
  have g14 := PySem.W.mg_of X G a14
  have F15 := fun_mk (st := sNest) l15 c15 k15
  have b15 := F15.binds (ps := ["box", "depth"]) fun _ _ _ _ _ _ us hl => match us, hl with | [_, _], _ => rfl
  have g15 := PySem.W.mg_of X G a15
  have F16 := fun_mk (st := sRun) l16 c16 k16
  have b16 := F16.binds (ps := ["text", "at", "signs"]) fun _ _ _ _ _ _ us hl => match us, hl with | [_, _, _], _ => rfl
  have g16 := PySem.W.mg_of X G a16
  have F17 := fun_mk (st := sItem) l17 c17 k17
  have b17 := F17.binds (ps := ["text", "at"]) fun _ _ _ _ _ _ us hl => match us, hl with | [_, _], _ => rfl
  have g17 := PySem.W.mg_of X G a17
  have F18 := fun_mk (st := sReadL) l18 c18 k18
  have b18 := F18.binds (ps := ["text"]) fun _ _ _ _ _ _ us hl => match us, hl with | [_], _ => rfl
  have g18 := PySem.W.mg_of X G a18
  have F19 := fun_mk (st := sSame) l19 c19 k19
  have b19 := F19.binds (ps := ["one", "two"]) fun _ _ _ _ _ _ us hl => match us, hl with | [_, _], _ => rfl
  have g19 := PySem.W.mg_of X G a19
  have F20 := fun_mk (st := sAsked) l20 c20 k20
  have b20 := F20.binds (ps := ["text", "due"]) fun _ _ _ _ _ _ us hl => match us, hl with | [_, _], _ => rfl
  have g20 := PySem.W.mg_of X G a20
  have F21 := fun_mk (st := sSpoilt) l21 c21 k21
  have b21 := F21.binds (ps := ["box", "text"]) fun _ _ _ _ _ _ us hl => match us, hl with | [_, _], _ => rfl
  have g21 := PySem.W.mg_of X G a21
  have F22 := fun_mk (st := sLaw2) l22 c22 k22
  have g22 := PySem.W.mg_of X G a22
  have m_range := PySem.W.mg_none_of X G z_range
  have m_isinstance := PySem.W.mg_none_of X G z_isinstance
  have m_str := PySem.W.mg_none_of X G z_str
  have m_int := PySem.W.mg_none_of X G z_int
  have m_len := PySem.W.mg_none_of X G z_len
  have m_abs := PySem.W.mg_none_of X G z_abs
  have m_min := PySem.W.mg_none_of X G z_min
  have m_tuple := PySem.W.mg_none_of X G z_tuple
  have m_bool := PySem.W.mg_none_of X G z_bool
  have m_all := PySem.W.mg_none_of X G z_all
  have m_ValueError := PySem.W.mg_none_of X G z_ValueError
  have m_divmod := PySem.W.mg_none_of X G z_divmod
  have m_reversed := PySem.W.mg_none_of X G z_reversed
  have CB : Bad K mg B I := ⟨PySem.W.mg_of X G aB, PySem.W.mg_of X G aI, xF, kB, sB, tB, ⟨x1, x2, sB, x3, x4, x5, x6, x7⟩, exm_self sB iB tB sS, kit_own i3 i4 i1, kit_bltn rfl i2⟩
  exact ⟨PySem.W.fnOf "law" "law" (defArgs sLaw2) (defBody sLaw2) (defScope sLaw2) .none kV22 dc22 pm22 an22 cd22 ct22, fun s v => .of_eq rfl, fun base _ _ => whole CB (PySem.W.mg_of X G aR) (PySem.W.mg_of X G aL) (PySem.W.mg_of X G aF) F1 b1 g1 F2 b2 g2 F3 b3 g3 F4 b4 g4 F5 b5 g5 F6 b6 g6 F7 b7 g7 F8 b8 g8 F9 b9 g9 F10 b10 g10 F11 b11 g11 F12 b12 g12 F13 b13 g13 F14 b14 g14 F15 b15 g15 F16 b16 g16 F17 b17 g17 F18 b18 g18 F19 b19 g19 F20 b20 g20 F21 b21 g21 F22 m_range m_isinstance m_str m_int m_len m_abs m_min m_tuple m_bool m_all m_ValueError m_divmod m_reversed⟩
end KT
open PySem PySem.W PyProof.Rows
set_option maxHeartbeats 0 in
theorem PySem.Challenge.cw_isthmus_k02_texts_read_back_holds : PySem.Challenge.rw_isthmus_k02_texts_read_back.Holds := by
  w_on; o_law; k_head; (case hw => w_witness2)
  k_fill
  refine L2.walk_of (l := PySem.Challenge.rw_isthmus_k02_texts_read_back) (n := 63) (k := 82) (x := "script") (CX := fun _ => L2.CX0) (sp := fun w => KT.spLaw2 _) rfl (by decide) rfl ⟨rfl, by decide, by decide⟩ (fun w h Y => PySem.W.kIn_of Y) ?F (fun _ _ a ns hl _ hS => ⟨a, ns, rfl, hS, fun _ => rfl⟩) (fun _ _ _ _ _ h => h)
  case F =>
    intro w mg fa h KX G hmg
    refine' KT.all_mk KX G hmg ?a1 ?l1 ?c1 ?k1 ?a2 ?l2 ?c2 ?k2 ?a3 ?l3 ?c3 ?k3 ?a4 ?l4 ?c4 ?k4 ?a5 ?l5 ?c5 ?k5 ?a6 ?l6 ?c6 ?k6 ?a7 ?l7 ?c7 ?k7 ?a8 ?l8 ?c8 ?k8 ?a9 ?l9 ?c9 ?k9 ?a10 ?l10 ?c10 ?k10 ?a11 ?l11 ?c11 ?k11 ?a12 ?l12 ?c12 ?k12 ?a13 ?l13 ?c13 ?k13 ?a14 ?l14 ?c14 ?k14 ?a15 ?l15 ?c15 ?k15 ?a16 ?l16 ?c16 ?k16 ?a17 ?l17 ?c17 ?k17 ?a18 ?l18 ?c18 ?k18 ?a19 ?l19 ?c19 ?k19 ?a20 ?l20 ?c20 ?k20 ?a21 ?l21 ?c21 ?k21 ?a22 ?l22 ?c22 ?k22 ?aB ?aI ?xF ?kB ?sB ?tB ?iB ?sS ?x1 ?x2 ?x3 ?x4 ?x5 ?x6 ?x7 ?i3 ?i4 ?i1 ?i2 ?aR ?aL ?aF ?z_range ?z_isinstance ?z_str ?z_int ?z_len ?z_abs ?z_min ?z_tuple ?z_bool ?z_all ?z_ValueError ?z_divmod ?z_reversed
    (case a1 => k_is); (case l1 => k_is); (case c1 => k_is); (case k1 => k_is); (case a2 => k_is); (case l2 => k_is); (case c2 => k_is); (case k2 => k_is); (case a3 => k_is); (case l3 => k_is); (case c3 => k_is); (case k3 => k_is); (case a4 => k_is); (case l4 => k_is); (case c4 => k_is); (case k4 => k_is); (case a5 => k_is); (case l5 => k_is); (case c5 => k_is); (case k5 => k_is); (case a6 => k_is); (case l6 => k_is); (case c6 => k_is); (case k6 => k_is); (case a7 => k_is); (case l7 => k_is); (case c7 => k_is); (case k7 => k_is); (case a8 => k_is); (case l8 => k_is); (case c8 => k_is); (case k8 => k_is); (case a9 => k_is); (case l9 => k_is); (case c9 => k_is); (case k9 => k_is); (case a10 => k_is); (case l10 => k_is); (case c10 => k_is); (case k10 => k_is); (case a11 => k_is); (case l11 => k_is); (case c11 => k_is); (case k11 => k_is); (case a12 => k_is); (case l12 => k_is); (case c12 => k_is); (case k12 => k_is); (case a13 => k_is); (case l13 => k_is); (case c13 => k_is); (case k13 => k_is); (case a14 => k_is); (case l14 => k_is); (case c14 => k_is); (case k14 => k_is); (case a15 => k_is); (case l15 => k_is); (case c15 => k_is); (case k15 => k_is); (case a16 => k_is); (case l16 => k_is); (case c16 => k_is); (case k16 => k_is); (case a17 => k_is); (case l17 => k_is); (case c17 => k_is); (case k17 => k_is); (case a18 => k_is); (case l18 => k_is); (case c18 => k_is); (case k18 => k_is); (case a19 => k_is); (case l19 => k_is); (case c19 => k_is); (case k19 => k_is); (case a20 => k_is); (case l20 => k_is); (case c20 => k_is); (case k20 => k_is); (case a21 => k_is); (case l21 => k_is); (case c21 => k_is); (case k21 => k_is); (case a22 => k_is); (case l22 => k_is); (case c22 => k_is); (case k22 => k_is); (case aB => k_is); (case aI => k_is); (case xF => k_exc); (case kB => k_is); (case sB => k_is); (case tB => k_is); (case iB => k_is); (case sS => first | rfl | k_is); (case x1 => k_is); (case x2 => k_is); (case x3 => k_is); (case x4 => k_is); (case x5 => k_is); (case x6 => k_is); (case x7 => k_is); (case i3 => k_is); (case i4 => k_is); (case i1 => k_is); (case i2 => k_is); (case aR => k_is); (case aL => k_is); (case aF => k_is); (case z_range => k_is); (case z_isinstance => k_is); (case z_str => k_is); (case z_int => k_is); (case z_len => k_is); (case z_abs => k_is); (case z_min => k_is); (case z_tuple => k_is); (case z_bool => k_is); (case z_all => k_is); (case z_ValueError => k_is); (case z_divmod => k_is); (case z_reversed => k_is)
