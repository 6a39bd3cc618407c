import PyProof.Rows.All
import Wide.All
import OpenK.AllK
import Wide.FinOn
import HandS.ForMost
import HandS.IsInst
import HandS.ExcInit
import HandS.ExcValue
import HandS.ExcField
import HandS.ExcIs
import HandS.Evl
import HandS.ForExc
import HandS.TryMany
import HandS.Wide
import HandS.Gcd
import HandS.Codes
import HandS.StrMore
import PyProof.TupleOfStr
import HandS.FStr
import HandS.WideBits
import PyProof.StrReplace2
import HandS.Lambda
import HandS.OwnEq
import KE.KEqDeep
import HandS.Zip
import HandS.Walk
import HandS.EndTab
import HandS.TupMul
import HandS.Flow
import KE.KLam
import KE.KNestM
import PySem.Challenge.RW_allscales_k20_whole_amounts
set_option Elab.async false
set_option maxRecDepth 100000
/-! The pen that the laws draw from: a dict with five entries over a copy of the script. -/
namespace AL
open PySem L2

/-- all but what stands at p stays -/
def Keep (p : Addr) (H H' : Hp) : Prop := ∀ b o, b ≠ p → H b = some o → H' b = some o
theorem Keep.refl (p : Addr) (H : Hp) : Keep p H H := fun _ _ _ h => h
theorem Keep.trans {p : Addr} {H H1 H2 : Hp} (a : Keep p H H1) (b : Keep p H1 H2) : Keep p H H2 := fun c o n h => b c o n (a c o n h)
theorem Keep.upd {p : Addr} {H : Hp} {o : HO} : Keep p H (upd H p o) := fun b u n e => by rw [upd_ne n]; exact e
theorem Keep.new {p q : Addr} {H : Hp} {o : HO} (h : H q = none) : Keep p H (L2.upd H q o) := fun b u _ e => by
  rw [upd_ne (ne_of_none e h)]; exact e

def penK (c : Addr) (i d n f : Int) : List (Key × V) :=
  [(.inr "cells", .ref c), (.inr "at", .int i), (.inr "digits", .int d), (.inr "count", .int n), (.inr "fold", .int f)]
section
variable {c : Addr} {i d n f x : Int}
theorem pen_cells : valV (penK c i d n f) (Sum.inr "cells" : Key) = some (.ref c) := by kernel_rfl
theorem pen_at : valV (penK c i d n f) (Sum.inr "at" : Key) = some (.int i) := by kernel_rfl
theorem pen_digits : valV (penK c i d n f) (Sum.inr "digits" : Key) = some (.int d) := by kernel_rfl
theorem pen_count : valV (penK c i d n f) (Sum.inr "count" : Key) = some (.int n) := by kernel_rfl
theorem pen_fold : valV (penK c i d n f) (Sum.inr "fold" : Key) = some (.int f) := by kernel_rfl
theorem put_at : putK (penK c i d n f) (Sum.inr "at" : Key) (.int x) = penK c x d n f := by kernel_rfl
theorem put_digits : putK (penK c i d n f) (Sum.inr "digits" : Key) (.int x) = penK c i x n f := by kernel_rfl
theorem put_count : putK (penK c i d n f) (Sum.inr "count" : Key) (.int x) = penK c i d x f := by kernel_rfl
theorem put_fold : putK (penK c i d n f) (Sum.inr "fold" : Key) (.int x) = penK c i d n x := by kernel_rfl
theorem pen_len : (penK c i d n f).length = 5 := rfl
end
/-- a pen stands at p, its cells at c; it has drawn at most m times -/
structure Pen (H : Hp) (p c : Addr) (m : Nat) : Prop where
  ex : ∃ (ns : List Int) (i d n f : Int), H p = some (.dK (penK c i d n f)) ∧ H c = some (.lst (ns.map V.int)) ∧ 0 ≤ i ∧ 0 ≤ d ∧ 0 ≤ n ∧ n ≤ (m : Int) ∧ 0 ≤ f ∧ f < 2147483648
theorem Pen.mono {H : Hp} {p c : Addr} {m m' : Nat} (h : Pen H p c m) (l : m ≤ m') : Pen H p c m' := by
  obtain ⟨ns, i, d, n, f, h1, h2, h3, h4, h5, h6, h7, h8⟩ := h.ex
  exact ⟨ns, i, d, n, f, h1, h2, h3, h4, h5, by omega, h7, h8⟩
theorem Pen.keep {H H' : Hp} {p c : Addr} {m : Nat} (h : Pen H p c m) (k1 : ∀ o, H p = some o → H' p = some o) (k2 : ∀ o, H c = some o → H' c = some o) : Pen H' p c m := by
  obtain ⟨ns, i, d, n, f, h1, h2, hr⟩ := h.ex
  exact ⟨ns, i, d, n, f, k1 _ h1, k2 _ h2, hr⟩
theorem Pen.same {H H' : Hp} {p c : Addr} {m : Nat} (h : Pen H p c m) (k : Same H H') : Pen H' p c m := h.keep (fun o e => k _ o e) fun o e => k _ o e
theorem Pen.dict {H : Hp} {p c : Addr} {m : Nat} (h : Pen H p c m) : ∃ kvs, H p = some (.dK kvs) := by
  obtain ⟨ns, i, d, n, f, h1, _⟩ := h.ex
  exact ⟨_, h1⟩
/-- what is no dict and stands, stays -/
theorem Keep.rd {p a : Addr} {H H' : Hp} {kvs : List (Key × V)} {u : HO} (k : Keep p H H') (hp : H p = some (.dK kvs)) (h : Rd H a u) (hu : ∀ l, u ≠ .dK l) : Rd H' a u := by
  rcases h with h | ⟨o, h⟩
  · exact .inl (k a _ (fun z => by rw [z, hp] at h; exact hu _ (Option.some.inj h).symm) h)
  · exact .inr ⟨o, k a _ (fun z => by rw [z, hp] at h; cases h) h⟩
theorem Keep.seqL {K : PySem.W.Frag} {p c a : Addr} {m : Nat} {H H' : Hp} {xs : List V} (k : Keep p H H') (hp : Pen H p c m) (h : SqL K H a xs) : SqL K H' a xs := by
  obtain ⟨kvs, hk⟩ := hp.dict
  rcases h with h | h
  · exact .inl (k.rd hk h (fun l z => by cases z))
  · exact .inr h
theorem Keep.seqT {K : PySem.W.Frag} {p c a : Addr} {m : Nat} {H H' : Hp} {xs : List V} (k : Keep p H H') (hp : Pen H p c m) (h : SqT K H a xs) : SqT K H' a xs := by
  obtain ⟨kvs, hk⟩ := hp.dict
  rcases h with h | h
  · exact .inl (k.rd hk h (fun l z => by cases z))
  · exact .inr h
theorem Keep.at {p c a : Addr} {m : Nat} {H H' : Hp} {o : HO} (k : Keep p H H') (hp : Pen H p c m) (h : H a = some o) (hu : ∀ l, o ≠ .dK l) : H' a = some o := by
  obtain ⟨kvs, hk⟩ := hp.dict
  exact k a _ (fun z => by rw [z, hk] at h; exact hu _ (Option.some.inj h).symm) h
theorem Keep.free {p c a : Addr} {m : Nat} {H H' : Hp} (k : Keep p H H') (hp : Pen H p c m) (hp' : Pen H' p c m) (h : H' a = none) : H a = none := by
  cases e : H a with
  | none => rfl
  | some o =>
    by_cases z : a = p
    · obtain ⟨kvs, hk⟩ := hp'.dict
      rw [z, hk] at h; cases h
    · rw [k a o z e] at h; cases h

/-- a def of the module's top, as it stands behind the top -/
structure DefAt (K : PySem.W.Frag) (mg : Str → Option Value) (x : Str) (st : Stmt) (ps : List Str) (f : Addr) (fd : FuncData) : Prop where
  F : Fun K x x st f fd
  m : mg x = some (.ref f)
  b : Binds K fd ps []
/-! ### the promises -/
/-- _law_pen(script) -/
def spPen (K : PySem.W.Frag) : Sp := fun vs H Q _ => ∃ (a : Addr) (ns : List Int), vs = [.ref a] ∧ SqL K H a (ns.map V.int) ∧ ∀ (p c : Addr) (H' : Hp), H p = none → H c = none → p ≠ c → Pen H' p c 0 → Same H H' → Q (.ref p) H'
/-- _law_draw(pen, many) -/
def spDraw : Sp := fun vs H Q _ => ∃ (p c : Addr) (m : Nat) (k : Int), vs = [.ref p, .int k] ∧ Pen H p c m ∧ m < 1000000000 ∧ 0 < k ∧ k < 1000000000 ∧
  ∀ (r : Int) (H' : Hp), 0 ≤ r → r < k → Pen H' p c (m + 1) → Keep p H H' → Q (.int r) H'
/-- _law_pick(pen, some), some a list -/
def spPick (K : PySem.W.Frag) : Sp := fun vs H Q _ => ∃ (p c a : Addr) (m : Nat) (xs : List V), vs = [.ref p, .ref a] ∧ Pen H p c m ∧ m < 1000000000 ∧ SqL K H a xs ∧ 0 < xs.length ∧ xs.length < 1000000000 ∧
  ∀ (j : Nat) (x : V) (H' : Hp), xs[j]? = some x → Pen H' p c (m + 1) → Keep p H H' → Q x H'
end AL
namespace AL
open PySem L2
theorem dget {H : Hp} {a : Addr} {kvs : List (Key × V)} {k : Key} {v : V} (h : H a = some (.dK kvs)) (e : valV kvs k = some v) : DGet H a (kV k) (some v) := by
  rw [← e]; exact DGet.k h
theorem dput {H : Hp} {a : Addr} {kvs kvs' : List (Key × V)} {k : Key} {v : V} (h : H a = some (.dK kvs)) (hl : kvs.length < sizeLine) (e : putK kvs k v = kvs') : DPut H a (kV k) v (upd H a (.dK kvs')) := by
  rw [← e]; exact DPut.k h hl
theorem fmod_in {a b : Int} (h : 0 < b) : 0 ≤ a.fmod b ∧ a.fmod b < b := by
  rw [Int.fmod_eq_emod_of_nonneg a (Int.le_of_lt h)]
  exact ⟨Int.emod_nonneg _ (by omega), Int.emod_lt_of_pos _ h⟩
theorem fdiv_nn {a b : Int} (ha : 0 ≤ a) (h : 0 < b) : 0 ≤ a.fdiv b := by
  rw [Int.fdiv_eq_ediv_of_nonneg a (Int.le_of_lt h)]
  exact Int.ediv_nonneg ha (Int.le_of_lt h)
theorem map_int {ns : List Int} {i : Nat} {y : V} (hi : (ns.map V.int)[i]? = some y) : ∃ z, ns[i]? = some z ∧ y = V.int z := by
  rw [List.getElem?_map] at hi
  cases e : ns[i]? with
  | none => rw [e] at hi; cases hi
  | some z => rw [e] at hi; exact ⟨z, rfl, (Option.some.inj hi).symm⟩
theorem Same.new {H : Hp} {p : Addr} {o : HO} (h : H p = none) : Same H (upd H p o) := fun b u e => by
  rw [upd_ne (ne_of_none e h)]; exact e
end AL
namespace AL
open PySem L2
/-- the built-in names that the top leaves alone -/
def bltNames : List Str := ["abs", "all", "any", "bool", "dict", "enumerate", "int", "isinstance", "len", "list", "max", "min", "range", "repr", "reversed", "set", "sorted", "str", "sum", "tuple", "zip"]
structure Blt (mg : Str → Option Value) : Prop where
  abs_ : mg "abs" = none
  all_ : mg "all" = none
  any_ : mg "any" = none
  bool_ : mg "bool" = none
  dict_ : mg "dict" = none
  enumerate_ : mg "enumerate" = none
  int_ : mg "int" = none
  isinstance_ : mg "isinstance" = none
  len_ : mg "len" = none
  list_ : mg "list" = none
  max_ : mg "max" = none
  min_ : mg "min" = none
  range_ : mg "range" = none
  repr_ : mg "repr" = none
  reversed_ : mg "reversed" = none
  set_ : mg "set" = none
  sorted_ : mg "sorted" = none
  str_ : mg "str" = none
  sum_ : mg "sum" = none
  tuple_ : mg "tuple" = none
  zip_ : mg "zip" = none
def bltB (K : PySem.W.Frag) : Bool := bltNames.all fun x => decide (PySem.W.nsIn K mainGlobals x = some none)
theorem blt_of {K : PySem.W.Frag} {h : Heap} {mg : Str → Option Value} (X : K.In h) (G : h.Ns mainGlobals mg) (b : bltB K = true) : Blt mg := by
  unfold bltB at b
  have all : ∀ x ∈ bltNames, mg x = none := fun x hx => PySem.W.mg_none_of X G (of_decide_eq_true (List.all_eq_true.mp b x hx))
  exact ⟨all _ (by simp [bltNames]), all _ (by simp [bltNames]), all _ (by simp [bltNames]), all _ (by simp [bltNames]), all _ (by simp [bltNames]), all _ (by simp [bltNames]), all _ (by simp [bltNames]), all _ (by simp [bltNames]), all _ (by simp [bltNames]), all _ (by simp [bltNames]), all _ (by simp [bltNames]), all _ (by simp [bltNames]), all _ (by simp [bltNames]), all _ (by simp [bltNames]), all _ (by simp [bltNames]), all _ (by simp [bltNames]), all _ (by simp [bltNames]), all _ (by simp [bltNames]), all _ (by simp [bltNames]), all _ (by simp [bltNames]), all _ (by simp [bltNames])⟩
end AL
set_option Elab.async false
set_option maxRecDepth 100000
namespace AL
open PySem L2 PySem.NumText
theorem digitsVal_app (a b : List Nat) : digitsVal (a ++ b) = digitsVal a * 10 ^ b.length + digitsVal b := by
  have key : ∀ (n : Nat) (b : List Nat), b.length = n → digitsVal (a ++ b) = digitsVal a * 10 ^ b.length + digitsVal b := by
    intro n
    induction n with
    | zero =>
      intro b hb
      have : b = [] := List.length_eq_zero_iff.mp hb
      subst this
      simp [digitsVal]
    | succ n ih =>
      intro b hb
      have hne : b ≠ [] := fun z => by rw [z] at hb; cases hb
      obtain ⟨i, c, rfl⟩ : ∃ i c, b = i ++ [c] := ⟨b.dropLast, b.getLast hne, (List.dropLast_concat_getLast hne).symm⟩
      have hi : i.length = n := by simpa using hb
      rw [← List.append_assoc, digitsVal_snoc, ih i hi, digitsVal_snoc, List.length_append, List.length_singleton, Nat.pow_succ, Nat.add_mul, Nat.mul_assoc]
      omega
  exact key _ b rfl
theorem digitsVal_lt : ∀ (n : Nat) (b : List Nat), b.length = n → AllDigits b → digitsVal b < 10 ^ n
  | 0, b, hl, _ => by
    have : b = [] := List.length_eq_zero_iff.mp hl
    subst this; decide
  | n + 1, b, hl, h => by
    cases b with
    | nil => simp at hl
    | cons c b =>
      have hc := h.head
      have ih := digitsVal_lt n b (by simpa using hl) h.tail
      have e := digitsVal_app [c] b
      rw [List.singleton_append] at e
      have e1 : digitsVal [c] = c - 48 := by show 0 * 10 + (c - 48) = c - 48; omega
      have hl' : b.length = n := by simpa using hl
      rw [e, e1, hl', Nat.pow_succ]
      have : (c - 48) * 10 ^ n ≤ 9 * 10 ^ n := Nat.mul_le_mul_right _ (by omega)
      omega
/-- the last k signs of a number's text -/
theorem last_digits {n k : Nat} (hk : 0 < k) (hl : (TL.numL n).length ≤ 640) :
    (cutS (Str.ofString (toString ((n : Nat) : Int))) (some (-(k : Int))) none).length ≤ 640 ∧
    intText? (cutS (Str.ofString (toString ((n : Nat) : Int))) (some (-(k : Int))) none) = some ((n % 10 ^ k : Nat) : Int) := by
  have htl : (Str.ofString (toString ((n : Nat) : Int))).cps.toList = TL.numL n := TL.tl_num n
  have hlen : (Str.ofString (toString ((n : Nat) : Int))).length = (TL.numL n).length := by rw [TL.len_tl]; exact congrArg List.length (TL.tl_num n)
  have e : (cutS (Str.ofString (toString ((n : Nat) : Int))) (some (-(k : Int))) none).cps.toList = (TL.numL n).drop ((TL.numL n).length - k) := by
    unfold cutS
    rw [htl, hlen]
    have h1 : HT.sIx (TL.numL n).length 0 (some (-(k : Int))) = (TL.numL n).length - k := by
      show (if (-(k : Int)) < 0 then ((-(k : Int)) + ((TL.numL n).length : Int)).toNat else _) = _
      rw [if_pos (by omega)]
      omega
    have h2 : HT.sIx (TL.numL n).length (TL.numL n).length none = (TL.numL n).length := by
      unfold HT.sIx
      simp
    rw [h1, h2]
    simp
    apply List.take_of_length_le
    simp
  have hd := TL.numL_digits n
  have hne := TL.numL_ne n
  have hv := TL.numL_val n
  generalize TL.numL n = l at *
  have hl0 : 0 < l.length := List.length_pos_iff.mpr hne
  have len : (cutS (Str.ofString (toString ((n : Nat) : Int))) (some (-(k : Int))) none).length = (l.drop (l.length - k)).length := by
    rw [← e]; exact Array.length_toList.symm
  have hle : (l.drop (l.length - k)).length ≤ k := by rw [List.length_drop]; omega
  have hdd : AllDigits (l.drop (l.length - k)) := fun c hc => hd c (List.mem_of_mem_drop hc)
  refine ⟨by rw [len, List.length_drop]; omega, ?_⟩
  rw [intText_digits (by rw [e]; exact hdd) (by rw [e]; intro z; have := congrArg List.length z; rw [List.length_drop] at this; simp at this; omega) (by rw [len, List.length_drop]; omega), e]
  congr 2
  have hap := digitsVal_app (l.take (l.length - k)) (l.drop (l.length - k))
  rw [List.take_append_drop, hv] at hap
  have hlt := digitsVal_lt _ _ rfl hdd
  by_cases hkl : k ≤ l.length
  · have : (l.drop (l.length - k)).length = k := by rw [List.length_drop]; omega
    rw [this] at hap hlt
    rw [hap, Nat.mul_comm, Nat.mul_add_mod, Nat.mod_eq_of_lt hlt]
  · have z : l.length - k = 0 := by omega
    rw [z] at hap hlt ⊢
    simp [digitsVal] at hap
    have : n < 10 ^ k := Nat.lt_of_lt_of_le (by rw [List.drop_zero] at hlt; rw [← hv]; exact hlt) (Nat.pow_le_pow_right (by decide) (by omega))
    rw [List.drop_zero, hv, Nat.mod_eq_of_lt this]
end AL
namespace AL
open PySem L2 PySem.NumText
theorem log2_small {n k : Nat} (hk : 0 < k) (h : n < 2 ^ k) : n.log2 < k := by
  by_cases z : n = 0
  · subst z; simpa using hk
  · exact (Nat.log2_lt z).mpr h
theorem pow402 : (10 : Nat) ^ 402 < 2 ^ 1920 := by decide +kernel
theorem thousand (i : Nat) : (1000 : Nat) ^ i = 10 ^ (3 * i) := by rw [Nat.pow_mul]
/-- _law_big(pen, figures) -/
def spBig : Sp := fun vs H Q _ => ∃ (p c : Addr) (m : Nat) (k : Nat), vs = [.ref p, .int (k : Int)] ∧ Pen H p c m ∧ m < 900000000 ∧ 0 < k ∧ k ≤ 400 ∧
  ∀ (r : Nat) (H' : Hp), r < 10 ^ k → Pen H' p c (m + 200) → Keep p H H' → Q (.int (r : Int)) H'
/-- _law_name(pen, used), used a new empty list -/
def spName0 : Sp := fun vs H Q _ => ∃ (p c a : Addr) (m : Nat), vs = [.ref p, .ref a] ∧ Pen H p c m ∧ a ≠ c ∧ m < 900000000 ∧ H a = some (.lst []) ∧
  ∀ (z : Str) (H' : Hp), z.length ≤ 8 → (∀ c ∈ z.cps.toList, c < 128) → Pen H' p c (m + 200) → Keep p (upd H a (.lst [.str z])) H' → Q (.str z) H'
theorem app_tl {z : Str} {c : Nat} : (z ++ (⟨#[c]⟩ : Str)).cps.toList = z.cps.toList ++ [c] := by
  show (z.cps ++ #[c]).toList = _
  rw [Array.toList_append]
theorem pick_of {xs : List V} {P : V → Prop} (h : ∀ x ∈ xs, P x) {j : Nat} {x : V} (e : xs[j]? = some x) : P x := h x (List.mem_of_getElem? e)
end AL
set_option Elab.async false
set_option maxRecDepth 100000
set_option maxHeartbeats 2000000
/-! Defs that ask repr: their promises hold where no repr is under way. -/
namespace AL
open PySem PySem.Spec PyProof.Rows L2

/-- a def's promise, kept wherever no guard stands around -/
structure FnG (P : Program) (w : World) (K : PySem.W.Frag) (mg : Str → Option Value) (base : Heap) (CX : CXT) (k : Nat) (f : Addr) (fd : FuncData) (ps : List Str) (sp : Sp) : Prop where
  len : ∀ xs H Q E, sp xs H Q E → xs.length = ps.length
  run : ∀ (A : Around) (ol : List Env) (s : Shared) (H : Hp) (ar : Args) (us : List Value) (xs : List V) (Q : VK) (E : XK), A.guards = some [] → Room k A → Env0 P w K mg base A ol s H →
    BindsTo s fd ar (ps.zip us) → Vals xs us → sp xs H Q E → codeAny (model P w) A (.call (.ref f) ar) (CR CX ol P w H s Q E) s

theorem FnG.of {P : Program} {w : World} {K : PySem.W.Frag} {mg : Str → Option Value} {base : Heap} {CX : CXT} {k : Nat} {f : Addr} {fd : FuncData} {ps : List Str} {sp : Sp}
    (F : FnOk P w K mg base CX k f fd ps sp) : FnG P w K mg base CX k f fd ps sp :=
  ⟨F.len, fun A ol s H ar us xs Q E _ r e b v h => F.run A ol s H ar us xs Q E r e b v h⟩

/-- a def of the text, by its body -/
theorem okGX {P : Program} {w : World} {K : PySem.W.Frag} {mg : Str → Option Value} {base : Heap} {x qual : Str} {st : Stmt} {f : Addr} {fd : FuncData} {N ps : List Str} {CX : CXT} {k : Nat} {sp : Sp}
    (F : Fun K x qual st f fd) (S : FnScope N ps (defScope st)) (len : ∀ xs H Q E, sp xs H Q E → xs.length = ps.length)
    (body : ∀ (cv : Value) (A : Around) (ol : List Env) (s : Shared) (H : Hp) (xs : List V) (Q : VK) (E : XK), A.guards = some [] → Room k (A.deeper (envOfC qual (defScope st) s.heap.objs.size f cv)) →
      sp xs H Q E → ∃ t, PSs (cxOf CX P w K mg base N qual (defScope st) f cv A ol s H E) (defBody st) t ∧ t { nx := fun _ H' => Q .non H', rt := Q } (start N xs) H) :
    FnG P w K mg base CX (k + 1) f fd ps sp := by
  obtain ⟨c0, d0, kw0, dc0, pm0, an0, cv, ct0, sl0, efd, look, code⟩ := F.ex
  subst efd
  constructor
  · exact len
  · intro A ol s H ar us xs Q E gd room e0 bd vals wish
    have here : K.In s.heap := e0.mod.kin.keeps fun b o z => (e0.bs b o z).1
    have free : s.heap.NoLimit := e0.mod.nolimit.keeps fun b o z => (e0.bs b o z).1
    have kinds : ∀ y ∈ ps.zip us, (defScope st).names.lookup y.1 = some .local ∨ ((defScope st).names.lookup y.1 = some .cell ∧ ((cellsFrom (s.heap.objs.size + 1) (defScope st).names []).lookup y.1).isSome = true) := by
      rintro ⟨n, v⟩ hy
      cases S.par n (List.of_mem_zip hy).1 with
      | inl q => exact .inl q
      | inr q => exact .inr ⟨q, PySem.W.cellsFrom_some _ _ _ (.inl q)⟩
    refine codeAny_call_function room.depth (here _ _ look) rfl S.co S.gen rfl (PySem.W.codeRec_of here code) (bd _ _ _ _ (wpAny_newFunctionEnv_cells S.kind kinds fun env hv s1 ic => ?_))
    subst hv
    refine ⟨free.keeps ic.toInCall.keep, codeAny_func ?_⟩
    obtain ⟨t, run, rd⟩ := body cv A ol s H xs Q E gd (room.deeper _) wish
    have I0 := inv_start (CX := CX) (P := P) (w := w) (cd := cv) (E := E) S room.hd e0 (len _ _ _ _ wish) vals ic
    refine wpAny_mono (run.run [] s1 _ H _ I0 rd) (fun fl s2 z => ?_) fun _ _ z => z
    cases fl with
    | brk => obtain ⟨_, _, _, no⟩ := z; exact no.elim
    | cont => obtain ⟨_, _, _, no⟩ := z; exact no.elim
    | next =>
      obtain ⟨σ2, H2, J, q⟩ := z
      exact ⟨V.non, H2, J.os, J.bare, J.base, J.hok, rfl, q⟩
    | ret u =>
      obtain ⟨v, σ2, H2, J, rv, q⟩ := z
      exact ⟨v, H2, J.os, J.bare, J.base, J.hok, rv, q⟩

/-- .. of which nothing that is raised leaves it -/
theorem okG {P : Program} {w : World} {K : PySem.W.Frag} {mg : Str → Option Value} {base : Heap} {x qual : Str} {st : Stmt} {f : Addr} {fd : FuncData} {N ps : List Str} {k : Nat} {sp : Sp}
    (F : Fun K x qual st f fd) (S : FnScope N ps (defScope st)) (len : ∀ xs H Q E, sp xs H Q E → xs.length = ps.length)
    (body : ∀ (cv : Value) (A : Around) (ol : List Env) (s : Shared) (H : Hp) (xs : List V) (Q : VK) (E : XK), A.guards = some [] → Room k (A.deeper (envOfC qual (defScope st) s.heap.objs.size f cv)) →
      sp xs H Q E → ∃ t, PSs (cxOf CX0 P w K mg base N qual (defScope st) f cv A ol s H E).nox (defBody st) t ∧ t { nx := fun _ H' => Q .non H', rt := Q } (start N xs) H) :
    FnG P w K mg base CX0 (k + 1) f fd ps sp := by
  refine okGX F S len fun cv A ol s H xs Q E gd room wish => ?_
  obtain ⟨t, run, rd⟩ := body cv A ol s H xs Q E gd room wish
  exact ⟨t, run.nox, rd⟩

section
variable {X : Cx} {CX : CXT} {k : Nat} {f : Addr} {fd : FuncData} {ps : List Str} {sp : Sp} {E : XK} {x : Str} {p pos : Pos} {e : Expr} {es : List Expr} {t : TA}
/-- f(e, ..) where no guard stands -/
theorem pe_callG (F : FnG X.prog X.w X.K X.mg X.base CX k f fd ps sp) (gd : X.A.guards = some []) (room : Room k X.A) (hg : Gl X x) (hm : X.mg x = some (.ref f)) (kp : PySem.W.keepIn X.K (.ref f) = true) (hb : Binds X.K fd ps [])
    (out : Passes CX X E) (ha : PA X (e :: es) t) (nd : (x == ("__debug__" : Str)) = false := by decide) (s1 : starEach (e :: es) X.env = (false, eval e X.env) :: starEach es X.env := by rfl)
    (s2 : (backTo pos (starEach es X.env)).any (·.1) = false := by rfl) : PE X (.Call (.Name x p) (e :: es) [] pos) (tCall sp [] E t) := by
  constructor
  intro pins s σ H Q I h
  refine wpAny_Call_Name_kw (ld_glob I hg hm (PySem.W.callWith_K (h₀ := X.base) I.ok.mod.kin kp ?_ s1 s2) nd)
  refine thn (ha.run pos pins s σ H _ I h) fun us s3 ⟨xs, H3, J, rv, q⟩ => ⟨J.kIn, ?_⟩
  have q' : sp xs H3 Q E := by
    have z : sp (xs ++ []) H3 Q E := q
    rw [List.append_nil] at z
    exact z
  have len : us.length = ps.length := by rw [← rv.length]; exact F.len _ _ _ _ q'
  have bd : BindsTo s3 fd ⟨us, []⟩ (ps.zip us) := by
    have z := hb s3 us J.kIn (by rw [List.append_nil]; exact len)
    rw [List.append_nil] at z
    exact z
  refine wpAny_call (codeAny_mono (F.run X.A X.stack s3 H3 ⟨us, []⟩ us xs Q E gd room J.env0 bd rv q') fun r s4 z => ?_)
  cases r with
  | error er => exact out pins σ H3 s3 er s4 J z
  | ok fl =>
    cases fl with
    | ret u => exact J.after z
    | next => exact z.elim
    | brk => exact z.elim
    | cont => exact z.elim
end

/-! ### repr of data -/
/-- repr(x), x a list or a tuple of data -/
def rRepr (K : PySem.W.Frag) : List V → Hp → VK → Prop := fun vs H Q => ∃ (a : Addr) (d : PyData), vs = [.ref a] ∧ Dp K H (.ref a) d ∧ d.showable = true ∧ d.hasDict = false ∧ d.depth ≤ 60 ∧ d.shown.length ≤ sizeLine ∧ Q (.str d.shown) H
theorem call_reprD {X : Cx} (gd : X.A.guards = some []) (hu : X.A.units + 64 < cLine) : CallR X (.builtin "repr") (rRepr X.K) := by
  intro pins s σ H vs us Q I r h
  obtain ⟨a, d, rfl, hd, h1, h2, h3, h4, q⟩ := h
  obtain ⟨u, rfl, ru⟩ := vals1 r
  obtain rfl : u = Value.ref a := ru
  obtain ⟨as, rd⟩ := Dp.reads I d (.ref a) (.ref a) hd rfl
  exact repr_of_reads' rd h1 (PyData.noDict_hsm h2) gd (by omega) (fun _ _ z => z) (fun h' u tk kk => ⟨.str d.shown, H, I.kept (t' := tk) kk, ⟨u, rfl⟩, q⟩) h4
end AL
set_option Elab.async false
set_option maxRecDepth 100000
set_option maxHeartbeats 2000000
/-! The end of a law whose def asks repr. -/
namespace AL
open PySem PySem.Spec PyProof.Rows L2
/-- the script's own object -/
def scrO (us : List Value) : Obj := { cls := .type "list", data := .seq us.toArray }
/-- the heap at the law's entry: the script alone, locked (or nothing, where it is the module's own) -/
def scrH (K : PySem.W.Frag) (a : Addr) (us : List Value) (ns : List Int) : Hp := fun b => if b = a ∧ K.lookup a = none then some (.frz (scrO us) (.lst (ns.map V.int))) else none
theorem scrH_some {K : PySem.W.Frag} {a b : Addr} {us : List Value} {ns : List Int} {u : HO} (h : scrH K a us ns b = some u) : b = a ∧ K.lookup a = none ∧ u = .frz (scrO us) (.lst (ns.map V.int)) := by
  unfold scrH at h
  split at h
  · rename_i c
    exact ⟨c.1, c.2, (Option.some.inj h).symm⟩
  · cases h
theorem lawG {P : Program} {w : World} {K : PySem.W.Frag} {mg mb : Str → Option Value} {CX : CXT} {k : Nat} {fa a : Addr} {fd : FuncData} {x : Str} {sp : Sp} {t : Shared} {us : List Value} {ns : List Int}
    (kin : K.In t.heap) (glb : t.heap.Ns mainGlobals mg) (blt : t.heap.Ns builtinsNs mb) (boot : ∀ y : Str, y ≠ "__name__" → mb y = bootBuiltins y) (free : t.heap.NoLimit) (noG : t.gens = #[])
    (at_a : t.heap.get? a = some (scrO us)) (isI : IntsAre us ns) (short : ns.length ≤ sizeLine) (room : Room k callerA)
    (F : ∀ base : Heap, K.In base → base.Ns mainGlobals mg → FnG P w K mg base CX k fa fd [x] sp) (bind : ∀ (s : Shared) (u : Value), BindsTo s fd ⟨[u], []⟩ [(x, u)])
    (wish : ∀ H : Hp, Only H → SqL K H a (ns.map V.int) → sp [.ref a] H (fun v _ => v = .bl true) fun _ _ _ => False)
    (noX : ∀ H e s', CX [] H t (fun _ _ _ => False) e s' → False) :
    codeAny (model P w) callerA (.call (.ref fa) ⟨[.ref a], []⟩) (fun r s' => r = .ok (.ret (.bool true)) ∧ OldK t.heap s'.heap ∧ s'.os = t.os ∧ AllBare s'.gens) t := by
  have vals := vals_ints isI
  have many := isI.length
  have only : Only (scrH K a us ns) := fun b => by
    cases e : scrH K a us ns b with
    | none => exact .inl rfl
    | some u =>
      obtain ⟨_, _, z⟩ := scrH_some e
      exact .inr ⟨_, _, congrArg some z⟩
  have seq : SqL K (scrH K a us ns) a (ns.map V.int) := by
    cases e : K.lookup a with
    | none => exact .inl (.inr ⟨scrO us, if_pos ⟨rfl, e⟩⟩)
    | some o =>
      have z := kin a o e
      rw [at_a] at z
      cases z
      exact .inr ⟨_, us.toArray, _, e, rfl, rfl, rfl, by rw [List.size_toArray, many]; exact short, vals⟩
  have held : HOk P w (scrH K a us ns) t.heap := fun b u e => by
    obtain ⟨rfl, _, rfl⟩ := scrH_some e
    exact ⟨at_a, by rw [List.length_map]; exact short, us, _, vals, at_a⟩
  have noDict : ∀ {b : Addr} {o : Obj} {es : Array DictEntry} {n : Nat}, t.heap.get? b = some o → o.data = .dict es n → scrH K a us ns b = none := by
    intro b o es n e1 e2
    cases e : scrH K a us ns b with
    | none => rfl
    | some u =>
      obtain ⟨rfl, _, _⟩ := scrH_some e
      rw [at_a] at e1
      cases e1
      cases e2
  have ns_of : ∀ {b : Addr} {m : Str → Option Value}, t.heap.Ns b m → (hidT t.heap (scrH K a us ns)).Ns b m := by
    rintro b m ⟨o, es, n, e1, e2, r⟩
    exact ⟨o, es, n, hidT_get e1 (noDict e1 e2), e2, r⟩
  have kin' : K.In (hidT t.heap (scrH K a us ns)) := fun b o e => hidT_get (kin b o e) (by
    cases z : scrH K a us ns b with
    | none => rfl
    | some u =>
      obtain ⟨rfl, n, _⟩ := scrH_some z
      rw [n] at e
      cases e)
  have modl : Mod K mg (hidT t.heap (scrH K a us ns)) := by
    obtain ⟨mc, f1, f2⟩ := free
    exact ⟨kin', ns_of glb, ⟨mb, ns_of blt, boot⟩, ⟨mc, ns_of f1, f2⟩⟩
  have env0 : Env0 P w K mg (hidT t.heap (scrH K a us ns)) callerA [] t (scrH K a us ns) :=
    ⟨rfl, modl, fun b o z => of_hidT z, Nat.le_of_eq (hidT_size _ _), trivial, fun b z => absurd (show b ∈ ([] : List Addr) from z) (by simp), held, .of_eq noG⟩
  refine codeAny_mono ((F _ kin' (ns_of glb)).run callerA [] t _ ⟨[.ref a], []⟩ [.ref a] [.ref a] _ _ rfl room env0 (bind t (.ref a)) (.cons rfl .nil) (wish _ only seq)) fun r s' z => ?_
  cases r with
  | error e => exact (noX _ e s' z).elim
  | ok fl =>
    cases fl with
    | next => exact z.elim
    | brk => exact z.elim
    | cont => exact z.elim
    | ret u =>
      obtain ⟨v, H', os, bare, un, held', rv, q⟩ := z
      cases (show v = .bl true from q)
      cases (show u = Value.bool true from rv)
      refine ⟨rfl, OldK.of_keep fun b o e => ?_, os, bare⟩
      cases c : scrH K a us ns b with
      | none => exact un.keep b o e c (fun z => absurd (show b ∈ ([] : List Addr) from z) (by simp)) (by simp)
      | some u2 =>
        obtain ⟨rfl, _, rfl⟩ := scrH_some c
        obtain ⟨e2, _⟩ := held' _ _ (un.frzs _ _ _ c)
        rw [at_a] at e
        cases e
        exact e2
theorem walkG {l : PySem.W.OpenLaw} {n k : Nat} {q : Program} {loose : List Str} {XP : (Str → Option Value) → Heap → Prop} {YP : World → Heap → Prop} {d : DefRec} {K : Params → PySem.W.Frag} {sp : PySem.W.Frag → Sp} {x : Str}
    (most : l.most = some n) (few : n ≤ sizeLine) (plain : d.params.defaults = []) (room : Room k callerA) (ky : ∀ (w : World) (h : Heap), YP w h → (K w.params).In h)
    (F : ∀ (w : World) (mg : Str → Option Value) (fa : Addr) (h : Heap), (K w.params).In h → h.Ns mainGlobals mg → mg d.name = some (.ref fa) → ∃ fd : FuncData, (∀ (s : Shared) (u : Value), BindsTo s fd ⟨[u], []⟩ [(x, u)]) ∧
      ∀ base : Heap, (K w.params).In base → base.Ns mainGlobals mg → FnG l.prog w (K w.params) mg base CX0 k fa fd [x] (sp (K w.params)))
    (wish : ∀ (K : PySem.W.Frag) (H : Hp) (a : Addr) (ns : List Int), ns.length ≤ n → Only H → SqL K H a (ns.map V.int) → sp K [.ref a] H (fun v _ => v = .bl true) fun _ _ _ => False) :
    PySem.W.WalkO q loose XP YP l.row.toRowW d [] (fun f vs => PySem.call f vs) := by
  refine Att.attach_call most plain ?_
  intro w s0 t mg mb fa o pm cd doc a us ns G Y ho hd hcd hmg at_a isI many noG
  obtain ⟨fd, bind, ok⟩ := F w mg fa _ (ky w _ Y) G.T.g hmg
  exact lawG (ky w _ Y) G.T.g G.T.b G.T.builtins G.T.nolimit noG at_a isI (Nat.le_trans many few) room ok bind (fun H o1 o2 => wish (K w.params) H a ns many o1 o2) fun _ _ _ z => z.elim
end AL
set_option Elab.async false
set_option maxRecDepth 100000
set_option maxHeartbeats 4000000
/-! Own exceptions held as values: made, their fields read, asked for their class. -/
namespace PySem
open PySem.W PySem.Calls PyProof.Rows
section
variable {prog : Program} {w : World} {A : Around} {E : Value → Shared → Prop} {s : Shared} {K : Frag} {x D : Addr} {ox : Obj} {od : Option Obj}
/-- a data descriptor of the class is found ahead of the own dict -/
theorem al_findObj {C : Addr} {n : Str} {a g : Value} (hc : (clsIn K C).isSome = true) (ha : findIn K (.ref C) n = some (some a)) (hg : specialIn K a "__get__" = some (some g)) (ht : takesIn K a = some true) : findObj K C od n = some (.bind g a) := by
  obtain ⟨cd, e⟩ := Option.isSome_iff_exists.mp hc
  unfold findObj
  rw [e, Option.bind_some, ha, Option.bind_some]
  simp [hg, ht]
/-- e.__class__ of an own exception, whatever its dict holds -/
theorem al_class {Q : Option Value → Shared → Prop} (T : L2.ExcC K D) (X : K.In s.heap) (J : InstAt s.heap x ox D od) (h : Q (some (.ref D)) { s with toks := s.toks + 1 }) : wpAny (model prog w) A (getAttr? (.ref x) "__class__") Q E s := by
  have hf : findObj K D od "__class__" = some (.bind (.builtin "getset_descriptor.__get__") (.builtin "object.__class__")) := al_findObj (by
    obtain ⟨cd, e, _⟩ := any_some T.hd
    rw [e]; rfl) T.ha T.hn T.ht
  obtain ⟨hp, ge, dr, tk, os⟩ := s
  have ty := J.type (M := model prog w)
  have l1 := looks_findIn (M := model prog w) X T.hg
  have l2 := looks_findIn (M := model prog w) X T.hk
  have l3 := looks_find (M := model prog w) X J hf
  have isExc : Looks (model prog w) hp (isInstance (.ref x) (.type "BaseException")) true := ty.andThen (looks_subIn X T.hs)
  have f0 : (false && onTheHeap (Value.builtin "BaseException.__getattribute__")) = false := rfl
  have f1 : (onTheHeap (Value.ref D) && Value.builtin "BaseException.__getattribute__" == Value.builtin "object.__getattribute__") = false := by
    rw [show (Value.builtin "BaseException.__getattribute__" == Value.builtin "object.__getattribute__") = false by decide +kernel]; rfl
  unfold getAttr? getAttrBy? getAttrBy
  refine wpAny_bind (wpAny_mkText (wpAny_bind (wpAny_attempt (wpAny_holding (wpAny_bind (ty.at (wpAny_bind (l1.at ?_))))))))
  show wpAny _ _ (if (onTheHeap (Value.ref D) && Value.builtin "BaseException.__getattribute__" == Value.builtin "object.__getattribute__") = true then _ else _) _ _ _
  rw [f1, if_neg Bool.false_ne_true]
  unfold getAttrByItsOwn hookBefore
  refine wpAny_bind ?_
  have onHp : onTheHeap (Value.ref D) = true := rfl
  rw [if_pos onHp]
  refine l2.at ?_; refine wpAny_bind (wpAny_attempt (wpAny_holding ?_))
  unfold callGetattribute
  rw [f0, if_neg Bool.false_ne_true]
  unfold boundAndCalled
  rw [PySem.F.excAttr_ValueError.ga.bind (.ref x)]
  refine wpAny_bind (wpAny_pure ?_)
  show wpAny _ _ (call (.builtin "BaseException.__getattribute__") [.ref x, .str "__class__" tk]) _ _ _
  refine wpAny_call (codeAny_call_builtin PySem.F.excAttr_ValueError.ga.plain PySem.F.entry_bexc_ga (@check_slot (model prog w) _ _ ⟨hp, ge, dr, tk + 1, os⟩ "BaseException.__getattribute__" "BaseException" "__getattribute__" (.ref x) [.str "__class__" tk] [] _ (by decide +kernel) (by decide +kernel) isExc (PySem.F.args_bexc_ga (.ref x) (.str "__class__" tk)) ?_))
  unfold Builtin.«object.__getattribute__»
  refine wpAny_bind (wpAny_of_eq (a := ((Value.ref x : Value), [Value.str "__class__" tk])) (by first | rfl | (simp only [slotArgs]; rfl)) (wpAny_bind (wpAny_pure (wpAny_bind (ty.at (wpAny_bind (l3.at ?_)))))))
  show wpAny _ _ (holding [Value.builtin "object.__class__"] (call (.builtin "getset_descriptor.__get__") [.builtin "object.__class__", .ref x, .ref D]) >>= ret) _ _ _
  refine wpAny_bind (wpAny_holding (wpAny_call (class_get (s := ⟨hp, ge, dr, tk + 1, os⟩) (ox := ox) (od := od) X J T.hm (wpAny_pure ?_))))
  show wpAny _ _ (handedOut (.ref D)) _ _ _
  rw [handedOut_of (v := .ref D) rfl]
  first
    | exact wpAny_pure (wpAny_pure h)
    | exact wpAny_pure h
    | exact wpAny_pure (wpAny_bind (wpAny_pure (wpAny_pure h)))
theorem al_kitx (T : L2.ExcC K D) : KitX K (.ref x) (.ref D) (fun h => InstAt h x ox D od) := by
  obtain ⟨cd, ecd, _⟩ := any_some T.hd
  have there : ∃ o, K.lookup D = some o ∧ ∀ its n, o.data ≠ .seq its n := by
    unfold clsIn at ecd
    split at ecd
    · rename_i c' d' cd' sl' ho
      exact ⟨_, ho, fun _ _ z => by cases z⟩
    · cases ecd
  constructor
  case ty => exact fun _ _ _ J => J.type
  case it =>
    intro _ _ X _
    unfold clsIn at ecd
    split at ecd
    · rename_i c' d' cd' sl' ho
      intro A' Q' E' s' kk q
      unfold isType loadHead
      exact wpAny_bind (wpAny_loadPart (kk _ _ (X _ _ ho)) (wpAny_pure q))
    · cases ecd
  case ne =>
    intro h tp dd its n sl X htp
    refine Bool.eq_false_iff.mpr fun q => ?_
    have e : D = tp := Value.ref.inj (beq_iff_eq.mp q)
    subst e
    obtain ⟨o, ho, no⟩ := there
    have z := (X _ _ ho).symm.trans htp
    cases z
    exact no _ _ rfl
  case ca => exact fun X J kk => al_class T X J kk
end
end PySem
namespace AL
open PySem PySem.Spec PyProof.Rows L2
/-- C(e, ..), a value -/
def tMkV (C : Addr) (sp : Sp) (ta : TA) : TE := fun σ H Q => ta σ H fun vs H1 => vs.length ≤ 1000 ∧ ∀ a, H1 a = none → sp (.ref a :: vs) (upd H1 a (exo a C none)) (fun v H2 => v = .non ∧ Q (.ref a) H2) fun _ _ _ => False
/-- e.f of such a value -/
def tFv (K : PySem.W.Frag) (f : Str) (te : TE) : TE := fun σ H Q => te σ H fun x H1 => ∃ (a C dx : Addr) (fs : List (Str × V)) (v : V), x = .ref a ∧ XfC K C ∧ PySem.W.findIn K (.ref C) f = some none ∧
  H1 a = some (exo a C (some dx)) ∧ H1 dx = some (exd dx fs) ∧ fs.lookup f = some v ∧ Q v H1
/-- isinstance(e, c) of such a value -/
def rIsV (K : PySem.W.Frag) : List V → Hp → VK → Prop := fun vs H Q => ∃ (a C : Addr) (c : V) (u : Value) (b : Bool), vs = [.ref a, c] ∧ ExcC K C ∧ ((∃ dx fs, H a = some (exo a C (some dx)) ∧ H dx = some (exd dx fs)) ∨ H a = some (ExO (.ref C) a)) ∧
  ClsV c u ∧ PySem.W.kitOne K (.ref C) u = some b ∧ Q (.bl b) H
section
variable {X : Cx} {x : Str} {C fI : Addr} {k : Nat} {fd : FuncData} {ps : List Str} {sp : Sp} {e : Expr} {es : List Expr} {ta : TA} {te : TE} {p pos : Pos} {CX : CXT}
theorem pe_mkV (T : OexC X.K C) (hi : PySem.W.findIn X.K (.ref C) "__init__" = some (some (.ref fI))) (ht : PySem.W.typeIn X.K (.ref fI) = some (.type "function")) (F : FnOk X.prog X.w X.K X.mg X.base CX k fI fd ps sp)
    (room : Room (k + 1) X.A) (hb : Binds X.K fd ps []) (out : Passes CX X fun _ _ _ => False) (hg : Gl X x) (hm : X.mg x = some (.ref C)) (ha : PA X (e :: es) ta) (nd : (x == ("__debug__" : Str)) = false := by decide)
    (s1 : starEach (e :: es) X.env = (false, eval e X.env) :: starEach es X.env := by rfl) (s2 : (backTo pos (starEach es X.env)).any (·.1) = false := by rfl) : PE X (.Call (.Name x p) (e :: es) [] pos) (tMkV C sp ta) := by
  constructor
  intro pins s σ H Q I h
  obtain ⟨_, _, _, _, bm, _, _, _, _, _, _, _, _, _, _, look, isVE⟩ := T.cls
  refine wpAny_Call_Name_kw (ld_glob I hg hm (PySem.W.callWith_K (h₀ := X.base) I.ok.mod.kin T.kC (thn (ha.run pos pins s σ H _ I h) fun us sA hA => ?_) s1 s2) nd)
  obtain ⟨vs, H1, J, rv, few, wish⟩ := hA
  refine ⟨J.kIn, ?_⟩
  show wpAny _ _ (call (.ref C) us) _ _ _
  obtain ⟨hp, ge, dr, tk, os⟩ := sA
  have bound : hp.objs.size ≤ hp.objs.size + 1 := Nat.le_succ _
  have fresh : H1 (hp.objs.size + 1) = none := J.hok.fresh bound
  have goal := wish _ fresh
  have keep : ∀ b o, hp.get? b = some o → ((hp.push (PySem.W.kdv_tup us)).push (PySem.HandSPX.excO C hp.objs.size)).get? b = some o := fun b o z => Heap.get?_push_of_some _ (Heap.get?_push_of_some _ z)
  have there : ((hp.push (PySem.W.kdv_tup us)).push (PySem.HandSPX.excO C hp.objs.size)).get? (hp.objs.size + 1) = some (PySem.HandSPX.excO C hp.objs.size) := by heap_get
  have J2 : Inv X pins σ (upd H1 (hp.objs.size + 1) (exo (hp.objs.size + 1) C none)) ⟨(hp.push (PySem.W.kdv_tup us)).push (PySem.HandSPX.excO C hp.objs.size), ge, dr, tk, os⟩ := J.laid (t' := tk) keep bound (exo_ok there)
  have rv2 : Vals (V.ref (hp.objs.size + 1) :: vs) (Value.ref (hp.objs.size + 1) :: us) := .cons rfl rv
  have many : (Value.ref (hp.objs.size + 1) :: us).length = ps.length := rv2.length.symm.trans (F.len _ _ _ _ goal)
  have few' : us.length ≤ sizeLine := by
    have z := rv.length
    rw [sizeLine_eq]
    omega
  have bd : BindsTo ⟨(hp.push (PySem.W.kdv_tup us)).push (PySem.HandSPX.excO C hp.objs.size), ge, dr, tk, os⟩ fd ⟨Value.ref (hp.objs.size + 1) :: us, []⟩ (ps.zip (Value.ref (hp.objs.size + 1) :: us)) := by
    have z := hb ⟨(hp.push (PySem.W.kdv_tup us)).push (PySem.HandSPX.excO C hp.objs.size), ge, dr, tk, os⟩ (Value.ref (hp.objs.size + 1) :: us) J2.kIn (by rw [List.append_nil]; exact many)
    rw [List.append_nil] at z
    exact z
  refine wpAny_call (PySem.HandSPX.call_own PySem.F.excBase_ValueError (fun Y => PySem.HandSPX.refsVE_contains Y bm isVE) (J.kIn _ _ look) (PySem.W.looks_findIn J.kIn hi) (fun self => PySem.W.bind_fn J.kIn self ht) few' (codeAny_mono
    (F.run _ X.stack _ _ ⟨Value.ref (hp.objs.size + 1) :: us, []⟩ (Value.ref (hp.objs.size + 1) :: us) _ _ (fun _ _ _ => False) (room.make C us []) (J2.env0.make C us []) bd rv2 goal) fun r sB hB => ?_))
  cases r with
  | error er => exact out pins σ _ _ er sB J2 hB
  | ok fl =>
    cases fl with
    | next => exact hB.elim
    | brk => exact hB.elim
    | cont => exact hB.elim
    | ret u =>
      obtain ⟨v, H2, os2, bare2, un2, hok2, rw2, ev, q2⟩ := hB
      subst ev
      refine ⟨rw2, .ref (hp.objs.size + 1), H2, ?_, rfl, q2⟩
      obtain ⟨h2, g2, d2, t2, os'⟩ := sB
      have un1 : Un (frs X.stack) [] H1 H2 hp h2 := (Un.laid keep bound fresh).trans un2
      exact J.call' (ch := []) os2 un1 hok2 bare2 (fun b z => absurd z (by simp))
theorem pe_fv {n : Str} (he : PE X e te) (hb : attributeBase e n X.env (eval e X.env) = eval e X.env := by rfl) : PE X (.Attribute e n pos) (tFv X.K n te) := by
  constructor
  intro pins s σ H Q I h
  refine attr_of hb (thn (he.run pins s σ H _ I h) fun u sA hA => ?_)
  obtain ⟨y, H1, J, ry, a, C, dx, fs, v, rfl, T, no, ea, ed, l, q⟩ := hA
  cases (show u = Value.ref a from ry)
  obtain ⟨t1, oa⟩ := exo_at J.hok ea
  obtain ⟨mA, hns, rel⟩ := exd_at J.hok ed
  obtain ⟨od, ho, hl⟩ := lookIn_ns hns
  obtain ⟨u, hu, ru⟩ := RelO.some_of (v := v) (o := mA n) (by rw [← l]; exact rel n)
  exact HandSPX.exc_get J.kIn (⟨oa, rfl, rfl, ho⟩ : PySem.W.InstAt sA.heap a _ C (some od)) T.ga T.gg T.exC (PySem.W.findObj_own T.hdC no rfl (by rw [hl, hu])) (handed_of ru) ⟨v, H1, J.tok _, ru, q⟩
theorem call_isV : CallR X (.builtin "isinstance") (rIsV X.K) := by
  intro pins s σ H vs us Q I r h
  obtain ⟨a, C, c, u, b, rfl, T, what, kc, e, q⟩ := h
  obtain ⟨u1, u2, rfl, r1, r2⟩ := vals2 r
  cases (show u1 = Value.ref a from r1)
  cases kc.eq r2
  rcases what with ⟨dx, fs, ea, ed⟩ | ea
  · obtain ⟨t1, oa⟩ := exo_at I.hok ea
    obtain ⟨mA, hns, rel⟩ := exd_at I.hok ed
    obtain ⟨od, ho, hl⟩ := lookIn_ns hns
    exact PySem.W.kia_one (al_kitx T) I.kIn (⟨oa, rfl, rfl, ho⟩ : PySem.W.InstAt s.heap a _ C (some od)) e (fun z => nomatch z) fun tk => ⟨.bl b, H, I.tok tk, rfl, q⟩
  · obtain ⟨⟨oe, fv, oa, ⟨z1, z2⟩, z3, _⟩, _⟩ := I.hok a _ ea
    exact PySem.W.kia_one (al_kitx T) I.kIn (⟨oa, z1, by unfold PySem.W.notCls; rw [z3] <;> rfl, by rw [z2]; trivial⟩ : PySem.W.InstAt s.heap a oe C none) e (fun z => nomatch z) fun tk => ⟨.bl b, H, I.tok tk, rfl, q⟩
/-- C() of an own class over ValueError without __init__ -/
theorem pe_mkV0 {bmB : List Value} {B newId initId : String} (F : ExcBaseFacts B newId initId bmB) (ex : PySem.W.excIn X.K C bmB newId = true) (hm : X.mg x = some (.ref C)) (kp : PySem.W.keepIn X.K (.ref C) = true) (hg : Gl X x) (nd : (x == ("__debug__" : Str)) = false := by decide) :
    PE X (.Call (.Name x p) [] [] pos) (fun _ H Q => ∀ a, H a = none → Q (.ref a) (upd H a (ExO (.ref C) a))) := by
  constructor
  intro pins s σ H Q I h
  refine wpAny_Call_Name_kw (ld_glob I hg hm (PySem.W.callWith_K0 I.kIn kp ?_) nd)
  obtain ⟨bm, N, nm, qn, bs, hd, sn, sub, ab, col, dd, c0, c1, c2, c3, c5, mN, hC, hN, hni, T⟩ := exc_obj I.kIn ex
  obtain ⟨hp, ge, dr, tk, os⟩ := s
  refine wpAny_call_exc_subT F T hC hN hni (fun h2 a made => ?_) (Nat.zero_le _)
  have fresh : H a = none := I.hok.gone made.new
  obtain ⟨t, here, _, _⟩ := made.there
  exact ⟨.ref a, upd H a (ExO (.ref C) a), I.laidN (t' := tk) made.keeps made.new fresh (exO_ok here ⟨rfl, rfl⟩ rfl rfl rfl (show 4 < 6 by decide)), rfl, h a fresh⟩
end
end AL
set_option Elab.async false
set_option maxRecDepth 100000
set_option maxHeartbeats 2000000
/-! Own error classes of the program: what the top writes of them, as one Bool a class. -/
namespace AL
open PySem PySem.Spec PyProof.Rows L2
/-- all that is asked of an own error class, but its row -/
def errB (K : PySem.W.Frag) (C : Addr) (fs : List Str) : Bool :=
  decide (PySem.W.findIn K (.ref C) "__setattr__" = some (some (.builtin "object.__setattr__"))) && (decide (PySem.W.subIn K (.ref C) (.type "BaseException") = some true) && (decide (PySem.W.typeIn K (.ref C) = some (.type "type")) && (PySem.W.keepIn K (.ref C) &&
  (xfB K C && (decide (PySem.W.findIn K (.ref C) "__class__" = some (some (.builtin "object.__class__"))) && (decide (PySem.W.specialIn K (.builtin "object.__class__") "__get__" = some (some (.builtin "getset_descriptor.__get__"))) &&
  (decide (PySem.W.takesIn K (.builtin "object.__class__") = some true) && (decide (PySem.W.mroIn K C (.type "object") = some true) && fs.all fun f => decide (PySem.W.findIn K (.ref C) f = some none)))))))))
structure ErrT (K : PySem.W.Frag) (mg : Str → Option Value) (x : Str) (C : Addr) (fs : List Str) : Prop where
  oex : OexC K C
  xf : XfC K C
  ex : ExcC K C
  m : mg x = some (.ref C)
  no : ∀ f ∈ fs, PySem.W.findIn K (.ref C) f = some none
theorem errT_of {K : PySem.W.Frag} {mg : Str → Option Value} {x : Str} {C : Addr} {fs : List Str} {nm q : Str} {N : Addr} {bs bm : List Value} {sn : List Str} {sub : List Value} {ab : Bool} {col : Option Bool} {dd : Option Addr} {k0 k1 k2 k3 k5 : Option Value}
    (row : K.lookup C = some (excClassObj nm q C N bs bm true sn sub ab col dd k0 k1 k2 k3 k5 "ValueError.__new__")) (bmo : PySem.HandSPX.refsVE bm = true) (m : mg x = some (.ref C)) (b : errB K C fs = true) : ErrT K mg x C fs := by
  unfold errB at b
  simp only [Bool.and_eq_true, decide_eq_true_eq, List.all_eq_true] at b
  obtain ⟨b1, b2, b3, b4, b5, b6, b7, b8, b9, b10⟩ := b
  have X := xfB_ok b5
  exact ⟨⟨⟨_, _, _, _, _, _, _, _, _, _, _, _, _, _, _, row, bmo⟩, b1, b2, b3, b4⟩, X, ⟨X.ga, X.gg, b2, X.hdC, b6, b7, b8, b9⟩, m, b10⟩
/-- its own __init__ -/
structure IniT (K : PySem.W.Frag) (qual : Str) (st : Stmt) (ps : List Str) (C fI : Addr) (fd : FuncData) : Prop where
  F : Fun K "__init__" qual st fI fd
  b : Binds K fd ps []
  fi : PySem.W.findIn K (.ref C) "__init__" = some (some (.ref fI))
  ti : PySem.W.typeIn K (.ref fI) = some (.type "function")
/-- __init__(self, f1, ..): the fields are stored -/
def spIni (C : Addr) (fs : List Str) : Sp := fun vs H Q _ => ∃ (a : Addr) (ys : List V), vs = .ref a :: ys ∧ ys.length = fs.length ∧ H a = some (exo a C none) ∧
  ∀ (dx : Addr) (H' : Hp), H dx = none → dx ≠ a → H' a = some (exo a C (some dx)) → H' dx = some (exd dx (fs.zip ys).reverse) → (∀ b, b ≠ a → b ≠ dx → H' b = H b) → Q .non H'
/-- an error of the class at C stands at e -/
def EV (H : Hp) (e C : Addr) : Prop := (∃ dx fs, H e = some (exo e C (some dx)) ∧ H dx = some (exd dx fs)) ∨ H e = some (ExO (.ref C) e)
theorem EV.same {H H' : Hp} {e C : Addr} (h : EV H e C) (s : Same H H') : EV H' e C := by
  rcases h with ⟨dx, fs, h1, h2⟩ | h
  · exact .inl ⟨dx, fs, s _ _ h1, s _ _ h2⟩
  · exact .inr (s _ _ h)
theorem vi_eq {i j : Nat} (h : decide (V.int (i : Int) = V.int (j : Int)) = true) : i = j := by
  have z := of_decide_eq_true h
  injection z with z
  omega
theorem vi_ne {i j : Nat} (h : ¬ decide (V.int (i : Int) = V.int (j : Int)) = true) : i ≠ j := fun e => h (by subst e; exact decide_eq_true rfl)
end AL
set_option Elab.async false
set_option maxRecDepth 100000
set_option exponentiation.threshold 3000
/-! Data that stay, and that can be shown. -/
namespace AL
open PySem L2
mutual
theorem dp_mono {K : PySem.W.Frag} {H H' : Hp} (kl : ∀ a xs, SqL K H a xs → SqL K H' a xs) (kt : ∀ a xs, SqT K H a xs → SqT K H' a xs) : ∀ (d : PyData) (v : V), Dp K H v d → Dp K H' v d
  | .none, _, h => by cases h; exact .non
  | .bool b, _, h => by cases h; exact .bl b
  | .int i, _, h => by cases h; exact .int i
  | .str x, _, h => by cases h; exact .str x
  | .list ds, _, h => by
    cases h with
    | lst hs ha => exact .lst (kl _ _ hs) (dpAll_mono kl kt ds _ ha)
  | .tuple ds, _, h => by
    cases h with
    | tup hs ha => exact .tup (kt _ _ hs) (dpAll_mono kl kt ds _ ha)
  | .dict _, _, h => by cases h
theorem dpAll_mono {K : PySem.W.Frag} {H H' : Hp} (kl : ∀ a xs, SqL K H a xs → SqL K H' a xs) (kt : ∀ a xs, SqT K H a xs → SqT K H' a xs) : ∀ (ds : List PyData) (vs : List V), DpAll K H vs ds → DpAll K H' vs ds
  | [], _, h => by cases h; exact .nil
  | d :: ds, _, h => by
    cases h with
    | cons h1 h2 => exact .cons (dp_mono kl kt d _ h1) (dpAll_mono kl kt ds _ h2)
end
theorem same_seqT {K : PySem.W.Frag} {H H' : Hp} {a : Addr} {xs : List V} (e : Same H H') (h : SqT K H a xs) : SqT K H' a xs := by
  rcases h with (h | ⟨o, h⟩) | h
  · exact .inl (.inl (e _ _ h))
  · exact .inl (.inr ⟨o, e _ _ h⟩)
  · exact .inr h
theorem dp_same {K : PySem.W.Frag} {H H' : Hp} {v : V} {d : PyData} (s : Same H H') (h : Dp K H v d) : Dp K H' v d := dp_mono (fun _ _ z => Same.seq s z) (fun _ _ z => same_seqT s z) d v h
theorem dp_keep {K : PySem.W.Frag} {H H' : Hp} {p c : Addr} {m : Nat} {v : V} {d : PyData} (k : Keep p H H') (P : Pen H p c m) (h : Dp K H v d) : Dp K H' v d := dp_mono (fun _ _ z => k.seqL P z) (fun _ _ z => k.seqT P z) d v h
/-- can be shown, by few signs -/
structure OkD (d : PyData) : Prop where
  sh : d.showable = true
  nd : d.hasDict = false
  dp : d.depth ≤ 10
  ln : d.shown.length ≤ 1000
/-- some data that can be shown -/
def Datum (K : PySem.W.Frag) (H : Hp) (v : V) : Prop := ∃ d, Dp K H v d ∧ OkD d
theorem Datum.same {K : PySem.W.Frag} {H H' : Hp} {v : V} (h : Datum K H v) (s : Same H H') : Datum K H' v := by
  obtain ⟨d, h1, h2⟩ := h
  exact ⟨d, dp_same s h1, h2⟩
theorem Datum.keep {K : PySem.W.Frag} {H H' : Hp} {p c : Addr} {m : Nat} {v : V} (h : Datum K H v) (k : Keep p H H') (P : Pen H p c m) : Datum K H' v := by
  obtain ⟨d, h1, h2⟩ := h
  exact ⟨d, dp_keep k P h1, h2⟩
theorem datum_non {K : PySem.W.Frag} {H : Hp} : Datum K H .non := ⟨.none, .non, by decide +kernel, by decide +kernel, by decide +kernel, by decide +kernel⟩
theorem datum_bl {K : PySem.W.Frag} {H : Hp} (b : Bool) : Datum K H (.bl b) := by
  refine ⟨.bool b, .bl b, rfl, rfl, by show 0 ≤ 10; decide, ?_⟩
  cases b <;> decide +kernel
theorem okD_int {i : Int} (h : i.natAbs < 10 ^ 400) : OkD (.int i) := by
  have h2 : i.natAbs < 2 ^ 1920 := Nat.lt_trans (Nat.lt_of_lt_of_le h (Nat.pow_le_pow_right (by decide) (by decide : 400 ≤ 402))) pow402
  refine ⟨decide_eq_true (log2_small (by decide) h2), rfl, by show 0 ≤ 10; decide, ?_⟩
  show (Str.ofString (toString i)).length ≤ 1000
  have e : (Str.ofString (toString i)).length = (toString i).length := by
    rw [Str.ofString_eq_toList]
    show (((toString i).toList.map Char.toNat).toArray).size = _
    rw [List.size_toArray, List.length_map, String.length_toList]
  rw [e]
  have := int_text_length_le10 (by decide) h
  omega
theorem datum_int {K : PySem.W.Frag} {H : Hp} {i : Int} (h : i.natAbs < 10 ^ 400) : Datum K H (.int i) := ⟨.int i, .int i, okD_int h⟩
theorem datum_str {K : PySem.W.Frag} {H : Hp} {z : Str} (h : z.length ≤ 90) (hc : ∀ c ∈ z.cps.toList, c < 128) : Datum K H (.str z) := by
  refine ⟨.str z, .str z, rfl, rfl, by show 0 ≤ 10; decide, ?_⟩
  show (reprText z).length ≤ 1000
  have := StrLaws.reprText_len z (fun c hcc => Nat.lt_trans (hc c hcc) (by decide))
  omega
theorem okD_tup : ∀ (ds : List PyData), ds.length ≤ 3 → (∀ d ∈ ds, OkD d) → (PyData.tuple ds).showable = true ∧ (PyData.tuple ds).hasDict = false ∧ (PyData.tuple ds).depth ≤ 60 ∧ (PyData.tuple ds).shown.length ≤ sizeLine := by
  intro ds hl h
  have all : ∀ (ds : List PyData), (∀ d ∈ ds, OkD d) → PyData.showableAll ds = true ∧ PyData.hasDictAll ds = false ∧ PyData.depthAll ds ≤ 10 ∧ ((PyData.shownAll ds).map (·.length)).sum ≤ 1000 * ds.length ∧ (PyData.shownAll ds).length = ds.length := by
    intro ds
    induction ds with
    | nil => intro _; exact ⟨rfl, rfl, by decide, by decide, rfl⟩
    | cons d ds ih =>
      intro h
      obtain ⟨a1, a2, a3, a4, a5⟩ := ih fun x hx => h x (List.mem_cons_of_mem _ hx)
      have o := h d List.mem_cons_self
      have o1 := o.sh
      have o2 := o.nd
      have o3 := o.dp
      have o4 := o.ln
      refine ⟨?_, ?_, ?_, ?_, ?_⟩
      · simp only [PyData.showableAll, o1, a1, Bool.and_self]
      · simp only [PyData.hasDictAll, o2, a2, Bool.or_self]
      · simp only [PyData.depthAll]; omega
      · simp only [PyData.shownAll, List.map_cons, List.sum_cons, List.length_cons]; omega
      · simp only [PyData.shownAll, List.length_cons, a5]
  obtain ⟨a1, a2, a3, a4, a5⟩ := all ds h
  refine ⟨?_, ?_, ?_, ?_⟩
  · simpa only [PyData.showable] using a1
  · simpa only [PyData.hasDict] using a2
  · simp only [PyData.depth]; omega
  · simp only [PyData.shown]
    have := tupleText_len_le (PyData.shownAll ds)
    rw [a5] at this
    refine Nat.le_trans this ?_
    refine Nat.le_trans (show _ ≤ 10000 by omega) (by decide)
theorem dpAll_bl {K : PySem.W.Frag} {H : Hp} : ∀ l : List Bool, DpAll K H (l.map V.bl) (l.map PyData.bool)
  | [] => .nil
  | b :: l => .cons (.bl b) (dpAll_bl l)
theorem shaped_bl (l : List Bool) : SeqAt.shaped (.list (l.map PyData.bool)) = true := by
  have h1 : ∀ l : List Bool, PyData.canLayAll0 (l.map PyData.bool) = true ∧ PyData.depthAll (l.map PyData.bool) = 0 := by
    intro l
    induction l with
    | nil => exact ⟨rfl, rfl⟩
    | cons b l ih => exact ⟨by simp [PyData.canLayAll0, PyData.canLay0, ih.1], by simp [PyData.depthAll, PyData.depth, ih.2]⟩
  unfold SeqAt.shaped
  rw [show PyData.canLay0 (.list (l.map PyData.bool)) = true by simpa [PyData.canLay0] using (h1 l).1]
  simp [PyData.depth, (h1 l).2]
end AL
set_option Elab.async false
set_option maxRecDepth 100000
set_option maxHeartbeats 4000000
/-! Own errors raised, and caught by several clauses with a name each. -/
namespace AL
open PySem PySem.Spec PyProof.Rows L2
theorem pa_mono {X : Cx} {es : List Expr} {ta : TA} (h : PA X es ta) : PA X es (fun σ H K => ∃ K0 : List V → Hp → Prop, ta σ H K0 ∧ ∀ vs H', K0 vs H' → K vs H') :=
  ⟨fun pos pins s σ H K I ⟨K0, z, i⟩ => thn (h.run pos pins s σ H K0 I z) fun _ _ ⟨vs, H', J, r, q⟩ => ⟨vs, H', J, r, i vs H' q⟩⟩
/-- a weaker reading of what makes an exception -/
theorem pmk_imp {X : Cx} {e : Expr} {t u : L2.St → Hp → XK → Prop} (h : PMk X e t) (i : ∀ σ H Q, u σ H Q → t σ H Q) : PMk X e u := fun pins s σ H Q I z => h pins s σ H Q I (i σ H Q z)
/-- raise C(e, ..): the fields lie in the error's own dict -/
def tRaise (C : Addr) (fs : List Str) (W : WX) (ta : TA) : TS := fun _ σ H => ta σ H fun vs H1 => vs.length = fs.length ∧ ∀ d, H1 d = none → W (.ref C) (some d) σ (upd H1 d (.xd (fs.zip vs).reverse))
section
variable {X : Cx} {x : Str} {C fI : Addr} {fd : FuncData} {ps fs : List Str} {e : Expr} {es : List Expr} {ta : TA} {p pos pos2 : Pos} {k : Nat} {W : WX} {qual : Str} {st : Stmt}
theorem ps_raiseC (calm : X.calm = true) (tk : Takes X W) (T : ErrT X.K X.mg x C fs) (J : IniT X.K qual st ps C fI fd) (F : FnOk X.prog X.w X.K X.mg X.base CX0 k fI fd ps (spIni C fs)) (room : Room (k + 1) X.A) (few : fs.length ≤ 1000) (hg : Gl X x) (ha : PA X (e :: es) ta)
    (nd : (x == ("__debug__" : Str)) = false := by decide) (s1 : starEach (e :: es) X.env = (false, eval e X.env) :: starEach es X.env := by rfl) (s2 : (backTo pos (starEach es X.env)).any (·.1) = false := by rfl) :
    PS X (.Raise (some (.Call (.Name x p) (e :: es) [] pos)) none pos2) (tRaise C fs W ta) := by
  have out : Passes CX0 X fun _ _ _ => False := fun _ _ _ _ _ _ _ z => z.elim
  refine ps_raise (t := fun σ H Q => ta σ H fun vs H1 => vs.length = fs.length ∧ ∀ d, H1 d = none → Q (.ref C) (some d) (upd H1 d (.xd (fs.zip vs).reverse))) calm tk (pmk_imp (pmk_oex T.oex J.fi J.ti F room J.b .nil out hg T.m (pa_mono ha) nd s1 s2) ?_)
  intro σ H Q h
  refine ⟨_, h, ?_⟩
  rintro vs H1 ⟨many, q⟩
  refine ⟨by omega, fun a fresh => ?_⟩
  rw [List.append_nil]
  refine ⟨a, vs, rfl, many, upd_same, fun dx H' hd hne e1 e2 kp => ⟨rfl, dx, _, e1, e2, ?_, ?_⟩⟩
  · rw [upd_ne hne] at hd; exact hd
  · have hd1 : H1 dx = none := by rw [upd_ne hne] at hd; exact hd
    have same : upd (del H' a) dx (.xd (fs.zip vs).reverse) = upd H1 dx (.xd (fs.zip vs).reverse) := by
      funext b
      by_cases hb : b = dx
      · rw [hb, upd_same, upd_same]
      · rw [upd_ne hb, upd_ne hb]
        by_cases hba : b = a
        · rw [hba, del_same, fresh]
        · rw [del_ne hba, kp b hba hb, upd_ne hba]
    rw [same]
    exact q dx hd1
end
/-! ### try: .., except X as n: .., except Y as m: .. -/
/-- a clause: its class, its name's slot, its suite's reading -/
abbrev Cl := Value × Nat × (Addr → Value → Option Addr → TS)
/-- behind a suite its name is gone -/
def Ends.less (D : Ends) (i : Nat) : Ends := { nx := fun σ H => D.nx (σ.set i none) H, rt := D.rt, bk := fun σ H => D.bk (σ.set i none) H, ct := fun σ H => D.ct (σ.set i none) H }
def wNamed (K : PySem.W.Frag) (W0 : WX) (D : Ends) : List Cl → WX
  | [] => W0
  | (c, i, ts) :: r => fun cls d σ H => ∃ b, PySem.W.exmOne K cls c = some b ∧ (b = true → ∀ a, H a = none → ts a cls d (Ends.less D i) (σ.set i (some (.ref a))) H) ∧ (b = false → wNamed K W0 D r cls d σ H)
inductive Named (X : Cx) : List ExceptHandler → List Cl → Prop
  | nil : Named X [] []
  | cons {x n : Str} {c : Value} {i : Nat} {ts : Addr → Value → Option Addr → TS} {b0 : Stmt} {rest : List Stmt} {q1 q2 : Pos} {hd : List ExceptHandler} {l : List Cl} (cl : Names X x c) (sl : X.N[i]? = some n) (lo : X.env.kindOf n = some .local)
      (su : ∀ (a : Addr) (oe : Obj) (cls : Value) (d : Option Addr) (pn : List (Addr × Obj)), Zc cls d oe → (∃ vs, oe.data = .fields vs) → PSs (X.suite a ((a, oe) :: pn)) (b0 :: rest) (ts a cls d)) (r : Named X hd l) :
      Named X (.ExceptHandler (some (.Name x q1)) (some n) (b0 :: rest) q2 :: hd) ((c, i, ts) :: l)
section
variable {X : Cx} {body : List Stmt} {h0 : ExceptHandler} {hd : List ExceptHandler} {l : List Cl} {pos : Pos} {tb : WX → TS} {W0 : WX}
theorem ps_tryN (stk : X.stack = X.env :: X.outer) (frm : X.env.frame = some X.env.locals) (nd : X.N.Nodup) (tk : Takes X W0)
    (inner : ∀ (W : WX) (pn : List (Addr × Obj)) (xe : Value → Shared → Prop), Takes (X.tr pn xe) W → PassesOwn (model X.prog X.w) X.A X.env xe → PSs (X.tr pn xe) body (tb W)) (cls : Named X (h0 :: hd) l) :
    PS X (.Try body (h0 :: hd) [] [] pos) (fun D σ H => tb (wNamed X.K W0 D l) D σ H) := by
  constructor
  intro pins s σ H D I h
  have frames : X.A.frames = some (X.env :: X.outer) := by rw [I.ok.frames, stk]
  let back : Value → Shared → Prop := fun e t1 => wpAny (model X.prog X.w) X.A (noteFrame e X.env) (fun _ t2 => wpAny (model X.prog X.w) X.A (setFlight e none) (fun _ t3 => wpAny (model X.prog X.w) X.A (handleBy e X.env (h0 :: hd)) (SP X pins D) X.xe t3) X.xe t2) X.xe t1
  have caught : ∀ u t, XE (X.tr (X.pn ++ pins) back) (wNamed X.K W0 D l) u t → back u t := by
    rintro u t ⟨a, B, t0, pins0, σ1, H1, ec, ed, rfl, J0, ground, up, sky, fresh, oss, bare, wish⟩
    have J : Inv X pins σ1 H1 t0 := J0.ofTry I.ok
    have sky1 : Sky B (X.env :: X.outer) a (Zc ec ed) X.env.locals t.heap := by rw [← stk]; exact sky
    show wpAny (model X.prog X.w) X.A (noteFrame (.ref a) X.env) _ _ _
    refine Sky.land Zc.steady frames frm sky1 fun g3 fl3 up3 => ?_
    have J3 : Inv X pins σ1 H1 { t with heap := g3 } := J.landed ground fl3.1 (up.trans up3) oss bare
    obtain ⟨o3, v3, at3, z3, dat3⟩ := fl3.there
    have apart : a ∉ frs (X.env :: X.outer) := fun m => by
      obtain ⟨_, o', e', no⟩ := fl3.2.2.1.mem m
      rw [at3] at e'
      cases e'
      exact no _ dat3
    have notL : a ≠ X.env.locals := fun z => apart (List.mem_filterMap.mpr ⟨X.env, List.mem_cons_self, by rw [frm, z]⟩)
    have notF : a ∉ X.fs := fun m => by
      obtain ⟨en, hen, q⟩ := List.mem_filterMap.mp m
      exact apart (List.mem_filterMap.mpr ⟨en, List.mem_cons_of_mem _ hen, q⟩)
    have S3 := J3.suite at3 dat3 fresh notL notF
    suffices all : ∀ {hd' : List ExceptHandler} {l' : List Cl}, Named X hd' l' → wNamed X.K W0 D l' ec ed σ1 H1 → wpAny (model X.prog X.w) X.A (handleBy (.ref a) X.env hd') (SP X pins D) X.xe { t with heap := g3 } from all cls wish
    intro hd' l' nm
    induction nm with
    | nil =>
      intro w0
      refine wpAny_handleBy_nil ?_
      obtain ⟨_, _, _, oe, fv, T, oT, ts', he, hz, hdt, h1, _⟩ := id fl3
      unfold PySem.passOn
      refine wpAny_bind (wpAny_field he hdt h1 ?_)
      have notNone : ¬ ((Value.ref T == Value.none) = true) := by simp
      rw [if_neg notNone]
      have fly : wpAny (model X.prog X.w) X.A (setFlight (.ref a) X.env.frame) (fun _ t4 => wpAny (model X.prog X.w) X.A (throw (.ref a) : Sem Flow) (SP X pins D) X.xe t4) X.xe { t with heap := g3 } := by
        rw [frm]
        exact HandSPX.setFlight_upZ fl3 fun g4 held up4 => wpAny_throw (tk _ _ ⟨a, B, t0, pins, σ1, H1, ec, ed, rfl, J, ground, (up.trans up3).trans up4, .inr (.inr (by rw [stk]; exact held)), fresh, oss, bare, w0⟩)
      first
        | exact wpAny_bind (wpAny_pure (wpAny_bind fly))
        | exact wpAny_bind fly
    | @cons x n c i ts b0 rest q1 q2 hd2 l2 cl sl lo su r ih =>
      rintro ⟨b, isb, yes, no⟩
      refine wpAny_handleBy_cons (codeAny_handlers_test ?_) (by intro q; cases q)
      have LT : PySem.W.Looks (model X.prog X.w) g3 (typeOf (.ref a)) ec := fun A' Q' E' s' k' q' => wpAny_typeOf_ref (k' _ _ at3) (by rw [z3.1]; exact q')
      have LM := PySem.W.exm_one (M := model X.prog X.w) (J3.kIn) LT isb
      have asks : ∀ {Q' : Value → Shared → Prop} {E' : Value → Shared → Prop}, Q' c { t with heap := g3 } → wpAny (model X.prog X.w) (X.A.mark (some (.ref a))) (eval (.Name x q1) X.env) Q' E' { t with heap := g3 } := by
        intro Q' E' q'
        obtain ⟨gl, nodb, known⟩ := cl
        rcases known with hm | ⟨hm, hv, hnn⟩
        · exact ld_glob (X := X.suite a ((a, o3) :: (X.pn ++ pins))) S3 gl hm q' nodb
        · exact ld_blt (X := X.suite a ((a, o3) :: (X.pn ++ pins))) S3 gl hm hv q' hnn nodb
      refine asks (LM.here ?_)
      cases b with
      | false =>
        show wpAny _ X.A (handleBy (.ref a) X.env hd2) _ _ _
        exact ih (no rfl)
      | true =>
        refine codeAny_handlers_suite_as (HandSPX.lands_againZ fl3 fun g4 fl4 up4 => ?_)
        have J4 : Inv X pins σ1 H1 { t with heap := g4 } := J.landed ground fl4.1 ((up.trans up3).trans up4) oss bare
        obtain ⟨o4, v4, at4, z4, dat4⟩ := fl4.there
        have S4 := J4.suite at4 dat4 fresh notL notF
        refine store_ok (X := X.suite a ((a, o4) :: (X.pn ++ pins))) (v := .ref a) S4 nd sl (.inl lo) rfl (fun t5 S5 => ?_) (.inr lo)
        refine wpAny_mono ((su a o4 ec ed (X.pn ++ pins) z4 ⟨_, dat4⟩).run [] t5 _ H1 _ S5 (yes rfl a fresh)) (fun fl6 t6 sp6 => ?_) (fun _ _ z => False.elim z)
        have over : ∀ {σ6 : L2.St} {H6 : Hp} {Q6 : Shared → Prop}, Inv (X.suite a ((a, o4) :: (X.pn ++ pins))) [] σ6 H6 t6 → (∀ t7, Inv X pins (σ6.set i none) H6 t7 → Q6 t7) →
            wpAny (model X.prog X.w) X.A (do bindName X.env n .none; unbindBehindTheSuite X.env n q2) (fun _ t7 => Q6 t7) X.xe t6 := fun S6 q6 => gone_ok (S6.unsuite I.ok) nd sl lo q6
        cases fl6 with
        | next => obtain ⟨σ6, H6, S6, q6⟩ := sp6; exact over S6 fun t7 J7 => ⟨_, _, J7, q6⟩
        | brk => obtain ⟨σ6, H6, S6, q6⟩ := sp6; exact over S6 fun t7 J7 => ⟨_, _, J7, q6⟩
        | cont => obtain ⟨σ6, H6, S6, q6⟩ := sp6; exact over S6 fun t7 J7 => ⟨_, _, J7, q6⟩
        | ret u => obtain ⟨v6, σ6, H6, S6, r6, q6⟩ := sp6; exact over S6 fun t7 J7 => ⟨_, _, _, J7, r6, q6⟩
  refine wpAny_Try_except (wpAny_mono ((inner (wNamed X.K W0 D l) (X.pn ++ pins) back caught PassesOwn.looking).run [] s σ H D (I.toTry _) h) (fun fl t sp => ?_) (fun _ _ z => z))
  cases fl with
  | next => obtain ⟨σ', H', J', q⟩ := sp; exact wpAny_execs_nil ⟨σ', H', J'.ofTry I.ok, q⟩
  | brk => obtain ⟨σ', H', J', q⟩ := sp; exact ⟨σ', H', J'.ofTry I.ok, q⟩
  | cont => obtain ⟨σ', H', J', q⟩ := sp; exact ⟨σ', H', J'.ofTry I.ok, q⟩
  | ret u => obtain ⟨v, σ', H', J', r, q⟩ := sp; exact ⟨v, σ', H', J'.ofTry I.ok, r, q⟩
end
/-- isinstance(e, c) in the suite, e the error with its own dict -/
def rIsS (K : PySem.W.Frag) (a C dx : Addr) : List V → Hp → VK → Prop := fun vs H Q => ∃ (c : V) (u : Value) (b : Bool), vs = [.ref a, c] ∧ ClsV c u ∧ (∃ fs, H dx = some (.xd fs)) ∧ PySem.W.kitOne K (.ref C) u = some b ∧ Q (.bl b) H
theorem call_isS {X : Cx} {a C dx : Addr} {oe : Obj} {pn : List (Addr × Obj)} (T : ExcC X.K C) (hz : Zc (.ref C) (some dx) oe) (hf : ∃ vs, oe.data = .fields vs) : CallR (X.suite a ((a, oe) :: pn)) (.builtin "isinstance") (rIsS X.K a C dx) := by
  intro pins s σ H vs us Q I r h
  obtain ⟨c, u, b, rfl, kc, ⟨fs, hd⟩, e, q⟩ := h
  obtain ⟨u1, u2, rfl, r1, r2⟩ := vals2 r
  cases (show u1 = Value.ref a from r1)
  cases kc.eq r2
  obtain ⟨here, _⟩ := I.pin (a, oe) (List.mem_append.mpr (.inl List.mem_cons_self))
  obtain ⟨fv, hv⟩ := hf
  have at_d : ObjOk X.prog X.w H s.heap dx (.xd fs) := I.hok dx _ hd
  obtain ⟨mA, hns, _⟩ := at_d
  obtain ⟨od, ho, _⟩ := lookIn_ns hns
  have J : PySem.W.InstAt s.heap a oe C (some od) := ⟨here, hz.1, by unfold PySem.W.notCls; rw [hv] <;> rfl, by rw [hz.2]; exact ho⟩
  exact PySem.W.kia_one (al_kitx T) I.kIn J e (fun z => nomatch z) fun tk => ⟨.bl b, H, I.kept (t' := tk) fun _ _ z => z, rfl, q⟩
end AL
set_option Elab.async false
set_option maxRecDepth 100000
set_option maxHeartbeats 4000000
/-! isinstance of a caught own error, its class told where it is read. -/
namespace AL
open PySem PySem.Spec PyProof.Rows L2
def rIsC (K : PySem.W.Frag) (a C : Addr) (cls : Value) (d : Option Addr) : List V → Hp → VK → Prop := fun vs H Q => cls = .ref C ∧ ∃ (dx : Addr), d = some dx ∧ rIsS K a C dx vs H Q
theorem call_isC2 {X : Cx} {a C : Addr} {cls : Value} {d : Option Addr} {oe : Obj} {pn : List (Addr × Obj)} (T : ExcC X.K C) (hz : Zc cls d oe) (hf : ∃ vs, oe.data = .fields vs) : CallR (X.suite a ((a, oe) :: pn)) (.builtin "isinstance") (rIsC X.K a C cls d) := by
  intro pins s σ H vs us Q I r h
  obtain ⟨rfl, dx, rfl, h⟩ := h
  exact call_isS T hz hf pins s σ H vs us Q I r h
end AL
namespace AL
open PySem PySem.Spec PyProof.Rows L2
theorem op_eqS {X : Cx} {a : Addr} {oe : Obj} {pn : List (Addr × Obj)} (hu : X.A.units + 64 < cLine) : OpR (X.suite a ((a, oe) :: pn)) (compareOp .Eq) (rEqD X.K) := op_eqD hu
end AL
set_option Elab.async false
set_option maxRecDepth 100000
set_option exponentiation.threshold 20000
set_option maxHeartbeats 4000000
/-! int(text) and str(int) of up to 4,300 digits, // of ints of any size. -/
namespace PySem
open PySem.W PySem.Calls PySem.NumText PyProof.Rows
theorem al_wp_text {M : Model} {A : Around} {E : Value → Shared → Prop} {s : Shared} {Q : Value → Shared → Prop} {v : Value} {x : Str} {n : Int} (nd : s.heap.NoDigits)
    (rd : (int_private% "readNumeral") (numLimitOf x) 10 (numSeenOf x) = (int_private% "Numeral.value") n) (whole : ((numSeenOf x).length == (numTextOf x).length) = true) (h : Q (.int n s.toks) { s with toks := s.toks + 1 }) :
    wpAny M A ((int_private% "intFromText") v (numTextOf x) 10) Q E s := by
  by_cases short : (numSeenOf x).length ≤ 640
  · have e : numLimitOf x = 0 := if_pos short
    rw [e] at rd
    exact PySem.W.KIN.wp_text short rd whole h
  · have e : numLimitOf x = 4300 := if_neg short
    rw [e] at rd
    obtain ⟨mc, hns, hnone⟩ := nd
    obtain ⟨hp, ge, dr, tk, os⟩ := s
    have lim : ∀ {Q' : Nat → Shared → Prop}, Q' 4300 ⟨hp, ge, dr, tk, os⟩ → wpAny M A Builtin.intMaxStrDigits Q' E ⟨hp, ge, dr, tk, os⟩ := by
      intro Q' q'
      unfold Builtin.intMaxStrDigits
      refine wpAny_bind (wpAny_nsGet hns ?_)
      rw [hnone]
      exact wpAny_pure q'
    repeat (any_goals (first
      | assumption
      | (with_reducible refine wpAny_ite_false (decide_eq_false short) ?_)
      | (with_reducible refine wpAny_ite_true (decide_eq_true whole) ?_)
      | (with_reducible refine lim ?_)
      | wp_step))
    all_goals (try rw [rd])
    all_goals (try dsimp only)
    repeat (any_goals (first
      | assumption
      | (with_reducible refine wpAny_ite_true (decide_eq_true whole) ?_)
      | wp_step))

theorem al_meets_text {x : PySem.Str} {u : Tok} {n : Int} (hx : x.length ≤ sizeLine) (hn : PySem.intText? x = some n) :
    Meets (Builtin.«int.__new__» ⟨[.type "int", .str x u], []⟩) (fun _ R s => s.heap.NoDigits ∧ R (.ok (.ret (.int n s.toks))) { s with toks := s.toks + 1 }) := by
  intro prog w A R s h
  have f1 := F.conv_sub_int
  have f2 := F.madeHere_int
  have f3 := PySem.W.KIN.str_int
  have f4 := PySem.W.KIN.str_idx
  have f5 := PySem.W.KIN.str_trunc
  have f6 : typeOf (.str x u) = pure (.type "str") := rfl
  have rd : (int_private% "readNumeral") (numLimitOf x) 10 (numSeenOf x) = (int_private% "Numeral.value") n ∧ ((numSeenOf x).length == (numTextOf x).length) = true := by
    rcases readAny x hx with ⟨m, h1, h2, h3⟩ | ⟨h1, _⟩
    · rw [hn] at h1
      cases h1
      exact ⟨h3, h2⟩
    · rw [hn] at h1
      cases h1
  have kept := PySem.W.KIN.Hid.mk (And.intro rd h)
  clear rd h hn hx
  obtain ⟨hp, ge, dr, tk, os⟩ := s
  repeat (any_goals (first
    | assumption
    | ((with_reducible show wpAny _ _ ((int_private% "intFromText") _ _ _) _ _ _); refine al_wp_text kept.out.2.1 kept.out.1.1 kept.out.1.2 ?_)
    | wp_step))
  all_goals first | exact kept.out.2.2 | skip
section
variable {prog : Program} {w : World} {A : Around} {E : Value → Shared → Prop} {s : Shared} {Q : Value → Shared → Prop} {x : PySem.Str} {t : Tok} {n : Int}
theorem al_call_text (nd : s.heap.NoDigits) (hx : x.length ≤ sizeLine) (hn : PySem.intText? x = some n) (h : Q (.int n s.toks) { s with toks := s.toks + 1 }) : wpAny (model prog w) A (call (.type "int") [.str x t]) Q E s :=
  call_int_1 (al_meets_text hx hn) ⟨nd, typeIs_int _ _ _, h⟩
end
end PySem
namespace AL
open PySem PySem.Spec PyProof.Rows L2
/-- the limit on digits is as it came -/
def digB (K : PySem.W.Frag) : Bool := decide (PySem.W.nsIn K cStatics "sys.int_max_str_digits" = some none)
theorem noDigits_of {K : PySem.W.Frag} {h : Heap} (X : K.In h) (lim : h.NoLimit) (b : digB K = true) : h.NoDigits := by
  obtain ⟨mc, ns, _⟩ := lim
  refine ⟨mc, ns, ?_⟩
  have e := of_decide_eq_true b
  obtain ⟨o, es, n, ho, hd, _, look⟩ := ns
  unfold PySem.W.nsIn at e
  split at e
  · rename_i c d es' n' sl at_
    have z := (X _ _ at_).symm.trans ho
    cases z
    cases hd
    split at e
    · cases e
    · rename_i none_
      rw [← look]
      unfold nsFind findBy
      rw [← Array.find?_toList, none_]; rfl
  · cases e
section
variable {X : Cx} {k : Nat}
theorem call_int_strL (b : digB X.K = true) : CallR X (.type "int") (fun xs H Q => ∃ a n, xs = [.str a] ∧ PySem.intText? a = some n ∧ a.length ≤ sizeLine ∧ Q (.int n) H) := by
  intro pins s σ H xs us Q I r h
  obtain ⟨a, n, rfl, hn, hl, q⟩ := h
  obtain ⟨u, rfl, t, rfl⟩ := vals1 r
  exact al_call_text (noDigits_of I.kIn I.nolimit b) hl hn ⟨.int n, H, I.tok _, ⟨_, rfl⟩, q⟩
theorem call_str_intL (hd : X.A.handled = none) (b : digB X.K = true) : CallR X (.type "str") (fun xs H Q => ∃ i, xs = [.int i] ∧ i.natAbs < 10 ^ 4300 ∧ Q (.str (toString i)) H) := by
  intro pins s σ H xs us Q I r h
  obtain ⟨i, rfl, hz, q⟩ := h
  obtain ⟨u, rfl, t, rfl⟩ := vals1 r
  exact str_of_int_or hd (noDigits_of I.kIn I.nolimit b) (fun _ => ⟨.str _, H, I.tok _, ⟨_, rfl⟩, q⟩) (fun z => absurd hz (Nat.not_lt.mpr z))
/-- // of an int below 2 ^ 13500 by any divisor but 0 -/
def CDivB (i j : Int) : Prop := j ≠ 0 ∧ i.natAbs < 2 ^ 13500
theorem noPylong_big {i j : Int} (h : i.natAbs < 2 ^ 13500) : Builtin.divisionGoesByPylong i j = false := by
  have hl : i.natAbs.log2 < 13500 := log2_small (by decide) h
  have key : ((if j == 0 then 0 else j.natAbs.log2 / 30 + 1) > 300) → ¬ ((if i == 0 then 0 else i.natAbs.log2 / 30 + 1) > (if j == 0 then 0 else j.natAbs.log2 / 30 + 1) + 150) := by
    intro h1 h2
    split at h2 <;> omega
  show (decide ((if j == 0 then 0 else j.natAbs.log2 / 30 + 1) > 300) && decide ((if i == 0 then 0 else i.natAbs.log2 / 30 + 1) > (if j == 0 then 0 else j.natAbs.log2 / 30 + 1) + 150)) = false
  by_cases h1 : (if j == 0 then 0 else j.natAbs.log2 / 30 + 1) > 300
  · rw [decide_eq_false (key h1), Bool.and_false]
  · rw [decide_eq_false h1, Bool.false_and]
theorem op_fdivB : OpR X (binaryOp .FloorDiv) (rI CDivB fun i j => .int (i.fdiv j)) := by
  intro pins s σ H x y v u Q I rx ry h
  obtain ⟨i, j, rfl, rfl, ⟨hj, hi⟩, q⟩ := h
  obtain ⟨t, rfl⟩ := rx
  obtain ⟨t', rfl⟩ := ry
  exact floordiv_int hj ⟨.int _, H, I.tok _, ⟨_, rfl⟩, q⟩ (.inl (noPylong_big hi))
end
end AL
set_option Elab.async false
set_option maxRecDepth 100000
set_option exponentiation.threshold 70000
set_option maxHeartbeats 4000000
/-! Texts as rows of codes: slices, prefixes, repeated texts, tuple(text). -/
namespace AL
open PySem PySem.Spec PyProof.Rows L2
abbrev S (l : List Nat) : Str := ⟨l.toArray⟩
theorem S_of (z : Str) : ∃ l, z = S l := ⟨z.cps.toList, by cases z; rfl⟩
theorem S_len (l : List Nat) : (S l).length = l.length := by simp [S, Str.length]
theorem S_tl (l : List Nat) : (S l).cps.toList = l := rfl
theorem S_inj {a b : List Nat} : S a = S b ↔ a = b := ⟨fun h => congrArg (fun x : Str => x.cps.toList) h, fun h => by rw [h]⟩
theorem cut_mid (l : List Nat) (i j : Nat) : cutS (S l) (some (i : Int)) (some (j : Int)) = S ((l.take j).drop i) := by
  unfold cutS
  rw [HT.sIx_nat, HT.sIx_nat, S_len]
  refine S_inj.mpr ?_
  show (l.drop (min i l.length)).take (min j l.length - min i l.length) = _
  rw [← List.drop_take]
  have e1 : l.take (min j l.length) = l.take j := by
    refine (List.take_eq_take_iff).mpr ?_
    omega
  rw [e1]
  by_cases h : i ≤ l.length
  · rw [Nat.min_eq_left h]
  · rw [Nat.min_eq_right (by omega), List.drop_eq_nil_of_le (by rw [List.length_take]; omega), List.drop_eq_nil_of_le (by rw [List.length_take]; omega)]
theorem cut_to (l : List Nat) (j : Nat) : cutS (S l) none (some (j : Int)) = S (l.take j) := by
  have e := cut_mid l 0 j
  have z : HT.sIx (S l).length 0 none = HT.sIx (S l).length 0 (some ((0 : Nat) : Int)) := by rw [HT.sIx_nat]; simp [HT.sIx]
  unfold cutS at e ⊢
  rw [z, e, List.drop_zero]
theorem minusS : ("-" : Str) = S [45] := by kernel_rfl
theorem slashS : ("/" : Str) = S [47] := by kernel_rfl
theorem emptyS : ("" : Str) = S [] := by kernel_rfl
theorem digitsS : ("0123456789" : Str) = S [48, 49, 50, 51, 52, 53, 54, 55, 56, 57] := by kernel_rfl
/-- whether a row of codes begins with a minus -/
def neg (l : List Nat) : Bool := decide (l[0]? = some 45)
theorem starts_minus (l : List Nat) : Txt.startswith (S l) "-" = neg l := by
  rw [minusS]
  unfold Txt.startswith neg
  rw [StrLaws.subAt_eq, S_len, S_len, S_tl, S_tl]
  cases l with
  | nil => rfl
  | cons c l =>
    by_cases h : c = 45
    · subst h; simp
    · simp [h]
theorem strip_minus {l : List Nat} (h : ∀ c, (l.drop (neg l).toNat)[0]? = some c → c ≠ 45) : Txt.lstripChars (S l) "-" = S (l.drop (neg l).toNat) := by
  rw [minusS]
  have key : ∀ m : List Nat, (∀ c, m[0]? = some c → c ≠ 45) → m.takeWhile ((S [45]).cps.contains) = [] := by
    intro m hm
    cases m with
    | nil => rfl
    | cons c m =>
      have : c ≠ 45 := hm c rfl
      have z : ((S [45]).cps.contains c) = false := by
        show (#[45] : Array Nat).contains c = false
        simp [this]
      rw [List.takeWhile_cons, z]; rfl
  unfold Txt.lstripChars Txt.stripBy
  cases l with
  | nil => rfl
  | cons c l =>
    by_cases hc : c = 45
    · subst hc
      have hn : neg (45 :: l) = true := by simp [neg]
      rw [hn] at h ⊢
      have hk := key l (fun d e => h d e)
      have lo : stripLo ((S [45]).cps.contains) true (S (45 :: l)) = 1 := by
        show ((45 :: l).takeWhile _).length = 1
        rw [List.takeWhile_cons, show ((S [45]).cps.contains 45) = true by show (#[45] : Array Nat).contains 45 = true; simp, if_pos rfl, hk]; rfl
      have ne : stripSame ((S [45]).cps.contains) true false (S (45 :: l)) = false := by
        unfold stripSame
        rw [lo]; rfl
      rw [ne, if_neg (by decide)]
      unfold stripped
      rw [lo]
      show Builtin.Str.strSub (S (45 :: l)) 1 (S (45 :: l)).length = S l
      rw [S_len, strSub_mk]
      refine S_inj.mpr ?_
      show List.take _ ((45 :: l).drop 1) = l
      simp
    · have hn : neg (c :: l) = false := by simp [neg, hc]
      rw [hn] at h ⊢
      have hk := key (c :: l) (fun d e => by simp at e; rw [← e]; exact hc)
      have same : stripSame ((S [45]).cps.contains) true false (S (c :: l)) = true := by
        unfold stripSame
        have lo : stripLo ((S [45]).cps.contains) true (S (c :: l)) = 0 := by
          show ((c :: l).takeWhile _).length = 0
          rw [hk]; rfl
        rw [lo]
        simp [stripHi]
      rw [same, if_pos rfl]
      rfl
theorem pair_ix {α β : Type} {F : α → β → Prop} : ∀ {xs : List α} {ys : List β}, xs.length = ys.length → (∀ (j : Nat) x y, xs[j]? = some x → ys[j]? = some y → F x y) → Paired F xs ys
  | [], [], _, _ => .nil
  | [], _ :: _, h, _ => by cases h
  | _ :: _, [], h, _ => by cases h
  | x :: xs, y :: ys, h, k => .cons (k 0 x y rfl rfl) (pair_ix (Nat.succ.inj h) fun j a b e f => k (j + 1) a b e f)
/-! ### the rules -/
section
variable {X : Cx}
/-- z * k, z a short text -/
theorem op_mulS : OpR X (binaryOp .Mult) (fun x y H Q => ∃ (z : Str) (k : Nat), x = .str z ∧ y = .int (k : Int) ∧ z.length ≤ 10 ∧ k ≤ 10000 ∧ ∀ z' : Str, z'.length ≤ z.length * k → Q (.str z') H) := by
  intro pins s σ H x y v u Q I rx ry h
  obtain ⟨z, k, rfl, rfl, hz, hk, q⟩ := h
  obtain ⟨t, rfl⟩ := rx
  obtain ⟨t', rfl⟩ := ry
  have hfit : z.length * k ≤ 100000 := Nat.le_trans (Nat.mul_le_mul hz hk) (by decide)
  refine SB.mul ⟨?_, fun h1 _ => ?_, fun _ _ => ?_⟩ fun tk n => ⟨.str _, H, I.tok _, ⟨_, rfl⟩, q _ ?_⟩
  · rw [Bool.or_eq_false_iff]
    exact ⟨decide_eq_false (by omega), decide_eq_false (by omega)⟩
  · have hk0 : 0 < (k : Int) := by omega
    have : ((2 : Int) ^ 63 - 1) / (k : Int) ≥ 10 := by
      rw [ge_iff_le, Int.le_ediv_iff_mul_le hk0]
      have : (10 : Int) * k ≤ 100000 := by omega
      exact Int.le_trans this (by decide)
    omega
  · unfold Builtin.Str.tooLong
    rw [Int.toNat_natCast]
    refine decide_eq_false (Nat.not_lt.mpr (Nat.le_trans hfit (by decide)))
  · unfold Txt.mul
    split
    · exact Nat.zero_le _
    · split
      · rename_i h1 h2
        have hk1 : 1 ≤ k := by omega
        exact Nat.le_mul_of_pos_right _ hk1
      · rw [Int.toNat_natCast]
        have key : ∀ (n : Nat) (acc : Array Nat), ((List.replicate n z.cps).foldl (· ++ ·) acc).size = acc.size + n * z.cps.size := by
          intro n
          induction n with
          | zero => intro acc; simp
          | succ n ih => intro acc; rw [List.replicate_succ, List.foldl_cons, ih, Array.size_append, Nat.succ_mul]; omega
        show ((List.replicate k z.cps).foldl (· ++ ·) #[]).size ≤ z.length * k
        rw [key, Nat.mul_comm k]
        show 0 + z.cps.size * k ≤ z.cps.size * k
        omega
/-- tuple(text) -/
theorem call_tuple_text (hh : X.A.handled = none) : CallR X (.type "tuple") (fun xs H Q => ∃ l : List Nat, xs = [.str (S l)] ∧ l.length ≤ sizeLine ∧ ∀ p, H p = none → Q (.ref p) (upd H p (.tup (l.map fun c => V.str (S [c]))))) := by
  intro pins s σ H xs us Q I r h
  obtain ⟨l, rfl, hl, q⟩ := h
  obtain ⟨u, rfl, t, rfl⟩ := vals1 r
  have hsz : (S l).cps.size = l.length := by simp [S]
  refine call_tuple_str hh _ _ (fun h' tk acc kp it => ?_) (by rw [hsz]; exact hl)
  have gone : s.heap.get? h'.objs.size = none := by
    cases e : s.heap.get? h'.objs.size with
    | none => rfl
    | some o =>
      have z := kp _ _ e
      rw [Heap.get?_none_of_le (Nat.le_refl _)] at z
      cases z
  have fresh : H h'.objs.size = none := I.hok.gone gone
  have vals : Vals (l.map fun c => V.str (S [c])) acc.toList := by
    obtain ⟨i1, i2⟩ := it
    rw [hsz] at i1
    refine pair_ix (by rw [List.length_map]; exact i1.symm.trans Array.length_toList.symm) fun j x y hx hy => ?_
    rw [List.getElem?_map] at hx
    rw [Array.getElem?_toList] at hy
    obtain ⟨c, u, e1, e2⟩ := i2 j y hy
    have e1' : l[j]? = some c := by simpa [S] using e1
    rw [e1'] at hx
    cases hx
    exact ⟨u, e2⟩
  have I2 : Inv X pins σ (upd H h'.objs.size (.tup (l.map fun c => V.str (S [c])))) { s with heap := h'.push { cls := .type "tuple", data := .seq acc }, toks := tk } :=
    I.laidN (t' := tk) (fun b o e => Heap.get?_push_of_some _ (kp b o e)) gone fresh (show ObjOk X.prog X.w _ _ _ (.tup _) from ⟨by rw [List.length_map]; exact hl, acc.toList, vals, by
      rw [show acc.toList.toArray = acc by simp]; exact IsTup.new _ _⟩)
  exact ⟨.ref h'.objs.size, _, I2, rfl, q _ fresh⟩
end
end AL
set_option Elab.async false
set_option maxRecDepth 100000
set_option exponentiation.threshold 70000
/-! What a text of a ratio is read as. -/
namespace AL
open PySem L2 PySem.NumText
def isD (c : Nat) : Bool := decide (48 ≤ c) && decide (c ≤ 57)
theorem isD_mem (c : Nat) : isD c = decide (c ∈ [48, 49, 50, 51, 52, 53, 54, 55, 56, 57]) := by
  unfold isD
  by_cases h : 48 ≤ c ∧ c ≤ 57
  · have : c ∈ [48, 49, 50, 51, 52, 53, 54, 55, 56, 57] := by simp; omega
    simp [h.1, h.2, this]
  · have : ¬ c ∈ [48, 49, 50, 51, 52, 53, 54, 55, 56, 57] := by simp; omega
    simp [this]; omega
/-- where the digits that begin at i end -/
def dEnd (l : List Nat) (i : Nat) : Nat := i + ((l.drop i).takeWhile isD).length
theorem dEnd_ge (l : List Nat) (i : Nat) : i ≤ dEnd l i := Nat.le_add_right _ _
theorem tw_le {p : Nat → Bool} : ∀ l : List Nat, (l.takeWhile p).length ≤ l.length
  | [] => Nat.le_refl _
  | c :: l => by
    rw [List.takeWhile_cons]
    split
    · exact Nat.succ_le_succ (tw_le l)
    · exact Nat.zero_le _
theorem tw_at {p : Nat → Bool} : ∀ (l : List Nat) (j : Nat) (c : Nat), j < (l.takeWhile p).length → l[j]? = some c → p c = true
  | [], j, c, h, _ => by cases h
  | d :: l, j, c, h, e => by
    rw [List.takeWhile_cons] at h
    split at h
    · rename_i hd
      cases j with
      | zero => cases e; exact hd
      | succ j => exact tw_at l j c (Nat.lt_of_succ_lt_succ h) e
    · cases h
theorem tw_end {p : Nat → Bool} : ∀ (l : List Nat) (c : Nat), l[(l.takeWhile p).length]? = some c → p c = false
  | [], c, e => by cases e
  | d :: l, c, e => by
    rw [List.takeWhile_cons] at e
    split at e
    · exact tw_end l c e
    · rename_i hd
      cases e
      exact Bool.eq_false_iff.mpr hd
theorem dEnd_le {l : List Nat} {i : Nat} (h : i ≤ l.length) : dEnd l i ≤ l.length := by
  have := tw_le (p := isD) (l.drop i)
  rw [List.length_drop] at this
  unfold dEnd; omega
theorem dEnd_in {l : List Nat} {i j c : Nat} (h0 : i ≤ j) (h : j < dEnd l i) (e : l[j]? = some c) : isD c = true := by
  refine tw_at (l.drop i) (j - i) c (by unfold dEnd at h; omega) ?_
  rw [List.getElem?_drop, show i + (j - i) = j by omega]
  exact e
theorem dEnd_out {l : List Nat} {i c : Nat} (e : l[dEnd l i]? = some c) : isD c = false := by
  refine tw_end (l.drop i) c ?_
  rw [List.getElem?_drop]
  exact e
/-- the row of digits from i on -/
def rowAt (l : List Nat) (i j : Nat) : List Nat := (l.take j).drop i
theorem rowAt_len {l : List Nat} {i j : Nat} (h : j ≤ l.length) : (rowAt l i j).length = j - i := by
  unfold rowAt
  rw [List.length_drop, List.length_take]; omega
theorem rowAt_digits {l : List Nat} {i : Nat} : AllDigits (rowAt l i (dEnd l i)) := by
  intro c hc
  obtain ⟨j, hj⟩ := List.mem_iff_getElem?.mp hc
  unfold rowAt at hj
  rw [List.getElem?_drop, List.getElem?_take] at hj
  split at hj
  · have := dEnd_in (Nat.le_add_right i j) (by assumption) hj
    unfold isD at this
    simpa using this
  · cases hj
inductive Res | text (c : Nat) | large (n : Nat) | ratio (p q : Int)
/-- the first sign's place behind a minus -/
def fst0 (l : List Nat) : Nat := if neg l = true then 1 else 0
def mid0 (l : List Nat) : Nat := dEnd l (fst0 l)
def end0 (l : List Nat) : Nat := dEnd l (mid0 l + 1)
def slash0 (l : List Nat) : Bool := decide (l[mid0 l]? = some 47)
def sgn (l : List Nat) (n : Int) : Int := if neg l = true then -n else n
def topV (l : List Nat) : Nat := digitsVal (rowAt l (fst0 l) (mid0 l))
def botV (l : List Nat) : Nat := digitsVal (rowAt l (mid0 l + 1) (end0 l))
def red (a b : Nat) : Int × Int := (((a / Nat.gcd a b : Nat) : Int), ((b / Nat.gcd a b : Nat) : Int))
def res (l : List Nat) : Res :=
  if mid0 l = fst0 l then .text (fst0 l + 1) else
  if slash0 l = true then
    if end0 l = mid0 l + 1 then .text (end0 l + 1) else
    if end0 l < l.length then .text (end0 l + 1) else
    if 4000 < mid0 l - fst0 l then .large (mid0 l - fst0 l) else
    if 4000 < end0 l - (mid0 l + 1) then .large (end0 l - (mid0 l + 1)) else
    if botV l = 0 then .text (mid0 l + 2) else .ratio (sgn l (red (topV l) (botV l)).1) (red (topV l) (botV l)).2
  else if mid0 l < l.length then .text (mid0 l + 1) else
    if 4000 < mid0 l - fst0 l then .large (mid0 l - fst0 l) else .ratio (sgn l (topV l)) 1
/-- the first wrong column, 0 if there is none -/
def wcol (l : List Nat) : Nat :=
  if mid0 l = fst0 l then fst0 l + 1 else
  if slash0 l = true then if end0 l = mid0 l + 1 ∨ end0 l < l.length then end0 l + 1 else 0
  else if mid0 l < l.length then mid0 l + 1 else 0
theorem fst0_le (l : List Nat) : fst0 l ≤ l.length := by
  unfold fst0 neg
  cases l with
  | nil => decide
  | cons c l => split <;> simp
theorem mid0_le (l : List Nat) : mid0 l ≤ l.length := dEnd_le (fst0_le l)
theorem fst_mid (l : List Nat) : fst0 l ≤ mid0 l := dEnd_ge _ _
theorem slash_lt {l : List Nat} (h : slash0 l = true) : mid0 l < l.length := by
  have := of_decide_eq_true h
  exact (List.getElem?_eq_some_iff.mp this).1
theorem end0_le {l : List Nat} (h : slash0 l = true) : end0 l ≤ l.length := dEnd_le (slash_lt h)
theorem res_bad {l : List Nat} (h : 0 < wcol l) : res l = .text (wcol l) := by
  unfold wcol at h ⊢
  unfold res
  by_cases h1 : mid0 l = fst0 l
  · rw [if_pos h1, if_pos h1]
  · rw [if_neg h1] at h ⊢
    rw [if_neg h1]
    by_cases h2 : slash0 l = true
    · rw [if_pos h2] at h ⊢
      rw [if_pos h2]
      by_cases h3 : end0 l = mid0 l + 1
      · rw [if_pos h3, if_pos (.inl h3)]
      · rw [if_neg h3]
        by_cases h4 : end0 l < l.length
        · rw [if_pos h4, if_pos (.inr h4)]
        · rw [if_neg (by omega)] at h
          omega
    · rw [if_neg h2] at h ⊢
      rw [if_neg h2]
      by_cases h4 : mid0 l < l.length
      · rw [if_pos h4, if_pos h4]
      · rw [if_neg h4] at h
        omega
/-- a text without a wrong column -/
theorem wcol0 {l : List Nat} (h : wcol l = 0) : fst0 l < mid0 l ∧ ((slash0 l = true ∧ mid0 l + 1 < end0 l ∧ end0 l = l.length) ∨ (slash0 l = false ∧ mid0 l = l.length)) := by
  have a1 := fst_mid l
  have a2 := mid0_le l
  unfold wcol at h
  by_cases h1 : mid0 l = fst0 l
  · rw [if_pos h1] at h; omega
  · rw [if_neg h1] at h
    refine ⟨by omega, ?_⟩
    by_cases h2 : slash0 l = true
    · rw [if_pos h2] at h
      have a3 := end0_le h2
      have a4 : mid0 l + 1 ≤ end0 l := dEnd_ge _ _
      by_cases h3 : end0 l = mid0 l + 1 ∨ end0 l < l.length
      · rw [if_pos h3] at h; omega
      · exact .inl ⟨h2, by omega, by omega⟩
    · rw [if_neg h2] at h
      by_cases h4 : mid0 l < l.length
      · rw [if_pos h4] at h; omega
      · exact .inr ⟨Bool.eq_false_iff.mpr h2, by omega⟩
theorem res_ok {l : List Nat} (h : wcol l = 0) : res l =
    if 4000 < mid0 l - fst0 l then .large (mid0 l - fst0 l) else
    if slash0 l = true then if 4000 < end0 l - (mid0 l + 1) then .large (end0 l - (mid0 l + 1)) else
      if botV l = 0 then .text (mid0 l + 2) else .ratio (sgn l (red (topV l) (botV l)).1) (red (topV l) (botV l)).2
    else .ratio (sgn l (topV l)) 1 := by
  obtain ⟨h1, h2⟩ := wcol0 h
  unfold res
  rw [if_neg (by omega)]
  rcases h2 with ⟨e, h3, h4⟩ | ⟨e, h3⟩
  · rw [if_pos e, if_pos e, if_neg (by omega), if_neg (by omega)]
  · rw [if_neg (by rw [e]; decide), if_neg (by omega)]
    split
    · rfl
    · rw [if_neg (by rw [e]; decide)]
/-! ### Euclid's steps -/
def pairOk (a b : Nat) (i x y : Nat) : Prop := Nat.gcd x y = Nat.gcd a b ∧ (i = 0 → x = a ∧ y = b) ∧ (0 < i → y ≤ x ∧ x * y * 2 ^ (i - 1) ≤ a * b)
theorem pairOk0 (a b : Nat) : pairOk a b 0 a b := ⟨rfl, fun _ => ⟨rfl, rfl⟩, fun h => absurd h (Nat.lt_irrefl _)⟩
theorem pairOk_step {a b i x y : Nat} (h : pairOk a b i x y) (hy : y ≠ 0) : pairOk a b (i + 1) y (x % y) := by
  obtain ⟨h1, h2, h3⟩ := h
  have hlt : x % y < y := Nat.mod_lt _ (by omega)
  refine ⟨?_, fun z => by omega, fun _ => ⟨Nat.le_of_lt hlt, ?_⟩⟩
  · rw [← h1, Nat.gcd_comm x y, Nat.gcd_rec y x, Nat.gcd_comm]
  · rw [Nat.add_sub_cancel]
    by_cases hi : i = 0
    · obtain ⟨rfl, rfl⟩ := h2 hi
      subst hi
      rw [Nat.pow_zero, Nat.mul_one, Nat.mul_comm x y]
      exact Nat.mul_le_mul_left _ (Nat.mod_le _ _)
    · obtain ⟨h4, h5⟩ := h3 (by omega)
      obtain ⟨j, rfl⟩ : ∃ j, i = j + 1 := ⟨i - 1, by omega⟩
      rw [Nat.add_sub_cancel] at h5
      have half : 2 * (x % y) ≤ x := by
        have e := Nat.div_add_mod x y
        have hq : 1 ≤ x / y := (Nat.le_div_iff_mul_le (by omega)).mpr (by omega)
        have hm : y ≤ y * (x / y) := Nat.le_mul_of_pos_right _ hq
        omega
      refine Nat.le_trans ?_ h5
      rw [Nat.pow_succ, Nat.mul_comm (2 ^ j) 2, ← Nat.mul_assoc]
      refine Nat.mul_le_mul_right _ ?_
      rw [Nat.mul_assoc, Nat.mul_comm (x % y) 2, Nat.mul_comm x y]
      exact Nat.mul_le_mul_left _ half
theorem pairOk_zero {a b x y : Nat} (h : pairOk a b 60000 x y) (ha : a < 10 ^ 6000) (hb : b < 10 ^ 6000) : y = 0 := by
  obtain ⟨_, _, h3⟩ := h
  obtain ⟨h4, h5⟩ := h3 (by decide)
  by_cases hz : y = 0
  · exact hz
  · exfalso
    have hab : a * b < 10 ^ 6000 * 10 ^ 6000 := Nat.mul_lt_mul_of_lt_of_lt ha hb
    have hxy : 1 ≤ x * y := Nat.mul_pos (by omega) (by omega)
    have : 1 * 2 ^ (60000 - 1) ≤ x * y * 2 ^ (60000 - 1) := Nat.mul_le_mul_right _ hxy
    have big : (10 : Nat) ^ 6000 * 10 ^ 6000 ≤ 1 * 2 ^ (60000 - 1) := by decide +kernel
    omega
theorem pairOk_end {a b i x : Nat} (h : pairOk a b i x 0) : x = Nat.gcd a b := by
  have := h.1
  rwa [Nat.gcd_zero_right] at this
end AL
set_option Elab.async false
set_option maxRecDepth 100000
set_option exponentiation.threshold 70000
/-! The texts within a text of a ratio. -/
namespace AL
open PySem L2 PySem.NumText
def N4 : Nat := 10 ^ 4000
def N6 : Nat := 10 ^ 6000
theorem pow4000 : N4 < 2 ^ 13500 := by unfold N4; decide +kernel
theorem pow46 : N4 ≤ N6 := Nat.pow_le_pow_right (by decide) (by decide)
theorem no_slash {l : List Nat} : ∀ c ∈ l.take (mid0 l), c ≠ 47 := by
  intro c hc
  obtain ⟨j, hj⟩ := List.mem_iff_getElem?.mp hc
  rw [List.getElem?_take] at hj
  split at hj
  · rename_i hlt
    by_cases h : fst0 l ≤ j
    · have := dEnd_in h hlt hj
      intro e
      rw [e] at this
      exact absurd this (by decide)
    · have hf : fst0 l = 1 ∧ neg l = true := by
        unfold fst0 at h ⊢
        by_cases hn : neg l = true
        · exact ⟨if_pos hn, hn⟩
        · rw [if_neg hn] at h; omega
      have hj0 : j = 0 := by omega
      subst hj0
      have := of_decide_eq_true hf.2
      rw [this] at hj
      cases hj
      decide
  · cases hj
theorem S_app (a b : List Nat) : S a ++ S b = S (a ++ b) := TL.ext_tl (TL.tl_append (S a) (S b))
theorem part_slash {l : List Nat} (e : slash0 l = true) : Txt.partition (S l) "/" = (S (l.take (mid0 l)), ("/" : Str), S (l.drop (mid0 l + 1))) := by
  have hs := of_decide_eq_true e
  have hl : l = l.take (mid0 l) ++ ([47] ++ l.drop (mid0 l + 1)) := by
    have h1 : l.drop (mid0 l) = 47 :: l.drop (mid0 l + 1) := by
      obtain ⟨h2, h3⟩ := List.getElem?_eq_some_iff.mp hs
      rw [List.drop_eq_getElem_cons h2, h3]
    rw [List.singleton_append, ← h1, List.take_append_drop]
  have := TL.partition_app (y := S [47]) (s := 47) (S := []) rfl (a := S (l.take (mid0 l))) (b := S (l.drop (mid0 l + 1))) (fun h => no_slash 47 h rfl)
  rw [S_app, S_app, List.append_assoc, ← hl] at this
  rw [slashS]
  exact this
theorem part_none {l : List Nat} (e : mid0 l = l.length) : Txt.partition (S l) "/" = (S l, Str.empty, Str.empty) := by
  rw [slashS]
  refine TL.partition_none (y := S [47]) (s := 47) (S := []) rfl fun h => ?_
  have h' : 47 ∈ l := h
  refine no_slash (l := l) 47 ?_ rfl
  rw [e, List.take_length]
  exact h'
theorem fst_eq (l : List Nat) : fst0 l = (neg l).toNat := by
  unfold fst0
  cases neg l <;> rfl
theorem neg_take {l : List Nat} (h : fst0 l < mid0 l) : neg (l.take (mid0 l)) = neg l := by
  unfold neg
  rw [List.getElem?_take, if_pos (by omega)]
theorem head_top {l : List Nat} (h : fst0 l < mid0 l) : ∃ c, (rowAt l (fst0 l) (mid0 l))[0]? = some c ∧ isD c = true := by
  have hl : fst0 l < l.length := Nat.lt_of_lt_of_le h (mid0_le l)
  have e : (rowAt l (fst0 l) (mid0 l))[0]? = some l[fst0 l] := by
    unfold rowAt
    rw [List.getElem?_drop, List.getElem?_take, Nat.add_zero, if_pos h, List.getElem?_eq_getElem hl]
  exact ⟨_, e, dEnd_in (Nat.le_refl _) h (List.getElem?_eq_getElem hl)⟩
theorem strip_top {l : List Nat} (h : fst0 l < mid0 l) : Txt.lstripChars (S (l.take (mid0 l))) "-" = S (rowAt l (fst0 l) (mid0 l)) := by
  obtain ⟨c, hc, hd⟩ := head_top h
  have e : (l.take (mid0 l)).drop (neg (l.take (mid0 l))).toNat = rowAt l (fst0 l) (mid0 l) := by
    rw [neg_take h, ← fst_eq]; rfl
  rw [strip_minus, e]
  intro d hdd
  rw [e, hc] at hdd
  cases hdd
  intro z
  rw [z] at hd
  exact absurd hd (by decide)
theorem row_int {l : List Nat} {i : Nat} (h : i < dEnd l i) (hi : i ≤ l.length) (h4 : dEnd l i - i ≤ 4000) : intText? (S (rowAt l i (dEnd l i))) = some ((digitsVal (rowAt l i (dEnd l i)) : Nat) : Int) := by
  have hlen := rowAt_len (l := l) (i := i) (dEnd_le hi)
  refine intText_digits rowAt_digits (fun z => ?_) ?_
  · have : (rowAt l i (dEnd l i)).length = 0 := congrArg List.length z
    omega
  · rw [S_len, hlen]; omega
theorem int_top {l : List Nat} (h : fst0 l < mid0 l) (h4 : mid0 l - fst0 l ≤ 4000) : intText? (S (l.take (mid0 l))) = some (sgn l (topV l)) := by
  have hlen := rowAt_len (l := l) (i := fst0 l) (mid0_le l)
  have hf := fst0_le l
  have hm := mid0_le l
  by_cases hn : neg l = true
  · have hf1 : fst0 l = 1 := by unfold fst0; rw [if_pos hn]
    have h0 : l[0]? = some 45 := of_decide_eq_true hn
    have ht : l.take (mid0 l) = 45 :: rowAt l (fst0 l) (mid0 l) := by
      unfold rowAt
      rw [hf1]
      cases l with
      | nil => cases h0
      | cons c l' =>
        simp at h0
        subst h0
        obtain ⟨j, hj⟩ : ∃ j, mid0 (45 :: l') = j + 1 := ⟨mid0 (45 :: l') - 1, by omega⟩
        rw [hj]; rfl
    rw [intText_neg (cs := rowAt l (fst0 l) (mid0 l)) ht rowAt_digits (fun z => by
      have : (rowAt l (fst0 l) (mid0 l)).length = 0 := congrArg List.length z
      omega) (by rw [S_len, List.length_take]; omega)]
    unfold sgn
    rw [if_pos hn]
    rfl
  · have hf0 : fst0 l = 0 := by unfold fst0; rw [if_neg hn]
    have ht : l.take (mid0 l) = rowAt l (fst0 l) (mid0 l) := by unfold rowAt; rw [hf0]; rfl
    rw [ht]
    unfold sgn
    rw [if_neg hn]
    exact row_int h hf h4
theorem bot_eq {l : List Nat} (e : end0 l = l.length) : l.drop (mid0 l + 1) = rowAt l (mid0 l + 1) (end0 l) := by
  unfold rowAt
  rw [e, List.take_length]
theorem topV_lt {l : List Nat} (h4 : mid0 l - fst0 l ≤ 4000) : topV l < N4 := by
  have := digitsVal_lt _ _ rfl (rowAt_digits (l := l) (i := fst0 l))
  rw [rowAt_len (dEnd_le (fst0_le l))] at this
  exact Nat.lt_of_lt_of_le this (Nat.pow_le_pow_right (by decide) h4)
theorem botV_lt {l : List Nat} (e : slash0 l = true) (h4 : end0 l - (mid0 l + 1) ≤ 4000) : botV l < N4 := by
  have := digitsVal_lt _ _ rfl (rowAt_digits (l := l) (i := mid0 l + 1))
  rw [rowAt_len (dEnd_le (slash_lt e))] at this
  exact Nat.lt_of_lt_of_le this (Nat.pow_le_pow_right (by decide) h4)
theorem sgn_abs (l : List Nat) (n : Nat) : (sgn l (n : Int)).natAbs = n := by
  unfold sgn
  split <;> omega
theorem sgn_div (l : List Nat) (a b : Nat) : (sgn l (a : Int)).fdiv ((Nat.gcd a b : Nat) : Int) = sgn l ((a / Nat.gcd a b : Nat) : Int) := by
  have hd : ((Nat.gcd a b : Nat) : Int) ∣ (a : Int) := Int.natCast_dvd_natCast.mpr (Nat.gcd_dvd_left a b)
  unfold sgn
  split
  · rw [Int.fdiv_eq_ediv_of_nonneg _ (Int.natCast_nonneg _), Int.neg_ediv_of_dvd hd]
    rfl
  · rw [Int.fdiv_eq_ediv_of_nonneg _ (Int.natCast_nonneg _)]
    rfl
end AL
set_option Elab.async false
set_option maxRecDepth 100000
set_option exponentiation.threshold 70000
/-! Whole roots by Newton's steps; how many digits a number has. -/
namespace AL
open PySem L2 PySem.NumText
theorem tangent (g r : Nat) : ∀ k : Nat, (k + 1) * r * g ^ k ≤ r ^ (k + 1) + k * g ^ (k + 1)
  | 0 => by simp
  | k + 1 => by
    have ih := tangent g r k
    have h1 : (k + 1) * r * g ^ k * r ≤ (r ^ (k + 1) + k * g ^ (k + 1)) * r := Nat.mul_le_mul_right r ih
    have sq : 2 * (r * g) ≤ r * r + g * g := by
      rcases Nat.le_total r g with h | h
      · obtain ⟨d, rfl⟩ := Nat.le.dest h
        simp only [Nat.mul_add, Nat.add_mul]
        have : r * d = d * r := Nat.mul_comm _ _
        omega
      · obtain ⟨d, rfl⟩ := Nat.le.dest h
        simp only [Nat.mul_add, Nat.add_mul]
        have : g * d = d * g := Nat.mul_comm _ _
        omega
    have h2 := Nat.mul_le_mul_left ((k + 1) * g ^ k) sq
    have e1 : (k + 1) * r * g ^ k * r = (k + 1) * g ^ k * (r * r) := by
      simp only [Nat.mul_assoc, Nat.mul_comm, Nat.mul_left_comm]
    have e2 : (r ^ (k + 1) + k * g ^ (k + 1)) * r = r ^ (k + 2) + k * (g ^ (k + 1) * r) := by
      rw [Nat.add_mul, ← Nat.pow_succ, Nat.mul_assoc]
    have e3 : (k + 1) * g ^ k * (2 * (r * g)) = 2 * ((k + 1) * (g ^ (k + 1) * r)) := by
      rw [Nat.pow_succ]
      simp only [Nat.mul_assoc, Nat.mul_comm, Nat.mul_left_comm]
    have e4 : (k + 1) * g ^ k * (r * r + g * g) = (k + 1) * g ^ k * (r * r) + (k + 1) * g ^ (k + 2) := by
      rw [Nat.mul_add, Nat.pow_succ, Nat.pow_succ]
      simp only [Nat.mul_assoc]
    have e5 : (k + 1 + 1) * r * g ^ (k + 1) = (k + 1) * (g ^ (k + 1) * r) + g ^ (k + 1) * r := by
      rw [Nat.add_mul (k + 1) 1 r, Nat.one_mul, Nat.add_mul, Nat.mul_assoc, Nat.mul_comm r (g ^ (k + 1))]
    rw [e1, e2] at h1
    rw [e3, e4] at h2
    rw [e5]
    have e6 : (k + 1) * (g ^ (k + 1) * r) = k * (g ^ (k + 1) * r) + g ^ (k + 1) * r := by rw [Nat.add_mul, Nat.one_mul]
    have e7 : r ^ (k + 1 + 1) = r ^ (k + 2) := rfl
    have e8 : (k + 1) * g ^ (k + 1 + 1) = (k + 1) * g ^ (k + 2) := rfl
    rw [e7, e8]
    rw [e6] at h2 ⊢
    omega
/-- the next guess for the root j + 1 -/
def nstep (n j g : Nat) : Nat := (j * g + n / g ^ j) / (j + 1)
theorem nstep_ge {n j g r : Nat} (hg : 0 < g) (h : r ^ (j + 1) ≤ n) : r ≤ nstep n j g := by
  have t := tangent g r j
  have hp : 0 < g ^ j := Nat.pow_pos hg
  unfold nstep
  rw [Nat.le_div_iff_mul_le (Nat.succ_pos j)]
  have e : j * g + n / g ^ j = (n + j * g * g ^ j) / g ^ j := by
    rw [Nat.add_mul_div_right _ _ hp, Nat.add_comm]
  rw [e, Nat.le_div_iff_mul_le hp]
  have e2 : j * g ^ (j + 1) = j * g * g ^ j := by rw [Nat.pow_succ, Nat.mul_comm (g ^ j) g, Nat.mul_assoc]
  rw [Nat.mul_comm r (j + 1)]
  omega
theorem nstep_end {n j g : Nat} (hg : 0 < g) (h : g ≤ nstep n j g) : g ^ (j + 1) ≤ n := by
  have hp : 0 < g ^ j := Nat.pow_pos hg
  unfold nstep at h
  rw [Nat.le_div_iff_mul_le (Nat.succ_pos j)] at h
  have : g ≤ n / g ^ j := by
    rw [Nat.mul_succ, Nat.mul_comm g j] at h
    omega
  rw [Nat.le_div_iff_mul_le hp] at this
  rw [Nat.pow_succ, Nat.mul_comm]
  exact this
/-- the greatest number whose power k is at most n -/
def isRoot (n k g : Nat) : Prop := g ^ k ≤ n ∧ ∀ r, r ^ k ≤ n → r ≤ g
theorem isRoot_eq {n k g r : Nat} (h : isRoot n k g) (hk : 0 < k) (e : r ^ k = n) : g = r := by
  have h1 := h.2 r (Nat.le_of_eq e)
  rcases Nat.lt_or_ge r g with h2 | h2
  · have := Nat.pow_lt_pow_left h2 (by omega : k ≠ 0)
    have := h.1
    omega
  · omega
theorem start_ok {n k r : Nat} (hk : 0 < k) (h : r ^ k ≤ n) : r ≤ 2 ^ ((n.log2 + 1) / k + 1) := by
  rcases Nat.lt_or_ge (2 ^ ((n.log2 + 1) / k + 1)) r with h2 | h2
  · exfalso
    have h3 := Nat.pow_lt_pow_left h2 (by omega : k ≠ 0)
    rw [← Nat.pow_mul] at h3
    have h4 : n.log2 + 1 ≤ ((n.log2 + 1) / k + 1) * k := by
      have := Nat.div_add_mod (n.log2 + 1) k
      have hm := Nat.mod_lt (n.log2 + 1) hk
      rw [Nat.add_mul, Nat.one_mul, Nat.mul_comm]
      omega
    have h5 : 2 ^ (n.log2 + 1) ≤ 2 ^ (((n.log2 + 1) / k + 1) * k) := Nat.pow_le_pow_right (by decide) h4
    have h6 : n < 2 ^ (n.log2 + 1) := Nat.lt_log2_self
    omega
  · exact h2
/-- how many digits -/
def ndig (n : Nat) : Nat := (TL.numL n).length
theorem ndig_pos (n : Nat) : 0 < ndig n := List.length_pos_iff.mpr (TL.numL_ne n)
theorem lt_ndig (n : Nat) : n < 10 ^ ndig n := by
  have := digitsVal_lt _ _ rfl (TL.numL_digits n)
  rwa [TL.numL_val] at this
theorem ndig_le {n k : Nat} (hk : 0 < k) (h : n < 10 ^ k) : ndig n ≤ k := TL.numL_len hk h
theorem ndig_lt {n k : Nat} (h : 10 ^ k ≤ n) : k < ndig n := by
  rcases Nat.lt_or_ge k (ndig n) with h1 | h1
  · exact h1
  · have := Nat.pow_le_pow_right (by decide : 0 < 10) h1
    have := lt_ndig n
    omega
theorem ndig_eq {n k : Nat} (h0 : 10 ^ k ≤ n) (h1 : n < 10 ^ (k + 1)) : ndig n = k + 1 := by
  have := ndig_lt h0
  have := ndig_le (Nat.succ_pos k) h1
  omega
theorem ndig_cut {n k : Nat} (h : 10 ^ k ≤ n) : ndig n = k + ndig (n / 10 ^ k) := by
  have hp : 0 < 10 ^ k := Nat.pow_pos (by decide)
  have hx : 1 ≤ n / 10 ^ k := (Nat.le_div_iff_mul_le hp).mpr (by omega)
  have a1 := lt_ndig (n / 10 ^ k)
  have a2 : n < 10 ^ (k + ndig (n / 10 ^ k)) := by
    rw [Nat.pow_add, Nat.mul_comm]
    exact (Nat.div_lt_iff_lt_mul hp).mp a1
  have b1 := ndig_le (by have := ndig_pos (n / 10 ^ k); omega) a2
  have c1 := ndig_lt h
  have c2 : n / 10 ^ k < 10 ^ (ndig n - k) := by
    rw [Nat.div_lt_iff_lt_mul hp, ← Nat.pow_add]
    rw [show ndig n - k + k = ndig n by omega]
    exact lt_ndig n
  have c3 := ndig_le (by omega) c2
  omega
end AL
set_option Elab.async false
set_option maxRecDepth 100000
set_option exponentiation.threshold 70000
set_option maxHeartbeats 1000000
namespace AL
open PySem L2

/-- one sign, a digit -/
def oneD (m : List Nat) : Bool := match m with | [c] => isD c | _ => false
theorem in_dig (m : List Nat) : inV (.str (S m)) (([48, 49, 50, 51, 52, 53, 54, 55, 56, 57] : List Nat).map fun c => V.str (S [c])) = oneD m := by
  unfold inV
  have e : ∀ c, eqV (.str (S [c])) (.str (S m)) = decide ([c] = m) := fun c => by
    show decide (S [c] = S m) = decide ([c] = m)
    exact decide_eq_decide.mpr S_inj
  simp only [List.map_cons, List.map_nil, List.any_cons, List.any_nil, e]
  match m with
  | [] => rfl
  | [d] =>
    show _ = isD d
    rw [isD_mem]
    simp [eq_comm]
  | _ :: _ :: _ => simp [oneD]
theorem row_one {l : List Nat} {j : Nat} : rowAt l j (j + 1) = (l[j]?).toList := by
  unfold rowAt
  rw [List.take_add_one, List.drop_append]
  by_cases h : j ≤ l.length
  · rw [List.length_take, Nat.min_eq_left h, Nat.sub_self, List.drop_eq_nil_of_le (by rw [List.length_take]; omega), List.nil_append, List.drop_zero]
  · rw [List.getElem?_eq_none (by omega), List.drop_eq_nil_of_le (by rw [List.length_take]; omega)]
    simp

theorem fmod_nat (a b : Nat) : ((a : Int)).fmod ((b : Nat) : Int) = ((a % b : Nat) : Int) := by
  rw [Int.fmod_eq_emod_of_nonneg _ (Int.natCast_nonneg b)]
  rfl
theorem fdiv_nat (a b : Nat) : ((a : Int)).fdiv ((b : Nat) : Int) = ((a / b : Nat) : Int) := by
  rw [Int.fdiv_eq_ediv_of_nonneg _ (by omega)]
  rfl

/-- _law_gcd(a, b) -/
def spGcdL : Sp := fun vs H Q _ => ∃ (a b : Int), vs = [.int a, .int b] ∧ a.natAbs < N6 ∧ b.natAbs < N6 ∧ Q (.int ((Nat.gcd a.natAbs b.natAbs : Nat) : Int)) H
/-- _law_q(a, b) -/
def spQ : Sp := fun vs H Q _ => ∃ (a b : Nat), vs = [.int (a : Int), .int (b : Int)] ∧ a < N4 ∧ b < N4 ∧ b ≠ 0 ∧ ∀ t, H t = none → Q (.ref t) (upd H t (.tup [.int (red a b).1, .int (red a b).2]))
/-- _law_is_whole(i) -/
def spWhole : Sp := fun vs H Q _ => ∃ (i : Int), vs = [.int i] ∧ Q (.bl true) H
/-- _law_is_ratio(t) -/
def spIsRat (K : PySem.W.Frag) : Sp := fun vs H Q _ => ∃ (t : Addr) (a b : Int), vs = [.ref t] ∧ H t = some (.tup [.int a, .int b]) ∧ a.natAbs < N6 ∧ b.natAbs < N6 ∧ 0 < b ∧ Nat.gcd a.natAbs b.natAbs = 1 ∧ Q (.bl true) H
/-- _law_digits_end(text, at) -/
def spEndL : Sp := fun vs H Q _ => ∃ (l : List Nat) (i : Nat), vs = [.str (S l), .int (i : Int)] ∧ i ≤ l.length ∧ l.length ≤ 20000 ∧ ∀ H', Same H H' → Q (.int ((dEnd l i : Nat) : Int)) H'
/-- digits_end(text, start) -/
def spEnd : Sp := fun vs H Q _ => ∃ (l : List Nat) (i : Nat), vs = [.str (S l), .int (i : Int)] ∧ i ≤ l.length ∧ l.length ≤ 20000 ∧ Q (.int ((dEnd l i : Nat) : Int)) H
/-- wrong_column(text) -/
def spCol : Sp := fun vs H Q _ => ∃ (l : List Nat), vs = [.str (S l)] ∧ l.length ≤ 20000 ∧ Q (.int ((wcol l : Nat) : Int)) H
/-- lowest(top, bottom) -/
def spLow : Sp := fun vs H Q _ => ∃ (a : Int) (b : Nat), vs = [.int a, .int (b : Int)] ∧ a.natAbs < N4 ∧ b < N4 ∧ b ≠ 0 ∧
  ∀ t, H t = none → Q (.ref t) (upd H t (.tup [.int (a.fdiv ((Nat.gcd a.natAbs b : Nat) : Int)), .int ((b / Nat.gcd a.natAbs b : Nat) : Int)]))


/-- ratio_of(x) -/
def spRatio (K : PySem.W.Frag) (BT TL : Addr) : Sp := fun vs H Q E => ∃ x, vs = [x] ∧
  ((∃ l, x = .str (S l) ∧ l.length ≤ 20000 ∧
    (∀ c, res l = .text c → ∀ d H1, H1 d = none → Same H H1 → E (.ref BT) (some d) (upd H1 d (.xd [("column", .int (c : Int)), ("line", .int 1)]))) ∧
    (∀ n, res l = .large n → ∀ d H1, H1 d = none → Same H H1 → E (.ref TL) (some d) (upd H1 d (.xd [("limit", .int 4000), ("number", .int (n : Int)), ("what", .str "digits")]))) ∧
    (∀ p r, res l = .ratio p r → ∀ t H1, H1 t = none → Same H H1 → Q (.ref t) (upd H1 t (.tup [.int p, .int r])))) ∨
   (∃ u, TyX K H x u ∧ PySem.W.kitOne K u (.type "str") = some false ∧ ∀ d H1, H1 d = none → Same H H1 → E (.ref BT) (some d) (upd H1 d (.xd [("column", .int 0), ("line", .int 0)]))))
theorem one4 : 1 < N4 := by unfold N4; decide +kernel
theorem none_of_same {H H' : Hp} {a : Addr} (s : Same H H') (h : H' a = none) : H a = none := by
  cases e : H a with
  | none => rfl
  | some o => rw [s _ _ e] at h; cases h
theorem Same.updn {H H' : Hp} {a : Addr} {o : HO} (s : Same H H') (h : H a = none) : Same H (upd H' a o) := fun b u e => by
  rw [upd_ne (fun z => by rw [z, h] at e; cases e)]; exact s _ _ e
/-- what a text is told to be -/
def resD : Res → PyData
  | .text c => .tuple [.str "text", .int (c : Int)]
  | .large n => .tuple [.str "large", .int (n : Int)]
  | .ratio p r => .tuple [.str "ratio", .tuple [.int p, .int r]]
/-- _law_due(text) -/
def spDue (K : PySem.W.Frag) : Sp := fun vs H Q _ => ∃ (l : List Nat), vs = [.str (S l)] ∧ l.length ≤ 20000 ∧ ∀ t H', Same H H' → Dp K H' (.ref t) (resD (res l)) → Q (.ref t) H'


theorem res_ratio {l : List Nat} {p r : Int} (h : res l = .ratio p r) : p.natAbs < N6 ∧ r.natAbs < N6 ∧ 0 < r ∧ Nat.gcd p.natAbs r.natAbs = 1 := by
  have hw : wcol l = 0 := by
    rcases Nat.eq_zero_or_pos (wcol l) with z | z
    · exact z
    · rw [res_bad z] at h; cases h
  rw [res_ok hw] at h
  have red_ok : ∀ a b : Nat, a < N4 → b < N4 → b ≠ 0 → (sgn l (red a b).1).natAbs < N6 ∧ (red a b).2.natAbs < N6 ∧ 0 < (red a b).2 ∧ Nat.gcd (sgn l (red a b).1).natAbs (red a b).2.natAbs = 1 := by
    intro a b ha hb h0
    have hg : 0 < Nat.gcd a b := Nat.gcd_pos_of_pos_right a (Nat.pos_of_ne_zero h0)
    have e1 : (sgn l (red a b).1).natAbs = a / Nat.gcd a b := sgn_abs l _
    have e2 : (red a b).2.natAbs = b / Nat.gcd a b := Int.natAbs_natCast _
    have p46 := pow46
    refine ⟨?_, ?_, ?_, ?_⟩
    · rw [e1]; exact Nat.lt_of_le_of_lt (Nat.div_le_self _ _) (by omega)
    · rw [e2]; exact Nat.lt_of_le_of_lt (Nat.div_le_self _ _) (by omega)
    · have : 0 < b / Nat.gcd a b := Nat.div_pos (Nat.le_of_dvd (Nat.pos_of_ne_zero h0) (Nat.gcd_dvd_right a b)) hg
      show (0 : Int) < ((b / Nat.gcd a b : Nat) : Int)
      omega
    · rw [e1, e2, Nat.gcd_div (Nat.gcd_dvd_left a b) (Nat.gcd_dvd_right a b), Nat.div_self hg]
  by_cases h1 : 4000 < mid0 l - fst0 l
  · rw [if_pos h1] at h; cases h
  · rw [if_neg h1] at h
    have ht := topV_lt (l := l) (by omega)
    by_cases h2 : slash0 l = true
    · rw [if_pos h2] at h
      by_cases h3 : 4000 < end0 l - (mid0 l + 1)
      · rw [if_pos h3] at h; cases h
      · rw [if_neg h3] at h
        by_cases h4 : botV l = 0
        · rw [if_pos h4] at h; cases h
        · rw [if_neg h4] at h
          injection h with e1 e2
          subst e1 e2
          exact red_ok _ _ ht (botV_lt h2 (by omega)) h4
    · rw [if_neg h2] at h
      injection h with e1 e2
      subst e1 e2
      have := red_ok (topV l) 1 ht one4 (by decide)
      unfold red at this
      rw [Nat.gcd_one_right, Nat.div_one] at this
      exact this
/-- _law_read(text) -/
def spRead (K : PySem.W.Frag) : Sp := fun vs H Q _ => ∃ (l : List Nat), vs = [.str (S l)] ∧ l.length ≤ 20000 ∧ ∀ t H', Same H H' → Dp K H' (.ref t) (resD (res l)) → Q (.ref t) H'
theorem cut_from (l : List Nat) (i : Nat) : cutS (S l) (some (i : Int)) none = S (l.drop i) := by
  have e := cut_mid l i l.length
  rw [List.take_length] at e
  rw [← e]
  unfold cutS
  have h1 : HT.sIx (S l).length (S l).length none = HT.sIx (S l).length (S l).length (some ((l.length : Nat) : Int)) := by
    rw [HT.sIx_nat, HT.sIx_none, S_len, Nat.min_self]
  rw [h1]
theorem str_len {n k : Nat} (hk : 0 < k) (h : n < 10 ^ k) : (Str.ofString (toString ((n : Nat) : Int))).length ≤ k := by
  rw [show (Str.ofString (toString ((n : Nat) : Int))).length = (TL.numL n).length by rw [TL.len_tl]; exact congrArg List.length (TL.tl_num n)]
  exact TL.numL_len hk h
/-- _law_begin(pen) -/
def spBegin : Sp := fun vs H Q _ => ∃ (p c : Addr) (m : Nat), vs = [.ref p] ∧ Pen H p c m ∧ m < 800000000 ∧ ∀ (l : List Nat) H', l.length ≤ 15000 → Pen H' p c (m + 1000) → Q (.str (S l)) H'
/-- _law_bent(pen, text) -/
def spBent : Sp := fun vs H Q _ => ∃ (p c : Addr) (m : Nat) (l : List Nat), vs = [.ref p, .str (S l)] ∧ Pen H p c m ∧ m < 800000000 ∧ l.length ≤ 19000 ∧ ∀ (l' : List Nat) H', l'.length ≤ l.length + 1 → Pen H' p c (m + 10) → Q (.str (S l')) H'

/-- law's: a list of at most 63 ints is handed in, True comes out -/
def spLaw (K : PySem.W.Frag) : Sp := fun vs H Q _ => ∃ (a : Addr) (ns : List Int), vs = [.ref a] ∧ SqL K H a (ns.map V.int) ∧ ns.length ≤ 63 ∧ ∀ H', Q (.bl true) H'
theorem resD_ok (r : Res) : SeqAt.shaped (resD r) = true := by
  have h1 : PyData.strOk (Str.ofString "text") = true := by decide +kernel
  have h2 : PyData.strOk (Str.ofString "large") = true := by decide +kernel
  have h3 : PyData.strOk (Str.ofString "ratio") = true := by decide +kernel
  cases r <;> simp [h1, h2, h3, SeqAt.shaped, resD, PyData.canLay0, PyData.canLayAll0, PyData.depth, PyData.depthAll]

end AL
set_option Elab.async false
set_option maxRecDepth 100000
set_option exponentiation.threshold 70000
set_option maxHeartbeats 4000000
/-! {i} of an int up to 4,300 digits; // where one side is small. -/
namespace PySem
open PySem.W PySem.Calls PySem.NumText PyProof.Rows PySem.Builtin PySem.Builtin.Int
theorem al_repr_at {a : Int} {t : Tok} (h : a.natAbs < 10 ^ 4300) : GivesAt (fun s => s.heap.NoDigits) (Builtin.«int.__repr__» ⟨[.int a t], []⟩) (.str (toString a)) := by
  intro prog w A R s hn hq
  unfold Builtin.«int.__repr__»
  show wpAny _ _ (do let r ← Builtin.overDigitLimit? a; _) _ _ s
  refine wpAny_bind (overDigitLimit_any hn (fun hlt => ?_) (fun hge => absurd h (Nat.not_lt.mpr hge)))
  exact wpAny_bind (wpAny_mkStr (wpAny_pure hq.2) (int_text_fits10 hlt))
theorem al_format_at {a : Int} {t u : Tok} (h : a.natAbs < 10 ^ 4300) : GivesAt (fun s => s.heap.NoDigits) (Builtin.«int.__format__» ⟨[.int a t, .str Str.empty u], []⟩) (.str (toString a)) := by
  intro prog w A R s hn hq
  show wpAny _ _ (do let _kind ← typeNameOf (.str Str.empty u); (do rule "int.format.empty"; again (.builtin "int.__repr__" ⟨[.int a t], []⟩))) _ _ s
  refine wpAny_bind (wpAny_typeNameOf (typeIs_str s _ _) (by decide) fun n => wpAny_bind (wpAny_rule ?_))
  exact wpAny_pure ⟨plainId_quiet (by decide +kernel) _, codeAny_builtin F.entry_int_repr (by rw [Around.under_plainId (by decide +kernel)]; exact al_repr_at h prog w A R s hn hq)⟩
section
variable {w : World} {prog : Program} {s : Shared} {E Q : Value → Shared → Prop} {A : Around} {i : Int} {t : Tok}
theorem al_formatField (free : s.heap.NoDigits) (short : i.natAbs < 10 ^ 4300) (goal : Q (.str (toString i) (s.toks + 1)) { s with toks := s.toks + 1 + 1 }) : wpAny (model prog w) A (formatField (.int i t) Str.empty) Q E s := by
  have text : ∀ s' : Shared, s'.TypeIs (.int i t) "int" := fun s' => typeIs_int s' i t
  refine (wpAny_holding ?_ : wpAny (model prog w) A (holding [.int i t] (pyFormat (.int i t) Str.empty)) Q E s)
  unfold pyFormat
  refine wpAny_bind (wpAny_mkStr (wpAny_bind (m := callSpecial? (.int i t) (Str.ofString "__format__") [.str Str.empty s.toks]) (wpAny_callSpecial?_slot (name := Str.ofString "__format__") (text _) F.slot_int_format
    (call_givesAt F.slot_int_format (text _) F.entry_int_format (F.args_int_format_2 _ _) (al_format_at short) free ⟨int_text_fits10 short, ?_⟩))) (by decide))
  exact (wpAny_bind (wpAny_isInstance (typeIs_str _ _ _) isSubtype_str_str (wpAny_pure goal)) : wpAny (model prog w) A (do if ← isInstance (.str (toString i) (s.toks + 1)) (.type "str") then return (.str (toString i) (s.toks + 1)) else _) Q E _)
end
end PySem
namespace AL
open PySem PySem.Spec PyProof.Rows L2
section
variable {X : Cx}
/-- {i}, i an int -/
def tFmtL (te : TE) : TE := fun σ H Q => te σ H fun x H1 => (∃ y : Str, x = .str y ∧ y.length ≤ sizeLine ∧ Q (.str y) H1) ∨ ∃ i : Int, x = .int i ∧ i.natAbs < 10 ^ 4300 ∧ Q (.str (toString i)) H1
theorem pe_fmtL {e : Expr} {te : TE} {pos : Pos} (b : digB X.K = true) (he : PE X e te) : PE X (.FormattedValue e (-1) none pos) (tFmtL te) := by
  refine ⟨fun pins s σ H Q I h => ?_⟩
  refine wpAny_FormattedValue_plain (thn (he.run pins s σ H _ I h) fun v s1 hv => ?_)
  obtain ⟨x, H1, I1, r1, q⟩ := hv
  rcases q with ⟨y, rfl, hz, q⟩ | ⟨i, rfl, hz, q⟩
  · obtain ⟨t, rfl⟩ := r1
    exact wpAny_formatField_str ⟨.str y, H1, I1, ⟨t, rfl⟩, q⟩ ⟨.str y, H1, I1.tok _, ⟨_, rfl⟩, q⟩ hz
  · obtain ⟨t, rfl⟩ := r1
    exact al_formatField (noDigits_of I1.kIn I1.nolimit b) hz ⟨.str (toString i), H1, I1.tok _, ⟨_, rfl⟩, q⟩
/-- //: the dividend below 2 ^ 13500, or the divisor below 2 ^ 8000 -/
def CDivC (i j : Int) : Prop := j ≠ 0 ∧ (i.natAbs < 2 ^ 13500 ∨ j.natAbs < 2 ^ 8000)
theorem noPylong_low {i j : Int} (h : j.natAbs < 2 ^ 8000) : Builtin.divisionGoesByPylong i j = false := by
  have hl : j.natAbs.log2 < 8000 := log2_small (by decide) h
  have key : ¬ ((if j == 0 then 0 else j.natAbs.log2 / 30 + 1) > 300) := by
    split <;> omega
  show (decide ((if j == 0 then 0 else j.natAbs.log2 / 30 + 1) > 300) && decide ((if i == 0 then 0 else i.natAbs.log2 / 30 + 1) > (if j == 0 then 0 else j.natAbs.log2 / 30 + 1) + 150)) = false
  rw [decide_eq_false key, Bool.false_and]
theorem op_fdivC : OpR X (binaryOp .FloorDiv) (rI CDivC fun i j => .int (i.fdiv j)) := by
  intro pins s σ H x y v u Q I rx ry h
  obtain ⟨i, j, rfl, rfl, ⟨hj, hi⟩, q⟩ := h
  obtain ⟨t, rfl⟩ := rx
  obtain ⟨t', rfl⟩ := ry
  rcases hi with hi | hi
  · exact floordiv_int hj ⟨.int _, H, I.tok _, ⟨_, rfl⟩, q⟩ (.inl (noPylong_big hi))
  · exact floordiv_int hj ⟨.int _, H, I.tok _, ⟨_, rfl⟩, q⟩ (.inl (noPylong_low hi))
end
end AL
set_option Elab.async false
set_option maxRecDepth 100000
set_option exponentiation.threshold 70000
set_option maxHeartbeats 1000000
/-! Ratios as they are passed, and what the helpers of the program promise of them. -/
namespace AL
open PySem L2
def LowOk (a : Int) (b : Nat) : Prop := (a.natAbs < N4 ∧ b < N4) ∨ Nat.gcd a.natAbs b < 2 ^ 8000
/-- the pair in lowest terms -/
def nrm (a : Int) (b : Nat) : Int × Nat := (a.fdiv ((Nat.gcd a.natAbs b : Nat) : Int), b / Nat.gcd a.natAbs b)
theorem nrm_one (i : Int) : nrm i 1 = (i, 1) := by
  unfold nrm
  rw [Nat.gcd_one_right]
  show (i.fdiv ((1 : Nat) : Int), 1 / 1) = (i, 1)
  rw [Int.fdiv_eq_ediv_of_nonneg _ (by decide)]
  simp
/-- lowest(a, b) -/
def spLowC : Sp := fun vs H Q _ => ∃ (a : Int) (b : Nat), vs = [.int a, .int (b : Int)] ∧ LowOk a b ∧ b ≠ 0 ∧ ∀ t, H t = none → Q (.ref t) (upd H t (.tup [.int (nrm a b).1, .int ((nrm a b).2 : Int)]))
/-- _law_q(a, b) -/
def spQC : Sp := fun vs H Q _ => ∃ (a : Int) (b : Nat), vs = [.int a, .int (b : Int)] ∧ a.natAbs < N6 ∧ b < N6 ∧ LowOk a b ∧ b ≠ 0 ∧ ∀ t, H t = none → Q (.ref t) (upd H t (.tup [.int (nrm a b).1, .int ((nrm a b).2 : Int)]))
/-- is_whole(x), of a value of any kind -/
def spWholeV (K : PySem.W.Frag) : Sp := fun vs H Q _ => ∃ (x : V) (u : Value) (b c : Bool), vs = [x] ∧ TyX K H x u ∧ PySem.W.kitOne K u (.type "int") = some b ∧ PySem.W.kitOne K u (.type "bool") = some c ∧ Q (.bl (b && !c)) H
def flatW : V → Option Bool
  | .int _ => some true
  | .bl _ => some false
  | .non => some false
  | .str _ => some false
  | _ => none
theorem flat_ty {K : PySem.W.Frag} {H : Hp} {x : V} {w : Bool} (h : flatW x = some w) : ∃ u b c, TyX K H x u ∧ PySem.W.kitOne K u (.type "int") = some b ∧ PySem.W.kitOne K u (.type "bool") = some c ∧ (b && !c) = w := by
  cases x with
  | int i => cases h; exact ⟨_, true, false, TyX.base (.int i), rfl, rfl, rfl⟩
  | bl b => cases h; exact ⟨_, true, true, TyX.base (.bl b), rfl, rfl, rfl⟩
  | non => cases h; exact ⟨_, false, false, TyX.base .non, rfl, rfl, rfl⟩
  | str z => cases h; exact ⟨_, false, false, TyX.base (.str z), rfl, rfl, rfl⟩
  | _ => cases h
theorem flat_not {K : PySem.W.Frag} {H : Hp} {x : V} {w : Bool} (h : flatW x = some w) : ∃ u, TyX K H x u ∧ PySem.W.kitOne K u (.type "tuple") = some false := by
  cases x with
  | int i => exact ⟨_, TyX.base (.int i), rfl⟩
  | bl b => exact ⟨_, TyX.base (.bl b), rfl⟩
  | non => exact ⟨_, TyX.base .non, rfl⟩
  | str z => exact ⟨_, TyX.base (.str z), rfl⟩
  | _ => cases h
/-- are_integers(t), t a tuple of flat values -/
def spAre (K : PySem.W.Frag) : Sp := fun vs H Q _ => ∃ (t : Addr) (xs : List V) (f : V → Bool), vs = [.ref t] ∧ H t = some (.tup xs) ∧ xs.length ≤ 100 ∧ (∀ x ∈ xs, flatW x = some (f x)) ∧ ∀ H', Same H H' → Q (.bl (xs.all f)) H'
/-- what may be passed for a ratio: none where it is none -/
inductive RatV (K : PySem.W.Frag) (H : Hp) : V → Option (Int × Nat) → Prop
  | int (i : Int) : RatV K H (.int i) (some (i, 1))
  | pair {t : Addr} {p : Int} {q : Nat} (h : H t = some (.tup [.int p, .int (q : Int)])) (h0 : 0 < q) : RatV K H (.ref t) (some (p, q))
  | other {x : V} {u : Value} {b c : Bool} (h : TyX K H x u) (ht : PySem.W.kitOne K u (.type "tuple") = some false) (hb : PySem.W.kitOne K u (.type "int") = some b) (hc : PySem.W.kitOne K u (.type "bool") = some c) (no : (b && !c) = false) : RatV K H x none
  | long {t : Addr} {xs : List V} (h : H t = some (.tup xs)) (hl : xs.length ≠ 2) : RatV K H (.ref t) none
  | item {t : Addr} {x y : V} {b c : Bool} (h : H t = some (.tup [x, y])) (hx : flatW x = some b) (hy : flatW y = some c) (no : (b && c) = false) : RatV K H (.ref t) none
  | sign {t : Addr} {p q : Int} (h : H t = some (.tup [.int p, .int q])) (h0 : q ≤ 0) : RatV K H (.ref t) none
theorem RatV.same {K : PySem.W.Frag} {H H' : Hp} {x : V} {r : Option (Int × Nat)} (h : RatV K H x r) (s : Same H H') (ty : ∀ u, TyX K H x u → TyX K H' x u) : RatV K H' x r := by
  cases h with
  | int i => exact .int i
  | pair h h0 => exact .pair (s _ _ h) h0
  | other h ht hb hc no => exact .other (ty _ h) ht hb hc no
  | long h hl => exact .long (s _ _ h) hl
  | item h hx hy no => exact .item (s _ _ h) hx hy no
  | sign h h0 => exact .sign (s _ _ h) h0
/-- is_ratio(x) -/
def spIsRatV (K : PySem.W.Frag) : Sp := fun vs H Q _ => ∃ (x : V) (r : Option (Int × Nat)), vs = [x] ∧ RatV K H x r ∧ ∀ H', Same H H' → Q (.bl r.isSome) H'
/-- as_ratio(x) -/
def spAs (K : PySem.W.Frag) : Sp := fun vs H Q _ => ∃ (x : V) (p : Int) (q : Nat), vs = [x] ∧ RatV K H x (some (p, q)) ∧ LowOk p q ∧ ∀ t, H t = none → Q (.ref t) (upd H t (.tup [.int (nrm p q).1, .int ((nrm p q).2 : Int)]))
/-- whole_power(b, n) -/
def spPow : Sp := fun vs H Q _ => ∃ (b : Int) (n a : Nat), vs = [.int b, .int (n : Int)] ∧ b.natAbs < 2 ^ a ∧ 0 < a ∧ a * n ≤ 400000 ∧ a ≤ 400000 ∧ Q (.int (b ^ n)) H
/-- digits_of(i) -/
def spDig : Sp := fun vs H Q _ => ∃ (i : Int), vs = [.int i] ∧ Q (.int ((ndig i.natAbs : Nat) : Int)) H
/-- newton_step(n, j + 1, g) -/
def spStep : Sp := fun vs H Q _ => ∃ (n j g : Nat), vs = [.int (n : Int), .int ((j + 1 : Nat) : Int), .int (g : Int)] ∧ n < 2 ^ 8000 ∧ j < 1000 ∧ 0 < g ∧ g < 2 ^ 8100 ∧ g ^ j < 2 ^ 13500 ∧ Q (.int ((nstep n j g : Nat) : Int)) H
/-- floor_root(n, k) -/
def spFloor : Sp := fun vs H Q _ => ∃ (n k : Nat), vs = [.int (n : Int), .int (k : Int)] ∧ n < 2 ^ 4000 ∧ 0 < k ∧ k < 1000 ∧ ∀ g, isRoot n k g → Q (.int (g : Int)) H
/-- whole_root(n, k) -/
def spRoot : Sp := fun vs H Q _ => ∃ (n k : Nat), vs = [.int (n : Int), .int (k : Int)] ∧ n < 2 ^ 4000 ∧ 0 < k ∧ k < 1000 ∧ (∀ r, r ^ k = n → Q (.int (r : Int)) H) ∧ ((∀ r, r ^ k ≠ n) → Q .non H)
/-- ratio_root((p, q), k) -/
def spRatRoot (K : PySem.W.Frag) : Sp := fun vs H Q _ => ∃ (t : Addr) (p q k : Nat), vs = [.ref t, .int (k : Int)] ∧ H t = some (.tup [.int (p : Int), .int (q : Int)]) ∧ p < 2 ^ 4000 ∧ q < 2 ^ 4000 ∧ 0 < k ∧ k < 1000 ∧
  (∀ a b t', a ^ k = p → b ^ k = q → H t' = none → Q (.ref t') (upd H t' (.tup [.int (a : Int), .int (b : Int)]))) ∧ ((∀ a b, ¬ (a ^ k = p ∧ b ^ k = q)) → Q .non H)
end AL
set_option Elab.async false
set_option maxRecDepth 100000
set_option exponentiation.threshold 70000
set_option maxHeartbeats 1000000
/-! What ratio_text and root_of promise. -/
namespace AL
open PySem L2
def numI (a : Int) : Str := Str.ofString (toString a)
/-- the shortest text of a ratio in lowest terms -/
def txt (a : Int) (b : Nat) : Str := if b = 1 then numI a else numI a ++ "/" ++ numI (b : Int)
def many (a : Int) (b : Nat) : Nat := max (ndig a.natAbs) (ndig b)
/-- ratio_text(x) -/
def spText (K : PySem.W.Frag) (BN TL : Addr) : Sp := fun vs H Q E => ∃ (x : V) (r : Option (Int × Nat)), vs = [x] ∧ RatV K H x r ∧
  (r = none → ∀ d H1, H1 d = none → Same H H1 → E (.ref BN) (some d) (upd H1 d (.xd [("number", x), ("what", .str "ratio")]))) ∧
  (∀ p q, r = some (p, q) → LowOk p q ∧
    (4000 < many (nrm p q).1 (nrm p q).2 → ∀ d H1, H1 d = none → Same H H1 → E (.ref TL) (some d) (upd H1 d (.xd [("limit", .int 4000), ("number", .int ((many (nrm p q).1 (nrm p q).2 : Nat) : Int)), ("what", .str "digits")]))) ∧
    (many (nrm p q).1 (nrm p q).2 ≤ 4000 → ∀ H1, Same H H1 → Q (.str (txt (nrm p q).1 (nrm p q).2)) H1))
theorem RatV.someSame {K : PySem.W.Frag} {H H' : Hp} {x : V} {r : Int × Nat} (h : RatV K H x (some r)) (s : Same H H') : RatV K H' x (some r) := by
  cases h with
  | int i => exact .int i
  | pair h h0 => exact .pair (s _ _ h) h0
theorem RatV.pos {K : PySem.W.Frag} {H : Hp} {x : V} {p : Int} {q : Nat} (h : RatV K H x (some (p, q))) : 0 < q := by
  cases h with
  | int i => decide
  | pair h h0 => exact h0
/-- what may be passed for a root -/
inductive RootV (K : PySem.W.Frag) (H : Hp) : V → Option Nat → Prop
  | ok (k : Nat) (h1 : 1 ≤ k) (h2 : k ≤ 60) : RootV K H (.int (k : Int)) (some k)
  | far (i : Int) (h : i < 1 ∨ 60 < i) : RootV K H (.int i) none
  | other {x : V} {u : Value} {b c : Bool} (h : ∀ H', Same H H' → TyX K H' x u) (hb : PySem.W.kitOne K u (.type "int") = some b) (hc : PySem.W.kitOne K u (.type "bool") = some c) (no : (b && !c) = false) : RootV K H x none
/-- the ratio is none, or below 0 -/
def badRat : Option (Int × Nat) → Bool
  | none => true
  | some (p, q) => decide ((nrm p q).1 < 0)
/-- root_of(x, y) -/
def spRootOf (K : PySem.W.Frag) (BN : Addr) : Sp := fun vs H Q E => ∃ (x y : V) (r : Option (Int × Nat)) (k : Option Nat), vs = [x, y] ∧ RatV K H x r ∧ RootV K H y k ∧ (∀ p q, r = some (p, q) → LowOk p q) ∧
  (badRat r = true → ∀ d H1, H1 d = none → Same H H1 → E (.ref BN) (some d) (upd H1 d (.xd [("number", x), ("what", .str "ratio")]))) ∧
  (badRat r = false → k = none → ∀ d H1, H1 d = none → Same H H1 → E (.ref BN) (some d) (upd H1 d (.xd [("number", y), ("what", .str "root")]))) ∧
  (∀ p q n, r = some (p, q) → badRat r = false → k = some n → (nrm p q).1.natAbs < 2 ^ 4000 ∧ (nrm p q).2 < 2 ^ 4000 ∧
    (∀ u v t H1, u ^ n = (nrm p q).1.natAbs → v ^ n = (nrm p q).2 → H1 t = none → Same H H1 → Q (.ref t) (upd H1 t (.tup [.int (u : Int), .int (v : Int)]))) ∧
    ((∀ u v, ¬ (u ^ n = (nrm p q).1.natAbs ∧ v ^ n = (nrm p q).2)) → ∀ H1, Same H H1 → Q .non H1))
theorem empty_app (x : Str) : Str.empty ++ x = x := by
  cases x with
  | mk a =>
    show (⟨#[] ++ a⟩ : Str) = ⟨a⟩
    rw [Array.empty_append]
theorem numI_len {a : Int} {k : Nat} (hk : 0 < k) (h : a.natAbs < 10 ^ k) : (numI a).length ≤ k + 1 := by
  have e : (numI a).length = (toString a).length := by
    unfold numI
    rw [Str.ofString_eq_toList]
    show (((toString a).toList.map Char.toNat).toArray).size = _
    rw [List.size_toArray, List.length_map, String.length_toList]
  rw [e]
  have := int_text_length_le10 hk h
  omega
end AL
set_option Elab.async false
set_option maxRecDepth 100000
set_option exponentiation.threshold 70000
set_option maxHeartbeats 1000000
/-! What the law's own helpers promise. -/
namespace AL
open PySem L2
/-- _law_written(t) -/
def spWritten : Sp := fun vs H Q _ => ∃ (t : Addr) (a : Int) (b : Nat), vs = [.ref t] ∧ H t = some (.tup [.int a, .int (b : Int)]) ∧ many a b ≤ 4000 ∧ Q (.str (txt a b)) H
/-- _law_passed(pen, t) -/
def spPassed (K : PySem.W.Frag) : Sp := fun vs H Q _ => ∃ (p c t : Addr) (m : Nat) (a b : Nat), vs = [.ref p, .ref t] ∧ Pen H p c m ∧ m < 800000000 ∧ H t = some (.tup [.int (a : Int), .int (b : Int)]) ∧ 0 < b ∧ a < 2 ^ 4000 ∧ b < 2 ^ 4000 ∧
  ∀ (x : V) (k : Nat) H', 0 < k → k ≤ 10 → RatV K H' x (some (((a * k : Nat) : Int), b * k)) → Pen H' p c (m + 2) → Keep p H H' → Q x H'
/-- _law_power(t, n) -/
def spPower : Sp := fun vs H Q _ => ∃ (t : Addr) (a b n e : Nat), vs = [.ref t, .int (n : Int)] ∧ H t = some (.tup [.int (a : Int), .int (b : Int)]) ∧ a < 2 ^ e ∧ b < 2 ^ e ∧ 0 < e ∧ e * n ≤ 400000 ∧ e ≤ 400000 ∧ n ≤ 60 ∧
  ∀ t' H', Same H H' → H' t' = some (.tup [.int ((a ^ n : Nat) : Int), .int ((b ^ n : Nat) : Int)]) → Q (.ref t') H'
/-- _law_whole_power(a, n) -/
def spWP : Sp := fun vs H Q _ => ∃ (a n e : Nat), vs = [.int (a : Int), .int (n : Int)] ∧ a < 2 ^ e ∧ 0 < e ∧ e * n ≤ 400000 ∧ e ≤ 400000 ∧ n ≤ 60 ∧ Q (.int ((a ^ n : Nat) : Int)) H
/-- _law_is_power(n, k) -/
def spIsPow : Sp := fun vs H Q _ => ∃ (n k : Nat), vs = [.int (n : Int), .int (k : Int)] ∧ n < 2 ^ 4000 ∧ 0 < k ∧ k ≤ 60 ∧ ∀ (w : Bool) H', Same H H' → (w = true ↔ ∃ r, r ^ k = n) → Q (.bl w) H'
theorem pow_fit {a e i n : Nat} (ha : a < 2 ^ e) (he : 0 < e) (hin : i ≤ n) (hn : e * n ≤ 400000) : ((a ^ i : Nat) : Int).natAbs < 2 ^ 400001 := by
  rw [Int.natAbs_natCast]
  refine Nat.lt_of_le_of_lt (Nat.pow_le_pow_left (Nat.le_of_lt ha) i) ?_
  rw [← Nat.pow_mul]
  have := Nat.mul_le_mul_left e hin
  exact Nat.pow_lt_pow_right (by decide) (by omega)
theorem half_le {w j : Nat} (h : w ≤ 2 ^ (j + 1)) : (w + 1) / 2 ≤ 2 ^ j := by
  rw [Nat.pow_succ] at h
  omega
end AL
set_option Elab.async false
set_option maxRecDepth 100000
set_option exponentiation.threshold 70000
set_option maxHeartbeats 1000000
/-! Sums and products of ratios: both sides' promises, and what they mean. -/
namespace AL
open PySem L2
def DivOk (a b : Int) : Prop := (a.natAbs < 2 ^ 13500 ∧ b.natAbs < 2 ^ 13500) ∨ Nat.gcd a.natAbs b.natAbs < 2 ^ 8000
/-- lowest terms, the bottom of any sign -/
def shr (a b : Int) : Int := if b < 0 then -((Nat.gcd a.natAbs b.natAbs : Nat) : Int) else ((Nat.gcd a.natAbs b.natAbs : Nat) : Int)
def lowI (a b : Int) : Int × Int := (a.fdiv (shr a b), b.fdiv (shr a b))
theorem nrm_spec (a : Int) {b : Nat} (hb : 0 < b) : 0 < (nrm a b).2 ∧ Nat.gcd (nrm a b).1.natAbs (nrm a b).2 = 1 ∧ (nrm a b).1 * (b : Int) = a * ((nrm a b).2 : Int) := by
  have hg : 0 < Nat.gcd a.natAbs b := Nat.gcd_pos_of_pos_right _ hb
  have d1 : ((Nat.gcd a.natAbs b : Nat) : Int) ∣ a := Int.ofNat_dvd_left.mpr (Nat.gcd_dvd_left _ _)
  have d2 := Nat.gcd_dvd_right a.natAbs b
  have e1 : (nrm a b).1 = a / ((Nat.gcd a.natAbs b : Nat) : Int) := by
    unfold nrm
    exact Int.fdiv_eq_ediv_of_nonneg _ (by omega)
  have e2 : (nrm a b).2 = b / Nat.gcd a.natAbs b := rfl
  refine ⟨?_, ?_, ?_⟩
  · rw [e2]; exact Nat.div_pos (Nat.le_of_dvd hb d2) hg
  · rw [e1, e2, Int.natAbs_ediv_of_dvd d1, Int.natAbs_natCast, Nat.gcd_div (Nat.gcd_dvd_left _ _) d2, Nat.div_self hg]
  · rw [e1, e2]
    generalize hgg : Nat.gcd a.natAbs b = g at *
    obtain ⟨x, hx⟩ := d1
    obtain ⟨y, hy⟩ := d2
    have hg0 : (g : Int) ≠ 0 := by omega
    rw [hx, hy, Int.mul_ediv_cancel_left _ hg0, Nat.mul_div_cancel_left _ hg, Int.natCast_mul]
    rw [Int.mul_assoc, Int.mul_left_comm]
/-- two ratios in lowest terms that are the same number -/
theorem low_unique {p a : Int} {q b : Nat} (hq : 0 < q) (hb : 0 < b) (c1 : Nat.gcd p.natAbs q = 1) (c2 : Nat.gcd a.natAbs b = 1) (e : p * (b : Int) = a * (q : Int)) : p = a ∧ q = b := by
  have en : p.natAbs * b = a.natAbs * q := by
    have := congrArg Int.natAbs e
    rwa [Int.natAbs_mul, Int.natAbs_mul, Int.natAbs_natCast, Int.natAbs_natCast] at this
  have d1 : q ∣ b := (Nat.Coprime.dvd_of_dvd_mul_left (Nat.Coprime.symm c1) ⟨a.natAbs, by rw [en, Nat.mul_comm]⟩)
  have d2 : b ∣ q := (Nat.Coprime.dvd_of_dvd_mul_left (Nat.Coprime.symm c2) ⟨p.natAbs, by rw [← en, Nat.mul_comm]⟩)
  have hqb := Nat.dvd_antisymm d1 d2
  refine ⟨?_, hqb⟩
  subst hqb
  exact Int.eq_of_mul_eq_mul_right (by omega) e
theorem nrm_eq {p a : Int} {q b : Nat} (hq : 0 < q) (hb : 0 < b) (c1 : Nat.gcd p.natAbs q = 1) (e : p * (b : Int) = a * (q : Int)) : nrm a b = (p, q) := by
  obtain ⟨h1, h2, h3⟩ := nrm_spec a hb
  have e2 : p * ((nrm a b).2 : Int) = (nrm a b).1 * (q : Int) := by
    have hb0 : (b : Int) ≠ 0 := by omega
    refine Int.eq_of_mul_eq_mul_right hb0 ?_
    calc p * ((nrm a b).2 : Int) * (b : Int) = p * (b : Int) * ((nrm a b).2 : Int) := by rw [Int.mul_assoc, Int.mul_assoc, Int.mul_comm ((nrm a b).2 : Int)]
      _ = a * (q : Int) * ((nrm a b).2 : Int) := by rw [e]
      _ = a * ((nrm a b).2 : Int) * (q : Int) := by rw [Int.mul_assoc, Int.mul_assoc, Int.mul_comm (q : Int)]
      _ = (nrm a b).1 * (b : Int) * (q : Int) := by rw [← h3]
      _ = (nrm a b).1 * (q : Int) * (b : Int) := by rw [Int.mul_assoc, Int.mul_assoc, Int.mul_comm (b : Int)]
  obtain ⟨r1, r2⟩ := low_unique hq h1 c1 h2 e2
  exact Prod.ext r1.symm r2.symm
theorem lowI_pos (a : Int) (b : Nat) : lowI a (b : Int) = ((nrm a b).1, ((nrm a b).2 : Int)) := by
  have hs : shr a (b : Int) = ((Nat.gcd a.natAbs b : Nat) : Int) := by
    unfold shr
    rw [if_neg (by omega), Int.natAbs_natCast]
  unfold lowI nrm
  rw [hs, fdiv_nat]
theorem lowI_neg (a : Int) {b : Int} (h : 0 < b) : lowI a (-b) = lowI (-a) b := by
  unfold lowI shr
  rw [if_pos (by omega), if_neg (by omega), Int.natAbs_neg, Int.natAbs_neg]
  generalize ((Nat.gcd a.natAbs b.natAbs : Nat) : Int) = g
  have e : ∀ x : Int, x.fdiv (-g) = (-x).fdiv g := fun x => by
    have := Int.neg_fdiv_neg (a := -x) (b := g)
    rw [Int.neg_neg] at this
    exact this
  rw [e, e, Int.neg_neg]
/-- lowest(a, b), _law_q(a, b) -/
def spLowG : Sp := fun vs H Q _ => ∃ (a b : Int), vs = [.int a, .int b] ∧ DivOk a b ∧ b ≠ 0 ∧ ∀ t, H t = none → Q (.ref t) (upd H t (.tup [.int (lowI a b).1, .int (lowI a b).2]))
def spQG : Sp := fun vs H Q _ => ∃ (a b : Int), vs = [.int a, .int b] ∧ a.natAbs < N6 ∧ b.natAbs < N6 ∧ DivOk a b ∧ b ≠ 0 ∧ ∀ t, H t = none → Q (.ref t) (upd H t (.tup [.int (lowI a b).1, .int (lowI a b).2]))
/-- a ratio at t -/
def RatAt (H : Hp) (t : Addr) (a : Int) (b : Nat) : Prop := H t = some (.tup [.int a, .int (b : Int)])
def Mid (a : Int) (b : Nat) : Prop := 0 < b ∧ a.natAbs < 2 ^ 6000 ∧ b < 2 ^ 6000
/-- what two ratios make -/
def spTwo (f : Int → Nat → Int → Nat → Int × Nat) : Sp := fun vs H Q _ => ∃ (s t : Addr) (a c : Int) (b d : Nat), vs = [.ref s, .ref t] ∧ RatAt H s a b ∧ RatAt H t c d ∧ Mid a b ∧ Mid c d ∧ ∀ u, H u = none → Q (.ref u) (upd H u (.tup [.int (f a b c d).1, .int ((f a b c d).2 : Int)]))
def sumR (a : Int) (b : Nat) (c : Int) (d : Nat) : Int × Nat := nrm (a * (d : Int) + c * (b : Int)) (b * d)
def difR (a : Int) (b : Nat) (c : Int) (d : Nat) : Int × Nat := nrm (a * (d : Int) - c * (b : Int)) (b * d)
def mulR (a : Int) (b : Nat) (c : Int) (d : Nat) : Int × Nat := nrm (a * c) (b * d)
theorem mid_mul {x y : Int} (hx : x.natAbs < 2 ^ 6000) (hy : y.natAbs < 2 ^ 6000) : CMulW x y ∧ (x * y).natAbs < 2 ^ 12000 := by
  refine ⟨wide_mul (a := 6000) (b := 6000) hx hy (by decide) (by decide) (by decide), ?_⟩
  rw [Int.natAbs_mul, show (2 : Nat) ^ 12000 = 2 ^ 6000 * 2 ^ 6000 by rw [← Nat.pow_add]]
  exact Nat.mul_lt_mul_of_lt_of_lt hx hy
theorem mid_div {x y : Int} (hx : x.natAbs < 2 ^ 12001) (hy : y.natAbs < 2 ^ 12001) : DivOk x y ∧ x.natAbs < N6 ∧ y.natAbs < N6 := by
  have h1 : (2 : Nat) ^ 12001 ≤ 2 ^ 13500 := Nat.pow_le_pow_right (by decide) (by decide)
  have h2 : (2 : Nat) ^ 12001 ≤ N6 := by unfold N6; decide +kernel
  exact ⟨.inl ⟨Nat.lt_of_lt_of_le hx h1, Nat.lt_of_lt_of_le hy h1⟩, Nat.lt_of_lt_of_le hx h2, Nat.lt_of_lt_of_le hy h2⟩
theorem up12 {x : Nat} (h : x < 2 ^ 12000) : x < 2 ^ 12001 := Nat.lt_trans h (Nat.pow_lt_pow_right (by decide) (by decide))
theorem add12 {x y : Int} (hx : x.natAbs < 2 ^ 12000) (hy : y.natAbs < 2 ^ 12000) : (x + y).natAbs < 2 ^ 12001 ∧ (x - y).natAbs < 2 ^ 12001 := by
  have e : (2 : Nat) ^ 12001 = 2 ^ 12000 + 2 ^ 12000 := by rw [show 12001 = 12000 + 1 from rfl, Nat.pow_succ, Nat.mul_two]
  rw [e]
  generalize (2 : Nat) ^ 12000 = z at hx hy ⊢
  omega
end AL
set_option Elab.async false
set_option maxRecDepth 100000
set_option exponentiation.threshold 70000
set_option maxHeartbeats 1000000
/-! math.lcm of two ints below 2 ^ 13000. -/
namespace AL
open PySem PySem.Spec PyProof.Rows L2 PySem.W PySem.Calls
theorem lcm_lt {x y : Nat} (hx : x < 2 ^ 13000) (hy : y < 2 ^ 13000) : x.lcm y < 2 ^ 26000 := by
  have h1 : x.lcm y ≤ x * y := by
    unfold Nat.lcm
    exact Nat.div_le_self _ _
  have h2 : x * y < 2 ^ 13000 * 2 ^ 13000 := Nat.mul_lt_mul_of_lt_of_lt hx hy
  rw [← Nat.pow_add] at h2
  exact Nat.lt_of_le_of_lt h1 h2
section
variable {X : Cx}
theorem cr_lcm : CallR X (.builtin "math.lcm") (fun vs H Q => ∃ a b : Int, vs = [.int a, .int b] ∧ a.natAbs < 2 ^ 13000 ∧ b.natAbs < 2 ^ 13000 ∧ Q (.int ((Nat.lcm a.natAbs b.natAbs : Nat) : Int)) H) := by
  intro pins s σ H vs us Q I r h
  obtain ⟨a, b, rfl, ha, hb, q⟩ := h
  obtain ⟨t, u, rfl⟩ := Vals.int2 r
  have k : ∀ n : Nat, n < 2 ^ 13000 → ¬ n.log2 / 30 + 1 > 450 := fun n hn => by
    have := log2_small (k := 13000) (by decide) hn
    omega
  have e1 : Nat.lcm 1 a.natAbs = a.natAbs := Nat.lcm_one_left _
  have one : (1 : Nat) < 2 ^ 13000 := Nat.one_lt_two_pow (by decide)
  have sz : (((a.natAbs.lcm b.natAbs : Nat) : Int)).natAbs.log2 < bitsLine := by
    rw [Int.natAbs_natCast]
    exact Nat.lt_of_lt_of_le (log2_small (k := 26000) (by decide) (lcm_lt ha hb)) (by decide +kernel)
  have g := mg_run_lcm a t b u (k _ (Nat.max_lt.mpr ⟨one, ha⟩)) (k _ (Nat.max_lt.mpr ⟨ha, hb⟩)) (by rw [e1]; exact sz)
  rw [e1] at g
  exact call_function_meets MGF.kind_lcm MGF.plain_lcm MGF.entry_lcm (MGF.args_lcm _ _) g.meets ⟨.int _, H, I.tok _, ⟨_, rfl⟩, q⟩
end
end AL
set_option Elab.async false
set_option maxRecDepth 100000
set_option maxHeartbeats 2000000
/-! Operators that a class of the program writes itself; repr of any datum. -/
namespace AL
open PySem PySem.Spec PyProof.Rows L2
/-- repr(x), x any datum -/
def rReprV (K : PySem.W.Frag) : List V → Hp → VK → Prop := fun vs H Q => ∃ (v : V) (d : PyData), vs = [v] ∧ Dp K H v d ∧ d.showable = true ∧ d.hasDict = false ∧ d.depth ≤ 60 ∧ d.shown.length ≤ sizeLine ∧ Q (.str d.shown) H
theorem call_reprV {X : Cx} (gd : X.A.guards = some []) (hu : X.A.units + 64 < cLine) : CallR X (.builtin "repr") (rReprV X.K) := by
  intro pins s σ H vs us Q I r h
  obtain ⟨v, d, rfl, hd, h1, h2, h3, h4, q⟩ := h
  obtain ⟨u, rfl, ru⟩ := vals1 r
  have big : ∀ a : Addr, v = .ref a → wpAny (model X.prog X.w) X.A (call (.builtin "repr") [u]) (EP X pins σ Q) X.xe s := by
    intro a e
    subst e
    obtain rfl : u = Value.ref a := ru
    obtain ⟨as, rd⟩ := Dp.reads I d (.ref a) (.ref a) hd rfl
    exact repr_of_reads' rd h1 (PyData.noDict_hsm h2) gd (by omega) (fun _ _ z => z) (fun h' u tk kk => ⟨.str d.shown, H, I.kept (t' := tk) kk, ⟨u, rfl⟩, q⟩) h4
  cases hd with
  | non =>
    obtain rfl : u = Value.none := ru
    exact PySem.P.repr_of_none ⟨.str _, H, I.tok _, ⟨_, rfl⟩, q⟩
  | bl b =>
    obtain rfl : u = Value.bool b := ru
    refine PySem.P.repr_of_bool ⟨.str _, H, I.tok _, ⟨_, rfl⟩, ?_⟩
    cases b <;> exact q
  | int i =>
    obtain ⟨t, rfl⟩ := (show ∃ t, u = Value.int i t from ru)
    exact PySem.P.repr_of_int (by simpa [PyData.showable] using h1) ⟨.str _, H, I.tok _, ⟨_, rfl⟩, q⟩
  | str x =>
    obtain ⟨t, rfl⟩ := (show ∃ t, u = Value.str x t from ru)
    exact PySem.P.repr_of_str ⟨.str _, H, I.tok _, ⟨_, rfl⟩, q⟩ h4
  | lst hs ha => exact big _ rfl
  | tup hs ha => exact big _ rfl
/-- an instance -/
def InsAt (H : Hp) (a C : Addr) : Prop := ∃ dx fs, H a = some (.ins C dx fs)
/-- values that an own operator may hand back -/
def Told (v : V) : Prop := (∃ a, v = .ref a) ∨ ∃ b, v = .bl b
theorem cmpBack {Q : VK} {X : Cx} {pins : List (Addr × Obj)} {σ : L2.St} {u : Value} {s : Shared} (h : EP X pins σ (fun v H' => Told v ∧ Q v H') u s) : PySem.W.CmpBack (EP X pins σ Q) u s := by
  obtain ⟨v, H', I, r, t, q⟩ := h
  rcases t with ⟨a, rfl⟩ | ⟨b, rfl⟩
  · cases (show u = Value.ref a from r)
    exact ⟨.ref a, H', I, rfl, q⟩
  · cases (show u = Value.bool b from r)
    exact ⟨.bl b, H', I, rfl, q⟩
section
variable {X : Cx} {CX : CXT} {k : Nat} {f C : Addr} {fd : FuncData} {ps : List Str} {sp : Sp} {E : XK}
/-- x op y, both of the class at C, by its own method -/
def rOwn2 (C : Addr) (sp : Sp) (E : XK) : R2 := fun x y H Q => ∃ a b, x = .ref a ∧ y = .ref b ∧ InsAt H a C ∧ InsAt H b C ∧ sp [.ref a, .ref b] H (fun v H' => Told v ∧ Q v H') E
theorem op_own2 {op : Operator} (sf : PySem.W.selfFirst X.K C = true) (M : Meth X.K C (PySem.dunder op.info.2) f) (F : FnOk X.prog X.w X.K X.mg X.base CX k f fd ps sp) (hr : Room k X.A) (hb : Binds X.K fd ps []) (hx : Passes CX X E) : OpR X (binaryOp op) (rOwn2 C sp E) := by
  intro pins s σ H x y v u Q I rx ry h
  obtain ⟨a, b, rfl, rfl, ⟨dx, fs, ha⟩, ⟨dy, gs, hb'⟩, q⟩ := h
  cases rx
  cases ry
  obtain ⟨mA, J, _⟩ := ins_get I.hok ha
  obtain ⟨mB, J', _⟩ := ins_get I.hok hb'
  obtain ⟨od, J, _⟩ := J.look
  obtain ⟨od', J', _⟩ := J'.look
  obtain ⟨m, hF⟩ := I.fr
  refine PySem.W.binop_K (op := op) hF I.ok.mod.kin J J'.type sf M.at_ M.fn ?_
  exact wpAny_mono (run_fn F hr hb .nil hx I (vs := [.ref a, .ref b]) (.cons rfl (.cons rfl .nil)) q) (fun _ _ z => cmpBack z) fun _ _ z => z
/-- -x -/
def rOwn1 (C : Addr) (sp : Sp) (E : XK) : V → Hp → VK → Prop := fun x H Q => ∃ a, x = .ref a ∧ InsAt H a C ∧ sp [.ref a] H Q E
theorem un_own (M : Meth X.K C "__neg__" f) (F : FnOk X.prog X.w X.K X.mg X.base CX k f fd ps sp) (hr : Room k X.A) (hb : Binds X.K fd ps []) (hx : Passes CX X E) : UnR X (unaryOp .USub) (rOwn1 C sp E) := by
  intro pins s σ H x v Q I rx h
  obtain ⟨a, rfl, ⟨dx, fs, ha⟩, q⟩ := h
  cases rx
  obtain ⟨mA, J, _⟩ := ins_get I.hok ha
  obtain ⟨od, J, _⟩ := J.look
  unfold unaryOp
  refine wpAny_holding ?_
  show wpAny _ _ (callSpecial? (.ref a) "__neg__" >>= _) _ _ _
  refine wpAny_bind (PySem.W.special_fn I.kIn J M.at_ (beq_iff_eq.mp M.fn) ?_)
  exact wpAny_mono (run_fn F hr hb .nil hx I (vs := [.ref a]) (.cons rfl .nil) q) (fun _ _ z => wpAny_pure z) fun _ _ z => z
/-- x == y, x of the class at C -/
def rOwnE (K : PySem.W.Frag) (C : Addr) (sp : Sp) (E : XK) : R2 := fun x y H Q => ∃ a tb, x = .ref a ∧ InsAt H a C ∧ TyX K H y tb ∧ PySem.W.notFirst K C tb = true ∧ sp [.ref a, y] H (fun v H' => Told v ∧ Q v H') E
theorem op_ownE (M : Meth X.K C "__eq__" f) (F : FnOk X.prog X.w X.K X.mg X.base CX k f fd ps sp) (hr : Room k X.A) (hb : Binds X.K fd ps []) (hx : Passes CX X E) : OpR X (compareOp .Eq) (rOwnE X.K C sp E) := by
  intro pins s σ H x y v u Q I rx ry h
  obtain ⟨a, tb, rfl, ⟨dx, fs, ha⟩, ty, nf, q⟩ := h
  cases rx
  obtain ⟨mA, J, _⟩ := ins_get I.hok ha
  obtain ⟨od, J, _⟩ := J.look
  obtain ⟨m, hF⟩ := I.fr
  obtain ⟨P, Z, p, _⟩ := kit_of I ry ty
  show wpAny (model X.prog X.w) X.A (richCompare .Eq (.ref a) u) (EP X pins σ Q) X.xe s
  refine PySem.W.cmp_K (op := .Eq) (tb := tb) hr.units0 hF I.ok.mod.kin J (Z.ty _ _ I.kIn p) nf M.at_ M.fn ?_
  exact wpAny_mono (run_fn F hr hb .nil hx I (vs := [.ref a, y]) (.cons rfl (.cons ry .nil)) q) (fun _ _ z => cmpBack z) fun _ _ z => z
end
end AL
set_option Elab.async false
set_option maxRecDepth 100000
set_option exponentiation.threshold 70000
set_option maxHeartbeats 1000000
/-! Amounts: what stands in the heap, what each method promises, and the arithmetic of both sides. -/
namespace AL
open PySem L2
/-! ### ratios in lowest terms -/
def Low (p : Int) (q : Nat) : Prop := 0 < q ∧ Nat.gcd p.natAbs q = 1
theorem nrm_low {p : Int} {q : Nat} (h : Low p q) : nrm p q = (p, q) := nrm_eq h.1 h.1 h.2 rfl
theorem low_nrm (a : Int) {b : Nat} (hb : 0 < b) : Low (nrm a b).1 (nrm a b).2 := by
  obtain ⟨h1, h2, _⟩ := nrm_spec a hb
  exact ⟨h1, h2⟩
theorem nrm_le (a : Int) (b : Nat) : (nrm a b).1.natAbs ≤ a.natAbs ∧ (nrm a b).2 ≤ b := by
  unfold nrm
  refine ⟨?_, Nat.div_le_self _ _⟩
  rw [Int.fdiv_eq_ediv_of_nonneg _ (by omega), Int.natAbs_ediv_of_dvd (Int.ofNat_dvd_left.mpr (Nat.gcd_dvd_left _ _)), Int.natAbs_natCast]
  exact Nat.div_le_self _ _
theorem low_neg {p : Int} {q : Nat} (h : Low p q) : Low (-p) q := ⟨h.1, by rw [Int.natAbs_neg]; exact h.2⟩
theorem low_one (i : Int) : Low i 1 := ⟨by decide, Nat.gcd_one_right _⟩
def Sm (p : Int) (q : Nat) : Prop := p.natAbs < 2 ^ 1000 ∧ q < 2 ^ 1000
theorem sm_mid {p : Int} {q : Nat} (h : Sm p q) (l : 0 < q) : Mid p q :=
  ⟨l, Nat.lt_of_lt_of_le h.1 (Nat.pow_le_pow_right (by decide) (by decide)), Nat.lt_of_lt_of_le h.2 (Nat.pow_le_pow_right (by decide) (by decide))⟩
/-- what a quotient of two ratios is -/
def ovR (p : Int) (q : Nat) (c : Int) (d : Nat) : Int × Nat := if c < 0 then nrm (-(p * d)) (q * c.natAbs) else nrm (p * d) (q * c.natAbs)
theorem ovR_eq (p : Int) (q : Nat) (c : Int) (d : Nat) (hq : 0 < q) (hc : c ≠ 0) : lowI (p * d) ((q : Int) * c) = ((ovR p q c d).1, ((ovR p q c d).2 : Int)) := by
  unfold ovR
  by_cases h : c < 0
  · rw [if_pos h]
    have e : (q : Int) * c = -(((q * c.natAbs : Nat) : Int)) := by
      rw [Int.natCast_mul, show ((c.natAbs : Nat) : Int) = -c by omega, Int.mul_neg, Int.neg_neg]
    have pos : (0 : Int) < ((q * c.natAbs : Nat) : Int) := by
      have : 0 < q * c.natAbs := Nat.mul_pos hq (Int.natAbs_pos.mpr hc)
      omega
    rw [e, lowI_neg _ pos, lowI_pos]
  · rw [if_neg h]
    have e : (q : Int) * c = (((q * c.natAbs : Nat) : Int)) := by
      rw [Int.natCast_mul, show ((c.natAbs : Nat) : Int) = c by omega]
    rw [e, lowI_pos]
theorem ovR_low (p : Int) (q : Nat) (c : Int) (d : Nat) (hq : 0 < q) (hc : c ≠ 0) : Low (ovR p q c d).1 (ovR p q c d).2 := by
  have pos : 0 < q * c.natAbs := Nat.mul_pos hq (Int.natAbs_pos.mpr hc)
  unfold ovR
  split
  · exact low_nrm _ pos
  · exact low_nrm _ pos
theorem mul2 {x y : Nat} (a b : Nat) (hx : x < 2 ^ a) (hy : y < 2 ^ b) : x * y < 2 ^ (a + b) := by
  rw [Nat.pow_add]
  exact Nat.mul_lt_mul_of_lt_of_lt hx hy
theorem up6 {x a : Nat} (h : x < 2 ^ a) (ha : a ≤ 6000) : x < 2 ^ 6000 := Nat.lt_of_lt_of_le h (Nat.pow_le_pow_right (by decide) ha)
theorem nrm_mid {a : Int} {b : Nat} (hb : 0 < b) (h1 : a.natAbs < 2 ^ 6000) (h2 : b < 2 ^ 6000) : Mid (nrm a b).1 (nrm a b).2 :=
  ⟨(low_nrm a hb).1, Nat.lt_of_le_of_lt (nrm_le a b).1 h1, Nat.lt_of_le_of_lt (nrm_le a b).2 h2⟩
theorem sm_prod {a : Int} {b : Nat} (h1 : a.natAbs < 2 ^ 1000) (h2 : b < 2 ^ 1000) : (a * (b : Int)).natAbs < 2 ^ 2000 := by
  rw [Int.natAbs_mul, Int.natAbs_natCast]
  exact mul2 1000 1000 h1 h2
theorem sum_ok {p c : Int} {q d : Nat} (s : Sm p q) (t : Sm c d) (hq : 0 < q) (hd : 0 < d) : Low (sumR p q c d).1 (sumR p q c d).2 ∧ Mid (sumR p q c d).1 (sumR p q c d).2 := by
  have pos := Nat.mul_pos hq hd
  have n1 := sm_prod s.1 t.2
  have n2 := sm_prod t.1 s.2
  have e : (2 : Nat) ^ 2001 = 2 ^ 2000 + 2 ^ 2000 := by rw [show 2001 = 2000 + 1 from rfl, Nat.pow_succ, Nat.mul_two]
  have n3 : (p * (d : Int) + c * (q : Int)).natAbs < 2 ^ 2001 := by
    rw [e]; generalize (2 : Nat) ^ 2000 = z at n1 n2 ⊢; omega
  exact ⟨low_nrm _ pos, nrm_mid pos (up6 n3 (by decide)) (up6 (mul2 1000 1000 s.2 t.2) (by decide))⟩
theorem dif_eq (p : Int) (q : Nat) (c : Int) (d : Nat) : difR p q c d = sumR p q (-c) d := by
  unfold difR sumR
  rw [Int.neg_mul, Int.sub_eq_add_neg]
theorem sm_neg {p : Int} {q : Nat} (h : Sm p q) : Sm (-p) q := ⟨by rw [Int.natAbs_neg]; exact h.1, h.2⟩
theorem mul_ok {p c : Int} {q d : Nat} (s : Sm p q) (t : Sm c d) (hq : 0 < q) (hd : 0 < d) : Low (mulR p q c d).1 (mulR p q c d).2 ∧ Mid (mulR p q c d).1 (mulR p q c d).2 := by
  have pos := Nat.mul_pos hq hd
  refine ⟨low_nrm _ pos, nrm_mid pos ?_ (up6 (mul2 1000 1000 s.2 t.2) (by decide))⟩
  rw [Int.natAbs_mul]
  exact up6 (mul2 1000 1000 s.1 t.1) (by decide)
theorem ov_ok {p c : Int} {q d : Nat} (s : Sm p q) (t : Sm c d) (hq : 0 < q) (hc : c ≠ 0) : Low (ovR p q c d).1 (ovR p q c d).2 ∧ Mid (ovR p q c d).1 (ovR p q c d).2 := by
  have pos : 0 < q * c.natAbs := Nat.mul_pos hq (Int.natAbs_pos.mpr hc)
  have h1 : (p * (d : Int)).natAbs < 2 ^ 6000 := up6 (sm_prod s.1 t.2) (by decide)
  have h2 : q * c.natAbs < 2 ^ 6000 := up6 (mul2 1000 1000 s.2 t.1) (by decide)
  refine ⟨ovR_low p q c d hq hc, ?_⟩
  unfold ovR
  split
  · exact nrm_mid pos (by rw [Int.natAbs_neg]; exact h1) h2
  · exact nrm_mid pos h1 h2
/-- the power n -/
def pwR (p : Int) (q : Nat) (n : Int) : Int × Nat := if n < 0 then ovR ((q ^ n.natAbs : Nat) : Int) 1 (p ^ n.natAbs) 1 else (p ^ n.natAbs, q ^ n.natAbs)
theorem pow6 {x n : Nat} (h : x < 2 ^ 1000) (hn : n ≤ 6) : x ^ n < 2 ^ 6000 := by
  rcases Nat.eq_zero_or_pos n with rfl | h0
  · exact Nat.one_lt_two_pow (by decide)
  · refine Nat.lt_of_lt_of_le (Nat.pow_lt_pow_left h (by omega)) ?_
    rw [← Nat.pow_mul]
    exact Nat.pow_le_pow_right (by decide) (by omega)
theorem pw_ok {p : Int} {q : Nat} {n : Int} (s : Sm p q) (l : Low p q) (hn : n.natAbs ≤ 6) (h0 : ¬ (n < 0 ∧ p = 0)) : Low (pwR p q n).1 (pwR p q n).2 ∧ Mid (pwR p q n).1 (pwR p q n).2 := by
  have hp : (p ^ n.natAbs).natAbs < 2 ^ 6000 := by rw [Int.natAbs_pow]; exact pow6 s.1 hn
  have hq := pow6 s.2 hn
  unfold pwR
  by_cases h : n < 0
  · rw [if_pos h]
    have hp0 : p ≠ 0 := fun z => h0 ⟨h, z⟩
    have e0 : p ^ n.natAbs ≠ 0 := Int.pow_ne_zero hp0
    have pos : 0 < 1 * (p ^ n.natAbs).natAbs := by rw [Nat.one_mul]; exact Int.natAbs_pos.mpr e0
    refine ⟨ovR_low _ _ _ _ (by decide) e0, ?_⟩
    have h1 : (((q ^ n.natAbs : Nat) : Int) * ((1 : Nat) : Int)).natAbs < 2 ^ 6000 := by rw [Int.natCast_one, Int.mul_one, Int.natAbs_natCast]; exact hq
    have h2 : 1 * (p ^ n.natAbs).natAbs < 2 ^ 6000 := by rw [Nat.one_mul]; exact hp
    unfold ovR
    split
    · exact nrm_mid pos (by rw [Int.natAbs_neg]; exact h1) h2
    · exact nrm_mid pos h1 h2
  · rw [if_neg h]
    have hq0 : 0 < q ^ n.natAbs := Nat.pow_pos l.1
    refine ⟨⟨hq0, ?_⟩, hq0, hp, hq⟩
    show Nat.gcd (p ^ n.natAbs).natAbs (q ^ n.natAbs) = 1
    rw [Int.natAbs_pow]
    exact Nat.Coprime.pow _ _ l.2
/-! ### the heap -/
/-- all but dicts stays -/
def KeepP (H H' : Hp) : Prop := ∀ b o, H b = some o → (∀ l, o ≠ .dK l) → H' b = some o
/-- all but dicts and tables stays -/
def KeepD (H H' : Hp) : Prop := ∀ b o, H b = some o → (∀ l, o ≠ .dK l) → (∀ ps, o ≠ .tbl ps) → H' b = some o
theorem KeepD.refl (H : Hp) : KeepD H H := fun _ _ h _ _ => h
theorem KeepP.refl (H : Hp) : KeepP H H := fun _ _ h _ => h
theorem KeepD.trans {H H1 H2 : Hp} (a : KeepD H H1) (b : KeepD H1 H2) : KeepD H H2 := fun c o h n t => b c o (a c o h n t) n t
theorem KeepP.trans {H H1 H2 : Hp} (a : KeepP H H1) (b : KeepP H1 H2) : KeepP H H2 := fun c o h n => b c o (a c o h n) n
theorem KeepP.d {H H1 : Hp} (a : KeepP H H1) : KeepD H H1 := fun c o h n _ => a c o h n
theorem Same.p {H H' : Hp} (s : Same H H') : KeepP H H' := fun b o h _ => s b o h
theorem Same.d {H H' : Hp} (s : Same H H') : KeepD H H' := (Same.p s).d
theorem Keep.p {p c : Addr} {m : Nat} {H H' : Hp} (k : Keep p H H') (P : Pen H p c m) : KeepP H H' := fun _ _ h n => k.at P h n
theorem ext_d {H H' : Hp} (e : LamX.ExtN H H') : KeepD H H' := fun b o h _ t => e b o h t
theorem pen_ext {H H' : Hp} {p c : Addr} {m : Nat} (P : Pen H p c m) (e : LamX.ExtN H H') : Pen H' p c m :=
  P.keep (fun o h => by
    obtain ⟨l, z⟩ := P.dict
    rw [z] at h; cases h
    exact e _ _ z (fun ps w => by cases w)) (fun o h => by
    obtain ⟨ns, i, d, n, f, h1, h2, _⟩ := P.ex
    rw [h2] at h; cases h
    exact e _ _ h2 (fun ps w => by cases w))
theorem tabs_p {T : List (Addr × Str)} {H H' : Hp} (t : LamX.Tabs T H) (k : KeepP H H') : LamX.Tabs T H' := fun p hp => by
  obtain ⟨ps, h1, h2, h3⟩ := t p hp
  refine ⟨ps, k _ _ h1 (fun l z => by cases z), h2, fun pos cv hc => ?_⟩
  obtain ⟨c, e1, e2⟩ := h3 pos cv hc
  exact ⟨c, e1, k _ _ e2 (fun l z => by unfold LamX.CodeO at z; cases z)⟩
theorem KeepD.tup {H H' : Hp} (k : KeepD H H') {a : Addr} {xs : List V} (h : H a = some (.tup xs)) : H' a = some (.tup xs) := k a _ h (fun l z => by cases z) (fun l z => by cases z)
theorem KeepD.lst {H H' : Hp} (k : KeepD H H') {a : Addr} {xs : List V} (h : H a = some (.lst xs)) : H' a = some (.lst xs) := k a _ h (fun l z => by cases z) (fun l z => by cases z)
theorem kEN : ¬ (("exponents" : Str) = "number") := by decide +kernel
def flA (t r : Addr) : List (Str × V) := putF "number" (.ref r) (putF "exponents" (.ref t) [])
theorem flA_e (t r : Addr) : (flA t r).lookup ("exponents" : Str) = some (.ref t) := by
  unfold flA
  rw [lookup_putF, if_neg kEN, lookup_putF, if_pos rfl]
theorem flA_n (t r : Addr) : (flA t r).lookup ("number" : Str) = some (.ref r) := by
  unfold flA
  rw [lookup_putF, if_pos rfl]
theorem flA_no (t r : Addr) {m : Str} (h1 : ¬ m = "number") (h2 : ¬ m = "exponents") : (flA t r).lookup m = none := by
  unfold flA
  rw [lookup_putF, if_neg h1, lookup_putF, if_neg h2]
  all_goals rfl
def TupI (H : Hp) (t : Addr) (es : List Int) : Prop := H t = some (.tup (es.map V.int))
/-- an amount stands at x -/
structure Amt (CA : Addr) (H : Hp) (x : Addr) (es : List Int) (p : Int) (q : Nat) : Prop where
  ex : ∃ dx t r, H x = some (.ins CA dx (flA t r)) ∧ TupI H t es ∧ RatAt H r p q
  ne : es ≠ []
  le : es.length ≤ 60
  low : Low p q
  mid : Mid p q
theorem Amt.keep {CA x : Addr} {H H' : Hp} {es : List Int} {p : Int} {q : Nat} (h : Amt CA H x es p q) (k : KeepD H H') : Amt CA H' x es p q := by
  obtain ⟨dx, t, r, h1, h2, h3⟩ := h.ex
  exact ⟨⟨dx, t, r, k x _ h1 (fun l z => by cases z) (fun l z => by cases z), k.tup h2, k.tup h3⟩, h.ne, h.le, h.low, h.mid⟩
theorem Amt.ins {CA x : Addr} {H : Hp} {es : List Int} {p : Int} {q : Nat} (h : Amt CA H x es p q) : InsAt H x CA := by
  obtain ⟨dx, t, r, h1, _⟩ := h.ex
  exact ⟨dx, _, h1⟩
theorem dpAll_int {K : PySem.W.Frag} {H : Hp} : ∀ l : List Int, DpAll K H (l.map V.int) (l.map PyData.int)
  | [] => .nil
  | i :: l => .cons (.int i) (dpAll_int l)
theorem dp_ints {K : PySem.W.Frag} {H : Hp} {t : Addr} {es : List Int} (h : TupI H t es) : Dp K H (.ref t) (.tuple (es.map PyData.int)) := .tup (SqT.of h) (dpAll_int es)
theorem can_ints (l : List Int) : PyData.canLayAll0 (l.map PyData.int) = true ∧ PyData.depthAll (l.map PyData.int) = 0 := by
  induction l with
  | nil => exact ⟨rfl, rfl⟩
  | cons b l ih => exact ⟨by simp [PyData.canLayAll0, PyData.canLay0, ih.1], by simp [PyData.depthAll, PyData.depth, ih.2]⟩
theorem shaped_ints (l : List Int) : SeqAt.shaped (.tuple (l.map PyData.int)) = true := by
  unfold SeqAt.shaped
  rw [show PyData.canLay0 (.tuple (l.map PyData.int)) = true by simpa [PyData.canLay0] using (can_ints l).1]
  simp [PyData.depth, (can_ints l).2]
theorem eqv_ints (a b : List Int) : PyData.eqv (.tuple (a.map PyData.int)) (.tuple (b.map PyData.int)) = decide (a = b) := by
  rw [PyData.eqv]
  exact PySem.W.ked_eqvAll a b
theorem rat_ints {H : Hp} {r : Addr} {p : Int} {q : Nat} (h : RatAt H r p q) : TupI H r [p, (q : Int)] := h
/-! ### what may be passed for exponents -/
inductive BadExp (K : PySem.W.Frag) (H : Hp) : V → Prop
  | other {x : V} {u : Value} (h : TyX K H x u) (ht : PySem.W.kitOne K u (.type "tuple") = some false) : BadExp K H x
  | empty {t : Addr} (h : H t = some (.tup [])) : BadExp K H (.ref t)
  | item {t : Addr} {xs : List V} (f : V → Bool) (h : H t = some (.tup xs)) (ne : xs ≠ []) (hl : xs.length ≤ 100)
      (hf : ∀ H', Same H H' → ∀ x ∈ xs, ∃ u b c, TyX K H' x u ∧ PySem.W.kitOne K u (.type "int") = some b ∧ PySem.W.kitOne K u (.type "bool") = some c ∧ (b && !c) = f x) (no : xs.all f = false) : BadExp K H (.ref t)
/-- are_integers(t) -/
def spAreG (K : PySem.W.Frag) : Sp := fun vs H Q _ => ∃ (t : Addr) (xs : List V) (f : V → Bool), vs = [.ref t] ∧ H t = some (.tup xs) ∧ xs.length ≤ 100 ∧
  (∀ H', Same H H' → ∀ x ∈ xs, ∃ u b c, TyX K H' x u ∧ PySem.W.kitOne K u (.type "int") = some b ∧ PySem.W.kitOne K u (.type "bool") = some c ∧ (b && !c) = f x) ∧ ∀ H', Same H H' → Q (.bl (xs.all f)) H'
theorem flat_all {K : PySem.W.Frag} {H : Hp} {xs : List V} {f : V → Bool} (h : ∀ x ∈ xs, flatW x = some (f x)) : ∀ H', Same H H' → ∀ x ∈ xs, ∃ u b c, TyX K H' x u ∧ PySem.W.kitOne K u (.type "int") = some b ∧ PySem.W.kitOne K u (.type "bool") = some c ∧ (b && !c) = f x :=
  fun _ _ x hx => flat_ty (h x hx)
theorem ints_all {K : PySem.W.Frag} {H : Hp} (es : List Int) : ∀ H', Same H H' → ∀ x ∈ es.map V.int, ∃ u b c, TyX K H' x u ∧ PySem.W.kitOne K u (.type "int") = some b ∧ PySem.W.kitOne K u (.type "bool") = some c ∧ (b && !c) = (fun _ => true) x :=
  flat_all (K := K) (H := H) (f := fun _ => true) fun x hx => by
    obtain ⟨i, _, rfl⟩ := List.mem_map.mp hx
    rfl
/-! ### the methods' promises -/
def errN (what : Str) (v : V) : HO := .xd [("number", v), ("what", .str what)]
def errU (t u : Addr) : HO := .xd [("other", .ref u), ("one", .ref t), ("place", .int 0)]
def errZ : HO := .xd [("place", .int 0)]
/-- the error of unlike exponents, at H -/
def ThrowU (UL : Addr) (H : Hp) (es fs : List Int) (E : XK) : Prop := ∀ t u d H1, TupI H1 t es → TupI H1 u fs → H1 d = none → Same H H1 → E (.ref UL) (some d) (upd H1 d (errU t u))
def spLike (CA UL : Addr) : Sp := fun vs H Q E => ∃ x y es fs p q c d, vs = [.ref x, .ref y] ∧ Amt CA H x es p q ∧ Amt CA H y fs c d ∧ (es = fs → Q .non H) ∧ (es ≠ fs → ThrowU UL H es fs E)
/-- Amount.__init__(self, exponents, number) -/
def spIniA (K : PySem.W.Frag) (CA BN : Addr) : Sp := fun vs H Q E => ∃ (x dx : Addr) (e n : V), vs = [.ref x, e, n] ∧ H x = some (.ins CA dx []) ∧
  ((BadExp K H e ∧ ∀ d H1, H1 d = none → Same H H1 → E (.ref BN) (some d) (upd H1 d (errN "exponents" e))) ∨
   (∃ t es, e = .ref t ∧ TupI H t es ∧ es ≠ [] ∧ es.length ≤ 60 ∧
     ((RatV K H n none ∧ ∀ d H1, H1 d = none → Same H H1 → E (.ref BN) (some d) (upd H1 d (errN "number" n))) ∨
      ∃ p q, RatV K H n (some (p, q)) ∧ Mid p q ∧
        ∀ r H', (∀ b o, b ≠ x → H b = some o → H' b = some o) → H' x = some (.ins CA dx (flA t r)) → RatAt H' r (nrm p q).1 (nrm p q).2 → Q .non H')))
/-- x + y, x - y -/
def spSumA (CA UL : Addr) (f : Int → Nat → Int → Nat → Int × Nat) : Sp := fun vs H Q E => ∃ x y es fs p q c d, vs = [.ref x, .ref y] ∧ Amt CA H x es p q ∧ Amt CA H y fs c d ∧ Sm p q ∧ Sm c d ∧
  (es = fs → ∀ z H', Same H H' → Amt CA H' z es (f p q c d).1 (f p q c d).2 → Q (.ref z) H') ∧ (es ≠ fs → ThrowU UL H es fs E)
def spLessA (CA UL : Addr) : Sp := fun vs H Q E => ∃ x y es fs p q c d, vs = [.ref x, .ref y] ∧ Amt CA H x es p q ∧ Amt CA H y fs c d ∧ (es = fs → Q (.bl (decide (p * (d : Int) < c * (q : Int)))) H) ∧ (es ≠ fs → ThrowU UL H es fs E)
def spMulA (CA : Addr) : Sp := fun vs H Q _ => ∃ x y es fs p q c d, vs = [.ref x, .ref y] ∧ Amt CA H x es p q ∧ Amt CA H y fs c d ∧ Sm p q ∧ Sm c d ∧ es.length = fs.length ∧
  ∀ z H', Same H H' → Amt CA H' z (List.zipWith (· + ·) es fs) (mulR p q c d).1 (mulR p q c d).2 → Q (.ref z) H'
def spNegA (CA : Addr) : Sp := fun vs H Q _ => ∃ x es p q, vs = [.ref x] ∧ Amt CA H x es p q ∧ ∀ z H', Same H H' → Amt CA H' z es (-p) q → Q (.ref z) H'
def spOverA (CA BZ : Addr) : Sp := fun vs H Q E => ∃ x y es fs p q c d, vs = [.ref x, .ref y] ∧ Amt CA H x es p q ∧ Amt CA H y fs c d ∧ Sm p q ∧ Sm c d ∧ es.length = fs.length ∧
  (c = 0 → ∀ dd, H dd = none → E (.ref BZ) (some dd) (upd H dd errZ)) ∧
  (c ≠ 0 → ∀ z H', Same H H' → Amt CA H' z (List.zipWith (· - ·) es fs) (ovR p q c d).1 (ovR p q c d).2 → Q (.ref z) H')
def spPowA (K : PySem.W.Frag) (CA BN BZ : Addr) : Sp := fun vs H Q E => ∃ x v es p q, vs = [.ref x, v] ∧ Amt CA H x es p q ∧ Sm p q ∧
  ((∃ u b c, TyX K H v u ∧ PySem.W.kitOne K u (.type "int") = some b ∧ PySem.W.kitOne K u (.type "bool") = some c ∧ (b && !c) = false ∧ ∀ dd, H dd = none → E (.ref BN) (some dd) (upd H dd (errN "power" v))) ∨
   ∃ n : Int, v = .int n ∧ n.natAbs ≤ 6 ∧ ((n < 0 ∧ p = 0) → ∀ dd, H dd = none → E (.ref BZ) (some dd) (upd H dd errZ)) ∧
     (¬ (n < 0 ∧ p = 0) → ∀ z H', Same H H' → Amt CA H' z (es.map (n * ·)) (pwR p q n).1 (pwR p q n).2 → Q (.ref z) H'))
def spEqA (K : PySem.W.Frag) (CA : Addr) : Sp := fun vs H Q _ => ∃ x v es p q, vs = [.ref x, v] ∧ Amt CA H x es p q ∧
  ((∃ y fs c d, v = .ref y ∧ Amt CA H y fs c d ∧ Q (.bl (decide (es = fs) && decide (p = c ∧ q = d))) H) ∨ (∃ tb, TyX K H v tb ∧ PySem.W.kitOne K tb (.ref CA) = some false ∧ Q (.bl false) H))
end AL
set_option Elab.async false
set_option maxRecDepth 100000
set_option exponentiation.threshold 70000
set_option maxHeartbeats 1000000
/-! Sums and products of ratios in lowest terms, with small divisors. -/
namespace AL
open PySem L2
theorem tyx_same {K : PySem.W.Frag} {H H' : Hp} (s : Same H H') {x : V} {u : Value} (h : TyX K H x u) : TyX K H' x u := by
  cases h with
  | base b =>
    refine .base ?_
    cases b with
    | non => exact .non
    | bl x => exact .bl x
    | int i => exact .int i
    | str x => exact .str x
    | flt x => exact .flt x
    | lst e => exact .lst (s _ _ e)
    | frz e => exact .frz (s _ _ e)
    | tup e => exact .tup (s _ _ e)
    | dK e => exact .dK (s _ _ e)
    | dT e => exact .dT (s _ _ e)
    | ins e cl ha hn htk hm => exact .ins (s _ _ e) cl ha hn htk hm
  | byt b => exact .byt b
  | set e => exact .set (s _ _ e)
  | kList e c => exact .kList e c
  | kTuple e c => exact .kTuple e c
  | kDict e c => exact .kDict e c
  | fTuple e => exact .fTuple (s _ _ e)
  | fDict e => exact .fDict (s _ _ e)
theorem ratV_same {K : PySem.W.Frag} {H H' : Hp} {x : V} {r : Option (Int × Nat)} (h : RatV K H x r) (s : Same H H') : RatV K H' x r := h.same s fun _ z => tyx_same s z
theorem cop_mul {x y z : Nat} (h1 : Nat.gcd x y = 1) (h2 : Nat.gcd x z = 1) : Nat.gcd x (y * z) = 1 := Nat.Coprime.mul_right h1 h2
/-- the sum's parts -/
def shG (b d : Nat) : Nat := Nat.gcd b d
def totS (a : Int) (b : Nat) (c : Int) (d : Nat) : Int := a * ((d / Nat.gcd b d : Nat) : Int) + c * ((b / Nat.gcd b d : Nat) : Int)
def lefS (a : Int) (b : Nat) (c : Int) (d : Nat) : Nat := Nat.gcd (totS a b c d).natAbs (Nat.gcd b d)
theorem sum_short {a c : Int} {b d : Nat} (h : Low a b) (k : Low c d) : sumR a b c d = ((totS a b c d).fdiv ((lefS a b c d : Nat) : Int), b / lefS a b c d * (d / Nat.gcd b d)) := by
  have g0 : 0 < Nat.gcd b d := Nat.gcd_pos_of_pos_left _ h.1
  have l0 : 0 < lefS a b c d := Nat.gcd_pos_of_pos_right _ g0
  have co' : Nat.gcd (b / Nat.gcd b d) (d / Nat.gcd b d) = 1 := Nat.coprime_div_gcd_div_gcd g0
  have eb : b / Nat.gcd b d * Nat.gcd b d = b := Nat.div_mul_cancel (Nat.gcd_dvd_left _ _)
  have ed : d / Nat.gcd b d * Nat.gcd b d = d := Nat.div_mul_cancel (Nat.gcd_dvd_right _ _)
  have lt : lefS a b c d ∣ (totS a b c d).natAbs := Nat.gcd_dvd_left _ _
  have lg : lefS a b c d ∣ Nat.gcd b d := Nat.gcd_dvd_right _ _
  have eg : Nat.gcd b d / lefS a b c d * lefS a b c d = Nat.gcd b d := Nat.div_mul_cancel lg
  have cg : Nat.gcd ((totS a b c d).natAbs / lefS a b c d) (Nat.gcd b d / lefS a b c d) = 1 := Nat.coprime_div_gcd_div_gcd l0
  have lI : ((lefS a b c d : Nat) : Int) ∣ totS a b c d := Int.ofNat_dvd_left.mpr lt
  have eT : (totS a b c d).fdiv ((lefS a b c d : Nat) : Int) * ((lefS a b c d : Nat) : Int) = totS a b c d := by
    rw [Int.fdiv_eq_ediv_of_nonneg _ (by omega)]
    exact Int.ediv_mul_cancel lI
  have aT : ((totS a b c d).fdiv ((lefS a b c d : Nat) : Int)).natAbs = (totS a b c d).natAbs / lefS a b c d := by
    rw [Int.fdiv_eq_ediv_of_nonneg _ (by omega), Int.natAbs_ediv_of_dvd lI, Int.natAbs_natCast]
  have defT : totS a b c d = a * ((d / Nat.gcd b d : Nat) : Int) + c * ((b / Nat.gcd b d : Nat) : Int) := rfl
  generalize lefS a b c d = l at *
  generalize totS a b c d = T at *
  generalize hg : Nat.gcd b d = g at *
  generalize hb' : b / g = b' at *
  generalize hd' : d / g = d' at *
  generalize hg' : g / l = g' at *
  have hbl : b / l = b' * g' := by
    rw [← eb, ← eg, ← Nat.mul_assoc, Nat.mul_div_cancel _ l0]
  have hT0 : (T.fdiv (l : Int)).natAbs * l = T.natAbs := by rw [aT]; exact Nat.div_mul_cancel lt
  have dT : (T.fdiv (l : Int)).natAbs ∣ T.natAbs := ⟨l, hT0.symm⟩
  -- no divisor with b', none with d'
  have key : ∀ {x : Int} {y z w : Nat}, Nat.gcd x.natAbs (y * g) = 1 → Nat.gcd y z = 1 → (∀ e : Nat, e ∣ y → e ∣ T.natAbs → e ∣ (x * (z : Int)).natAbs) → Nat.gcd (T.fdiv (l : Int)).natAbs y = 1 := by
    intro x y z w h1 h2 h3
    have e1 := Nat.gcd_dvd_left (T.fdiv (l : Int)).natAbs y
    have e2 := Nat.gcd_dvd_right (T.fdiv (l : Int)).natAbs y
    generalize Nat.gcd (T.fdiv (l : Int)).natAbs y = e at e1 e2 ⊢
    have e3 := h3 e e2 (Nat.dvd_trans e1 dT)
    rw [Int.natAbs_mul, Int.natAbs_natCast] at e3
    have ce : Nat.gcd e z = 1 := Nat.Coprime.coprime_dvd_left e2 h2
    have e4 : e ∣ x.natAbs := Nat.Coprime.dvd_of_dvd_mul_right ce e3
    have e5 : e ∣ y * g := Nat.dvd_trans e2 (Nat.dvd_mul_right _ _)
    have e6 : e ∣ Nat.gcd x.natAbs (y * g) := Nat.dvd_gcd e4 e5
    rw [h1] at e6
    exact Nat.dvd_one.mp e6
  have dvd_sub : ∀ {e : Nat} {x y : Int}, e ∣ (x + y).natAbs → e ∣ y.natAbs → e ∣ x.natAbs := by
    intro e x y h1 h2
    have i1 := Int.ofNat_dvd_left.mpr h1
    have i2 := Int.ofNat_dvd_left.mpr h2
    have i3 := Int.dvd_sub i1 i2
    rw [Int.add_sub_cancel] at i3
    exact Int.ofNat_dvd_left.mp i3
  have k1 : Nat.gcd (T.fdiv (l : Int)).natAbs b' = 1 := by
    refine key (x := a) (z := d') (w := 0) (by rw [eb]; exact h.2) co' fun e he ht => ?_
    rw [defT] at ht
    refine dvd_sub ht ?_
    rw [Int.natAbs_mul, Int.natAbs_natCast]
    exact Nat.dvd_trans he (Nat.dvd_mul_left _ _)
  have k2 : Nat.gcd (T.fdiv (l : Int)).natAbs d' = 1 := by
    refine key (x := c) (z := b') (w := 0) (by rw [ed]; exact k.2) (by rw [Nat.gcd_comm]; exact co') fun e he ht => ?_
    rw [defT, Int.add_comm] at ht
    refine dvd_sub ht ?_
    rw [Int.natAbs_mul, Int.natAbs_natCast]
    exact Nat.dvd_trans he (Nat.dvd_mul_left _ _)
  have k3 : Nat.gcd (T.fdiv (l : Int)).natAbs g' = 1 := by rw [aT]; exact cg
  have b'0 : 0 < b' := Nat.pos_of_ne_zero fun z => by rw [z, Nat.zero_mul] at eb; have := h.1; omega
  have d'0 : 0 < d' := Nat.pos_of_ne_zero fun z => by rw [z, Nat.zero_mul] at ed; have := k.1; omega
  have g'0 : 0 < g' := Nat.pos_of_ne_zero fun z => by rw [z, Nat.zero_mul] at eg; omega
  unfold sumR
  refine nrm_eq ?_ (Nat.mul_pos h.1 k.1) ?_ ?_
  · rw [hbl]; exact Nat.mul_pos (Nat.mul_pos b'0 g'0) d'0
  · rw [hbl]; exact cop_mul (cop_mul k1 k3) k2
  · rw [hbl]
    have eb2 : (b : Int) = (b' : Int) * (g' : Int) * (l : Int) := by rw [← eb, ← eg]; push_cast; rw [Int.mul_assoc]
    have ed2 : (d : Int) = (d' : Int) * (g' : Int) * (l : Int) := by rw [← ed, ← eg]; push_cast; rw [Int.mul_assoc]
    have eS : a * (d : Int) + c * (b : Int) = T * ((g' : Int) * (l : Int)) := by
      rw [defT, eb2, ed2, Int.add_mul]
      congr 1
      · simp only [Int.mul_assoc]
      · simp only [Int.mul_assoc]
    rw [eS, Int.natCast_mul, Int.natCast_mul, Int.natCast_mul]
    have e3 : T * ((g' : Int) * (l : Int)) = T.fdiv (l : Int) * (l : Int) * ((g' : Int) * (l : Int)) := by rw [eT]
    rw [e3, eb2, ed2]
    generalize T.fdiv (l : Int) = t
    simp only [Int.mul_assoc, Int.mul_comm, Int.mul_left_comm]
theorem mul_short {a c : Int} {b d : Nat} (h : Low a b) (k : Low c d) : mulR a b c d = (a.fdiv ((Nat.gcd a.natAbs d : Nat) : Int) * c.fdiv ((Nat.gcd c.natAbs b : Nat) : Int), b / Nat.gcd c.natAbs b * (d / Nat.gcd a.natAbs d)) := by
  have f0 : 0 < Nat.gcd a.natAbs d := Nat.gcd_pos_of_pos_right _ k.1
  have s0 : 0 < Nat.gcd c.natAbs b := Nat.gcd_pos_of_pos_right _ h.1
  have part : ∀ {x : Int} {y : Nat}, 0 < Nat.gcd x.natAbs y → x.fdiv ((Nat.gcd x.natAbs y : Nat) : Int) * ((Nat.gcd x.natAbs y : Nat) : Int) = x ∧ (x.fdiv ((Nat.gcd x.natAbs y : Nat) : Int)).natAbs = x.natAbs / Nat.gcd x.natAbs y ∧ Nat.gcd (x.natAbs / Nat.gcd x.natAbs y) (y / Nat.gcd x.natAbs y) = 1 ∧ y / Nat.gcd x.natAbs y * Nat.gcd x.natAbs y = y := by
    intro x y g0
    have dI : ((Nat.gcd x.natAbs y : Nat) : Int) ∣ x := Int.ofNat_dvd_left.mpr (Nat.gcd_dvd_left _ _)
    refine ⟨?_, ?_, Nat.coprime_div_gcd_div_gcd g0, Nat.div_mul_cancel (Nat.gcd_dvd_right _ _)⟩
    · rw [Int.fdiv_eq_ediv_of_nonneg _ (by omega)]
      exact Int.ediv_mul_cancel dI
    · rw [Int.fdiv_eq_ediv_of_nonneg _ (by omega), Int.natAbs_ediv_of_dvd dI, Int.natAbs_natCast]
  obtain ⟨a1, a2, a3, a4⟩ := part f0
  obtain ⟨c1, c2, c3, c4⟩ := part s0
  have da : a.natAbs / Nat.gcd a.natAbs d ∣ a.natAbs := Nat.div_dvd_of_dvd (Nat.gcd_dvd_left _ _)
  have dc : c.natAbs / Nat.gcd c.natAbs b ∣ c.natAbs := Nat.div_dvd_of_dvd (Nat.gcd_dvd_left _ _)
  have db : b / Nat.gcd c.natAbs b ∣ b := Nat.div_dvd_of_dvd (Nat.gcd_dvd_right _ _)
  have dd : d / Nat.gcd a.natAbs d ∣ d := Nat.div_dvd_of_dvd (Nat.gcd_dvd_right _ _)
  have x1 : Nat.gcd (a.natAbs / Nat.gcd a.natAbs d) (b / Nat.gcd c.natAbs b) = 1 := Nat.Coprime.coprime_dvd_left da (Nat.Coprime.coprime_dvd_right db h.2)
  have x2 : Nat.gcd (c.natAbs / Nat.gcd c.natAbs b) (d / Nat.gcd a.natAbs d) = 1 := Nat.Coprime.coprime_dvd_left dc (Nat.Coprime.coprime_dvd_right dd k.2)
  have b0 : 0 < b / Nat.gcd c.natAbs b := Nat.div_pos (Nat.le_of_dvd h.1 (Nat.gcd_dvd_right _ _)) s0
  have d0 : 0 < d / Nat.gcd a.natAbs d := Nat.div_pos (Nat.le_of_dvd k.1 (Nat.gcd_dvd_right _ _)) f0
  unfold mulR
  refine nrm_eq (Nat.mul_pos b0 d0) (Nat.mul_pos h.1 k.1) ?_ ?_
  · rw [Int.natAbs_mul, a2, c2]
    exact Nat.Coprime.mul_left (cop_mul x1 a3) (cop_mul c3 x2)
  · generalize Nat.gcd a.natAbs d = f at *
    generalize Nat.gcd c.natAbs b = s at *
    have eb2 : (b : Int) = ((b / s : Nat) : Int) * (s : Int) := by rw [← Int.natCast_mul, c4]
    have ed2 : (d : Int) = ((d / f : Nat) : Int) * (f : Int) := by rw [← Int.natCast_mul, a4]
    have e1 : a * c = a.fdiv (f : Int) * (f : Int) * (c.fdiv (s : Int) * (s : Int)) := by rw [a1, c1]
    rw [e1, Int.natCast_mul, Int.natCast_mul, eb2, ed2]
    generalize a.fdiv (f : Int) = x
    generalize c.fdiv (s : Int) = y
    generalize ((b / s : Nat) : Int) = u
    generalize ((d / f : Nat) : Int) = v
    simp only [Int.mul_assoc, Int.mul_comm, Int.mul_left_comm]
/-- what two ratios in lowest terms make -/
def spTwoL (f : Int → Nat → Int → Nat → Int × Nat) : Sp := fun vs H Q _ => ∃ (s t : Addr) (a c : Int) (b d : Nat), vs = [.ref s, .ref t] ∧ RatAt H s a b ∧ RatAt H t c d ∧ Mid a b ∧ Mid c d ∧ Low a b ∧ Low c d ∧ ∀ u, H u = none → Q (.ref u) (upd H u (.tup [.int (f a b c d).1, .int ((f a b c d).2 : Int)]))
/-- the same, where more than the answer may be new -/
def spTwoS (f : Int → Nat → Int → Nat → Int × Nat) : Sp := fun vs H Q _ => ∃ (s t : Addr) (a c : Int) (b d : Nat), vs = [.ref s, .ref t] ∧ RatAt H s a b ∧ RatAt H t c d ∧ Mid a b ∧ Mid c d ∧ Low a b ∧ Low c d ∧ ∀ u H', Same H H' → RatAt H' u (f a b c d).1 (f a b c d).2 → Q (.ref u) H'
/-- over -/
def spTwoO : Sp := fun vs H Q _ => ∃ (s t : Addr) (a c : Int) (b d : Nat), vs = [.ref s, .ref t] ∧ RatAt H s a b ∧ RatAt H t c d ∧ Mid a b ∧ Mid c d ∧ c ≠ 0 ∧ ∀ u, H u = none → Q (.ref u) (upd H u (.tup [.int (ovR a b c d).1, .int ((ovR a b c d).2 : Int)]))
def spLessL : Sp := fun vs H Q _ => ∃ (s t : Addr) (a c : Int) (b d : Nat), vs = [.ref s, .ref t] ∧ RatAt H s a b ∧ RatAt H t c d ∧ Mid a b ∧ Mid c d ∧ Q (.bl (decide (a * (d : Int) < c * (b : Int)))) H
def spPowR : Sp := fun vs H Q _ => ∃ (s : Addr) (a : Int) (b : Nat) (n : Int), vs = [.ref s, .int n] ∧ RatAt H s a b ∧ Sm a b ∧ Low a b ∧ n.natAbs ≤ 6 ∧ ¬ (n < 0 ∧ a = 0) ∧ ∀ u, H u = none → Q (.ref u) (upd H u (.tup [.int (pwR a b n).1, .int ((pwR a b n).2 : Int)]))
/-- the law's own power -/
def spPowL : Sp := fun vs H Q _ => ∃ (s : Addr) (a : Int) (b : Nat) (n : Int), vs = [.ref s, .int n] ∧ RatAt H s a b ∧ Sm a b ∧ Low a b ∧ n.natAbs ≤ 6 ∧ ¬ (n < 0 ∧ a = 0) ∧ ∀ u H', Same H H' → RatAt H' u (pwR a b n).1 (pwR a b n).2 → Q (.ref u) H'
def spAsG (K : PySem.W.Frag) : Sp := fun vs H Q _ => ∃ (x : V) (p : Int) (q : Nat), vs = [x] ∧ RatV K H x (some (p, q)) ∧ Mid p q ∧ ∀ t, H t = none → Q (.ref t) (upd H t (.tup [.int (nrm p q).1, .int ((nrm p q).2 : Int)]))
end AL
set_option Elab.async false
set_option maxRecDepth 100000
set_option maxHeartbeats 4000000
/-! try with several named clauses: the wish is asked where all names have their slots. -/
namespace AL
open PySem PySem.Spec PyProof.Rows L2
section
variable {X : Cx} {body : List Stmt} {h0 : ExceptHandler} {hd : List ExceptHandler} {l : List Cl} {pos : Pos} {tb : WX → TS} {W0 : WX}
theorem ps_tryL (stk : X.stack = X.env :: X.outer) (frm : X.env.frame = some X.env.locals) (nd : X.N.Nodup) (tk : Takes X W0)
    (inner : ∀ (W : WX) (pn : List (Addr × Obj)) (xe : Value → Shared → Prop), Takes (X.tr pn xe) W → PassesOwn (model X.prog X.w) X.A X.env xe → PSs (X.tr pn xe) body (tb W)) (cls : Named X (h0 :: hd) l) :
    PS X (.Try body (h0 :: hd) [] [] pos) (fun D σ H => tb (fun cls d σ H => σ.length = X.N.length → wNamed X.K W0 D l cls d σ H) D σ H) := by
  constructor
  intro pins s σ H D I h
  have frames : X.A.frames = some (X.env :: X.outer) := by rw [I.ok.frames, stk]
  let back : Value → Shared → Prop := fun e t1 => wpAny (model X.prog X.w) X.A (noteFrame e X.env) (fun _ t2 => wpAny (model X.prog X.w) X.A (setFlight e none) (fun _ t3 => wpAny (model X.prog X.w) X.A (handleBy e X.env (h0 :: hd)) (SP X pins D) X.xe t3) X.xe t2) X.xe t1
  have caught : ∀ u t, XE (X.tr (X.pn ++ pins) back) (fun cls d σ H => σ.length = X.N.length → wNamed X.K W0 D l cls d σ H) u t → back u t := by
    rintro u t ⟨a, B, t0, pins0, σ1, H1, ec, ed, rfl, J0, ground, up, sky, fresh, oss, bare, wish⟩
    have J : Inv X pins σ1 H1 t0 := J0.ofTry I.ok
    have sky1 : Sky B (X.env :: X.outer) a (Zc ec ed) X.env.locals t.heap := by rw [← stk]; exact sky
    show wpAny (model X.prog X.w) X.A (noteFrame (.ref a) X.env) _ _ _
    refine Sky.land Zc.steady frames frm sky1 fun g3 fl3 up3 => ?_
    have J3 : Inv X pins σ1 H1 { t with heap := g3 } := J.landed ground fl3.1 (up.trans up3) oss bare
    obtain ⟨o3, v3, at3, z3, dat3⟩ := fl3.there
    have apart : a ∉ frs (X.env :: X.outer) := fun m => by
      obtain ⟨_, o', e', no⟩ := fl3.2.2.1.mem m
      rw [at3] at e'
      cases e'
      exact no _ dat3
    have notL : a ≠ X.env.locals := fun z => apart (List.mem_filterMap.mpr ⟨X.env, List.mem_cons_self, by rw [frm, z]⟩)
    have notF : a ∉ X.fs := fun m => by
      obtain ⟨en, hen, q⟩ := List.mem_filterMap.mp m
      exact apart (List.mem_filterMap.mpr ⟨en, List.mem_cons_of_mem _ hen, q⟩)
    have S3 := J3.suite at3 dat3 fresh notL notF
    suffices all : ∀ {hd' : List ExceptHandler} {l' : List Cl}, Named X hd' l' → wNamed X.K W0 D l' ec ed σ1 H1 → wpAny (model X.prog X.w) X.A (handleBy (.ref a) X.env hd') (SP X pins D) X.xe { t with heap := g3 } from all cls (wish J.len)
    intro hd' l' nm
    induction nm with
    | nil =>
      intro w0
      refine wpAny_handleBy_nil ?_
      obtain ⟨_, _, _, oe, fv, T, oT, ts', he, hz, hdt, h1, _⟩ := id fl3
      unfold PySem.passOn
      refine wpAny_bind (wpAny_field he hdt h1 ?_)
      have notNone : ¬ ((Value.ref T == Value.none) = true) := by simp
      rw [if_neg notNone]
      have fly : wpAny (model X.prog X.w) X.A (setFlight (.ref a) X.env.frame) (fun _ t4 => wpAny (model X.prog X.w) X.A (throw (.ref a) : Sem Flow) (SP X pins D) X.xe t4) X.xe { t with heap := g3 } := by
        rw [frm]
        exact HandSPX.setFlight_upZ fl3 fun g4 held up4 => wpAny_throw (tk _ _ ⟨a, B, t0, pins, σ1, H1, ec, ed, rfl, J, ground, (up.trans up3).trans up4, .inr (.inr (by rw [stk]; exact held)), fresh, oss, bare, w0⟩)
      first
        | exact wpAny_bind (wpAny_pure (wpAny_bind fly))
        | exact wpAny_bind fly
    | @cons x n c i ts b0 rest q1 q2 hd2 l2 cl sl lo su r ih =>
      rintro ⟨b, isb, yes, no⟩
      refine wpAny_handleBy_cons (codeAny_handlers_test ?_) (by intro q; cases q)
      have LT : PySem.W.Looks (model X.prog X.w) g3 (typeOf (.ref a)) ec := fun A' Q' E' s' k' q' => wpAny_typeOf_ref (k' _ _ at3) (by rw [z3.1]; exact q')
      have LM := PySem.W.exm_one (M := model X.prog X.w) (J3.kIn) LT isb
      have asks : ∀ {Q' : Value → Shared → Prop} {E' : Value → Shared → Prop}, Q' c { t with heap := g3 } → wpAny (model X.prog X.w) (X.A.mark (some (.ref a))) (eval (.Name x q1) X.env) Q' E' { t with heap := g3 } := by
        intro Q' E' q'
        obtain ⟨gl, nodb, known⟩ := cl
        rcases known with hm | ⟨hm, hv, hnn⟩
        · exact ld_glob (X := X.suite a ((a, o3) :: (X.pn ++ pins))) S3 gl hm q' nodb
        · exact ld_blt (X := X.suite a ((a, o3) :: (X.pn ++ pins))) S3 gl hm hv q' hnn nodb
      refine asks (LM.here ?_)
      cases b with
      | false =>
        show wpAny _ X.A (handleBy (.ref a) X.env hd2) _ _ _
        exact ih (no rfl)
      | true =>
        refine codeAny_handlers_suite_as (HandSPX.lands_againZ fl3 fun g4 fl4 up4 => ?_)
        have J4 : Inv X pins σ1 H1 { t with heap := g4 } := J.landed ground fl4.1 ((up.trans up3).trans up4) oss bare
        obtain ⟨o4, v4, at4, z4, dat4⟩ := fl4.there
        have S4 := J4.suite at4 dat4 fresh notL notF
        refine store_ok (X := X.suite a ((a, o4) :: (X.pn ++ pins))) (v := .ref a) S4 nd sl (.inl lo) rfl (fun t5 S5 => ?_) (.inr lo)
        refine wpAny_mono ((su a o4 ec ed (X.pn ++ pins) z4 ⟨_, dat4⟩).run [] t5 _ H1 _ S5 (yes rfl a fresh)) (fun fl6 t6 sp6 => ?_) (fun _ _ z => False.elim z)
        have over : ∀ {σ6 : L2.St} {H6 : Hp} {Q6 : Shared → Prop}, Inv (X.suite a ((a, o4) :: (X.pn ++ pins))) [] σ6 H6 t6 → (∀ t7, Inv X pins (σ6.set i none) H6 t7 → Q6 t7) →
            wpAny (model X.prog X.w) X.A (do bindName X.env n .none; unbindBehindTheSuite X.env n q2) (fun _ t7 => Q6 t7) X.xe t6 := fun S6 q6 => gone_ok (S6.unsuite I.ok) nd sl lo q6
        cases fl6 with
        | next => obtain ⟨σ6, H6, S6, q6⟩ := sp6; exact over S6 fun t7 J7 => ⟨_, _, J7, q6⟩
        | brk => obtain ⟨σ6, H6, S6, q6⟩ := sp6; exact over S6 fun t7 J7 => ⟨_, _, J7, q6⟩
        | cont => obtain ⟨σ6, H6, S6, q6⟩ := sp6; exact over S6 fun t7 J7 => ⟨_, _, J7, q6⟩
        | ret u => obtain ⟨v6, σ6, H6, S6, r6, q6⟩ := sp6; exact over S6 fun t7 J7 => ⟨_, _, _, J7, r6, q6⟩
  refine wpAny_Try_except (wpAny_mono ((inner (fun cls d σ H => σ.length = X.N.length → wNamed X.K W0 D l cls d σ H) (X.pn ++ pins) back caught PassesOwn.looking).run [] s σ H D (I.toTry _) h) (fun fl t sp => ?_) (fun _ _ z => z))
  cases fl with
  | next => obtain ⟨σ', H', J', q⟩ := sp; exact wpAny_execs_nil ⟨σ', H', J'.ofTry I.ok, q⟩
  | brk => obtain ⟨σ', H', J', q⟩ := sp; exact ⟨σ', H', J'.ofTry I.ok, q⟩
  | cont => obtain ⟨σ', H', J', q⟩ := sp; exact ⟨σ', H', J'.ofTry I.ok, q⟩
  | ret u => obtain ⟨v, σ', H', J', r, q⟩ := sp; exact ⟨v, σ', H', J'.ofTry I.ok, r, q⟩
end
end AL
set_option Elab.async false
set_option maxRecDepth 100000
set_option maxHeartbeats 2000000
/-! The end of a law that makes lambdas, and whose defs ask repr. -/
namespace AL
open PySem PySem.Spec PyProof.Rows L2 LamX
/-- the heap at the entry: the script, locked, and the empty tables of the defs that make lambdas -/
def tabH (K : PySem.W.Frag) (a : Addr) (us : List Value) (ns : List Int) (Ts : List Addr) : Hp := fun b => if b ∈ Ts then some (.tbl #[]) else scrH K a us ns b
theorem tabH_in {K : PySem.W.Frag} {a b : Addr} {us : List Value} {ns : List Int} {Ts : List Addr} (h : b ∈ Ts) : tabH K a us ns Ts b = some (.tbl #[]) := if_pos h
theorem tabH_out {K : PySem.W.Frag} {a b : Addr} {us : List Value} {ns : List Int} {Ts : List Addr} (h : b ∉ Ts) : tabH K a us ns Ts b = scrH K a us ns b := if_neg h
theorem lawGT {P : Program} {w : World} {K : PySem.W.Frag} {mg mb : Str → Option Value} {CX : CXT} {k : Nat} {fa a : Addr} {cs : List (Addr × Addr)} {fd : FuncData} {x : Str} {sp : Sp} {t : Shared} {us : List Value} {ns : List Int}
    (kin : K.In t.heap) (glb : t.heap.Ns mainGlobals mg) (blt : t.heap.Ns builtinsNs mb) (boot : ∀ y : Str, y ≠ "__name__" → mb y = bootBuiltins y) (free : t.heap.NoLimit) (noG : t.gens = #[])
    (tb : ∀ p ∈ cs, t.heap.get? p.2 = some (PySem.W.tabObj #[])) (nk : ∀ p ∈ cs, K.lookup p.2 = none) (ch : ∀ p ∈ cs, PySem.W.CodeHd t.heap p.1 p.2)
    (bmn : ∃ (bm : Addr) (ob : Obj), mg "__builtins__" = some (.ref bm) ∧ bm ≠ builtinsNs ∧ t.heap.get? bm = some ob ∧ ob.cls = .type "module" ∧ ob.dict = some builtinsNs ∧ ob.data = .plain)
    (at_a : t.heap.get? a = some (scrO us)) (isI : IntsAre us ns) (short : ns.length ≤ sizeLine) (room : Room k callerA)
    (F : ∀ base : Heap, K.In base → base.Ns mainGlobals mg → (∀ p ∈ cs, TabB base mg p.1 p.2) → FnG P w K mg base CX k fa fd [x] sp) (bind : ∀ (s : Shared) (u : Value), BindsTo s fd ⟨[u], []⟩ [(x, u)])
    (wish : ∀ H : Hp, (∀ p ∈ cs, H p.2 = some (.tbl #[])) → SqL K H a (ns.map V.int) → sp [.ref a] H (fun v _ => v = .bl true) fun _ _ _ => False)
    (noX : ∀ H e s', CX [] H t (fun _ _ _ => False) e s' → False) :
    codeAny (model P w) callerA (.call (.ref fa) ⟨[.ref a], []⟩) (fun r s' => r = .ok (.ret (.bool true)) ∧ OldK t.heap s'.heap ∧ s'.os = t.os ∧ AllBare s'.gens) t := by
  have vals := vals_ints isI
  have many := isI.length
  have tabs : ∀ b : Addr, b ∈ cs.map Prod.snd → t.heap.get? b = some (PySem.W.tabObj #[]) ∧ K.lookup b = none := fun b hb => by
    obtain ⟨p, hp, rfl⟩ := List.mem_map.mp hb
    exact ⟨tb p hp, nk p hp⟩
  have here : ∀ p ∈ cs, p.2 ∈ cs.map Prod.snd := fun p hp => List.mem_map.mpr ⟨p, hp, rfl⟩
  have aOut : a ∉ cs.map Prod.snd := fun z => by
    have e := (tabs a z).1
    rw [at_a] at e
    have e2 := congrArg Obj.cls (Option.some.inj e)
    cases e2
  have isA : ∀ {b : Addr}, b = a → b ∉ cs.map Prod.snd := fun e => by rw [e]; exact aOut
  have inT : ∀ p ∈ cs, tabH K a us ns (cs.map Prod.snd) p.2 = some (.tbl #[]) := fun p hp => tabH_in (here p hp)
  have seq : SqL K (tabH K a us ns (cs.map Prod.snd)) a (ns.map V.int) := by
    cases e : K.lookup a with
    | none => exact .inl (.inr ⟨scrO us, (tabH_out aOut).trans (if_pos ⟨rfl, e⟩)⟩)
    | some o =>
      have z := kin a o e
      rw [at_a] at z
      cases z
      exact .inr ⟨_, us.toArray, _, e, rfl, rfl, rfl, by rw [List.size_toArray, many]; exact short, vals⟩
  have held : HOk P w (tabH K a us ns (cs.map Prod.snd)) t.heap := fun b u e => by
    by_cases m : b ∈ cs.map Prod.snd
    · rw [tabH_in m] at e
      cases e
      exact (tabs b m).1
    · rw [tabH_out m] at e
      obtain ⟨rfl, _, rfl⟩ := scrH_some e
      exact ⟨at_a, by rw [List.length_map]; exact short, us, _, vals, at_a⟩
  -- what is neither the script nor a table is not tracked
  have bare0 : ∀ {b : Addr} {o : Obj}, t.heap.get? b = some o → (∀ vs n, o.data ≠ .seq vs n) → o.data ≠ .fields #[] → tabH K a us ns (cs.map Prod.snd) b = none := by
    intro b o e1 e2 e3
    by_cases m : b ∈ cs.map Prod.snd
    · rw [(tabs b m).1] at e1
      cases e1
      exact (e3 rfl).elim
    · rw [tabH_out m]
      cases e : scrH K a us ns b with
      | none => rfl
      | some u =>
        obtain ⟨rfl, _, _⟩ := scrH_some e
        rw [at_a] at e1
        cases e1
        exact (e2 _ _ rfl).elim
  have dict0 : ∀ {b : Addr} {o : Obj} {es : Array DictEntry} {n : Nat}, t.heap.get? b = some o → o.data = .dict es n → tabH K a us ns (cs.map Prod.snd) b = none := fun {b o es n} e1 e2 =>
    bare0 e1 (fun vs m z => by rw [e2] at z; cases z) fun z => by rw [e2] at z; cases z
  have ns_of : ∀ {b : Addr} {m : Str → Option Value}, t.heap.Ns b m → (hidT t.heap (tabH K a us ns (cs.map Prod.snd))).Ns b m := by
    rintro b m ⟨o, es, n, e1, e2, r⟩
    exact ⟨o, es, n, hidT_get e1 (dict0 e1 e2), e2, r⟩
  have kin' : K.In (hidT t.heap (tabH K a us ns (cs.map Prod.snd))) := fun b o e => hidT_get (kin b o e) (by
    by_cases m : b ∈ cs.map Prod.snd
    · rw [(tabs b m).2] at e; cases e
    · rw [tabH_out m]
      cases z : scrH K a us ns b with
      | none => rfl
      | some u =>
        obtain ⟨rfl, n, _⟩ := scrH_some z
        rw [n] at e
        cases e)
  have modl : Mod K mg (hidT t.heap (tabH K a us ns (cs.map Prod.snd))) := by
    obtain ⟨mc, f1, f2⟩ := free
    exact ⟨kin', ns_of glb, ⟨mb, ns_of blt, boot⟩, ⟨mc, ns_of f1, f2⟩⟩
  have apart : ∀ p ∈ cs, ∀ {b : Addr} {o : Obj}, t.heap.get? b = some o → o.cls ≠ .none → b ≠ p.2 := fun p hp b o e c z => by
    rw [z, tb p hp] at e
    cases e
    exact c rfl
  have tabB : ∀ p ∈ cs, TabB (hidT t.heap (tabH K a us ns (cs.map Prod.snd))) mg p.1 p.2 := fun p hp => by
    refine ⟨?_, ?_, ?_⟩
    · obtain ⟨o, vs, file, tf, flags, tg, inF, text, tt, g1, g2, g3, g4, g5⟩ := ch p hp
      refine ⟨o, vs, file, tf, flags, tg, inF, text, tt, hidT_get g1 (bare0 g1 (fun w n z => by rw [g3] at z; cases z) fun z => ?_), g2, g3, g4, g5⟩
      rw [g3] at z
      injection z with z
      rw [z] at g4
      simp at g4
    · obtain ⟨bm, ob, m1, m2, m3, m4, m5, m6⟩ := bmn
      refine ⟨bm, ob, m1, m2, fun z => ?_, apart p hp m3 (by rw [m4]; intro z; cases z), hidT_get m3 (bare0 m3 (fun w n z => by rw [m6] at z; cases z) fun z => by rw [m6] at z; cases z), m4, m5, m6⟩
      obtain ⟨o, es, n, e1, e2, _⟩ := glb
      rw [z, e1] at m3
      cases m3
      rw [e2] at m6
      cases m6
    · obtain ⟨o, es, n, e1, e2, _⟩ := glb
      intro z
      rw [z, tb p hp] at e1
      cases e1
      cases e2
  have env0 : Env0 P w K mg (hidT t.heap (tabH K a us ns (cs.map Prod.snd))) callerA [] t (tabH K a us ns (cs.map Prod.snd)) :=
    ⟨rfl, modl, fun b o z => of_hidT z, Nat.le_of_eq (hidT_size _ _), trivial, fun b z => absurd (show b ∈ ([] : List Addr) from z) (by simp), held, .of_eq noG⟩
  refine codeAny_mono ((F _ kin' (ns_of glb) tabB).run callerA [] t _ ⟨[.ref a], []⟩ [.ref a] [.ref a] _ _ rfl room env0 (bind t (.ref a)) (.cons rfl .nil) (wish _ inT seq)) fun r s' z => ?_
  cases r with
  | error e => exact (noX _ e s' z).elim
  | ok fl =>
    cases fl with
    | next => exact z.elim
    | brk => exact z.elim
    | cont => exact z.elim
    | ret u =>
      obtain ⟨v, H', os, bare, un, held', rv, q⟩ := z
      cases (show v = .bl true from q)
      cases (show u = Value.bool true from rv)
      have kept : ∀ b o, b ∉ cs.map Prod.snd → t.heap.get? b = some o → s'.heap.get? b = some o := fun b o nb e => by
        cases c : scrH K a us ns b with
        | none => exact un.keep b o e ((tabH_out nb).trans c) (fun z => absurd (show b ∈ ([] : List Addr) from z) (by simp)) (by simp)
        | some u2 =>
          obtain ⟨rfl, _, rfl⟩ := scrH_some c
          obtain ⟨e2, _⟩ := held' _ _ (un.frzs _ _ _ ((tabH_out nb).trans c))
          rw [at_a] at e
          cases e
          exact e2
      have more : ∀ p ∈ cs, ∃ ps : Array Value, s'.heap.get? p.2 = some (PySem.W.tabObj (#[] ++ ps)) := fun p hp => by
        obtain ⟨ps, z⟩ := un.tbls p.2 #[] (inT p hp)
        exact ⟨ps, held' p.2 _ z⟩
      refine ⟨rfl, ⟨fun b o e => ?_, fun b o e => ?_⟩, os, bare⟩
      · by_cases m : b ∈ cs.map Prod.snd
        · obtain ⟨p, hp, rfl⟩ := List.mem_map.mp m
          obtain ⟨ps, hps⟩ := more p hp
          rw [tb p hp] at e
          cases e
          exact .inr (.inl ⟨((ch p hp).tab (tb p hp)).isCodeTable, rfl, #[], ps, rfl, hps⟩)
        · exact .inl (kept b o m e)
      · by_cases m : b ∈ cs.map Prod.snd
        · obtain ⟨p, hp, rfl⟩ := List.mem_map.mp m
          obtain ⟨ps, hps⟩ := more p hp
          exact ⟨_, hps⟩
        · exact ⟨o, kept b o m e⟩
/-- a law's promise, its code objects and tables told by numbers -/
theorem walkGT {l : PySem.W.OpenLaw} {n k : Nat} {q : Program} {loose : List Str} {XP : (Str → Option Value) → Heap → Prop} {YP : World → Heap → Prop} {d : DefRec} {K : Params → PySem.W.Frag} {sp : PySem.W.Frag → List (Addr × Addr) → Sp} {x : Str}
    (most : l.most = some n) (few : n ≤ sizeLine) (plain : d.params.defaults = []) (room : Room k callerA) (ky : ∀ (w : World) (h : Heap), YP w h → (K w.params).In h)
    (F : ∀ (w : World) (mg : Str → Option Value) (fa : Addr) (h : Heap), YP w h → (K w.params).In h → h.Ns mainGlobals mg → mg d.name = some (.ref fa) → ∃ (fd : FuncData) (cs : List (Addr × Addr)), (∀ p ∈ cs, h.get? p.2 = some (PySem.W.tabObj #[])) ∧ (∀ p ∈ cs, (K w.params).lookup p.2 = none) ∧ (∀ p ∈ cs, PySem.W.CodeHd h p.1 p.2) ∧ (∀ (s : Shared) (u : Value), BindsTo s fd ⟨[u], []⟩ [(x, u)]) ∧
      ∀ base : Heap, (K w.params).In base → base.Ns mainGlobals mg → (∀ p ∈ cs, TabB base mg p.1 p.2) → FnG l.prog w (K w.params) mg base CX0 k fa fd [x] (sp (K w.params) cs))
    (wish : ∀ (K : PySem.W.Frag) (cs : List (Addr × Addr)) (H : Hp) (a : Addr) (ns : List Int), ns.length ≤ n → (∀ p ∈ cs, H p.2 = some (.tbl #[])) → SqL K H a (ns.map V.int) → sp K cs [.ref a] H (fun v _ => v = .bl true) fun _ _ _ => False) :
    PySem.W.WalkO q loose XP YP l.row.toRowW d [] (fun f vs => PySem.call f vs) := by
  refine Att.attach_callB most plain ?_
  intro w s0 t mg mb fa o pm cd doc a us ns G Y ho hd hcd hmg at_a isI many _ noG
  obtain ⟨fd, cs, t1, t2, t3, bind, ok⟩ := F w mg fa _ Y (ky w _ Y) G.T.g hmg
  exact lawGT (ky w _ Y) G.T.g G.T.b G.T.builtins G.T.nolimit noG t1 t2 t3 G.T.bmain at_a isI (Nat.le_trans many few) room ok bind (fun H o1 o2 => wish (K w.params) cs H a ns many o1 o2) fun _ _ _ z => z.elim
end AL
set_option Elab.async false
set_option linter.all false
set_option maxRecDepth 100000
set_option maxHeartbeats 4000000
/-! A tuple times 1 is the tuple itself. -/
namespace AL
open PySem PySem.Spec PyProof.Rows L2
theorem tuple_once (l : Addr) (its : Array Value) (n : Nat) (dd : Option Addr) (sl : Array (Option Value)) (u : Tok) :
    Meets (Builtin.«tuple.__mul__» ⟨[.ref l, .int 1 u], []⟩) (fun _ R s => s.heap.get? l = some { cls := .type "tuple", dict := dd, data := .seq its n, slots := sl } ∧
      R (.ok (.ret (Value.ref l))) s) :=
  .of_wp fun prog w A R s h => by
    obtain ⟨hp, g, d, tk, os⟩ := s
    obtain ⟨look, h⟩ := h
    have idx := AutoSeq1.idx_int
    have c1 : (its.isEmpty || (1 : Int) == 1) = true := by simp
    wp_walk using wpAny_loadPart' look
    repeat (first
      | (refine wpAny_ite_false (decide_eq_false (by decide)) ?_; wp_walk using wpAny_loadPart' look)
      | (refine wpAny_ite_true (decide_eq_true (by rw [c1])) ?_; wp_walk using wpAny_loadPart' look))
    exact ⟨_, rfl, h⟩
/-- t * k, k from 1 on -/
def rRepU (K : PySem.W.Frag) : R2 := fun x y H Q => ∃ l k xs, x = .ref l ∧ y = .int k ∧ SqT K H l xs ∧ xs ≠ [] ∧ 1 ≤ k ∧ k ≤ 1000 ∧ xs.length ≤ 1000 ∧ (k = 1 → Q (.ref l) H) ∧ (2 ≤ k → ∀ p, H p = none → Q (.ref p) (upd H p (.tup (List.replicate k.toNat xs).flatten)))
theorem op_repU {X : Cx} : OpR X (binaryOp .Mult) (rRepU X.K) := by
  intro pins s σ H x y v u Q I rx ry h
  obtain ⟨l, k, xs, rfl, rfl, hT, hne, h1, h2, hz, q1, q2⟩ := h
  by_cases hk : 2 ≤ k
  · exact op_repT pins s σ H _ _ v u Q I rx ry ⟨l, k, xs, rfl, rfl, hT, hne, hk, h2, hz, q2 hk⟩
  obtain rfl : k = 1 := by omega
  cases rx
  obtain ⟨t, rfl⟩ := ry
  obtain ⟨its, r, ⟨⟨cls, dd, data, sl⟩, ho, hc, n, hd⟩, hs⟩ := I.tuple hT
  simp only at hc hd
  subst hc hd
  refine wpAny_binaryOp_repeat_ref (T := "tuple") (U := "int") (by decide) ⟨_, ho, rfl⟩ (fun s' => typeIs_int s' 1 t) noFill_tuple_mul F.fills_int_mul F.slot_int_rmul repeat_tuple F.slot_int_index.lookup ?_
  refine call_meets F.slot_int_rmul (typeIs_int s 1 t) F.entry_int_rmul (F.args_int_rmul_2 _ _) (int_rmul_tuple 1 t l its.toArray n dd sl) ⟨ho, rfl, ⟨_, ho, rfl⟩, ?_⟩
  exact call_meets F.slot_tuple_mul ⟨_, ho, rfl⟩ F.entry_tuple_mul (F.args_tuple_mul_2 _ _) (tuple_once l its.toArray n dd sl t) ⟨ho, ⟨.ref l, H, I, rfl, q1 rfl⟩⟩
end AL
set_option Elab.async false
set_option maxRecDepth 100000
set_option exponentiation.threshold 70000
set_option maxHeartbeats 1000000
namespace AL
open PySem L2
def top (i : Nat) : Stmt := PySem.Challenge.pw_allscales_k20_whole_amounts.main.body.getD i (.Pass ⟨0, 0, 0, 0⟩)
section
variable {P : Program} {w : World} {K : PySem.W.Frag} {mg : Str → Option Value} {base : Heap}
abbrev st_law_pen : Stmt := top 24
theorem sc_law_pen : FnScope ["_law_script", "_law_fold", "_law_cell"] ["_law_script"] (defScope st_law_pen) := ⟨rfl, rfl, rfl, by decide +kernel, rfl, by decide +kernel, by decide +kernel⟩
theorem ok_law_pen (B : Blt mg)  {f_law_pen : Addr} {fd_law_pen : FuncData} (D_law_pen : DefAt K mg "_law_pen" st_law_pen ["_law_script"] f_law_pen fd_law_pen) : FnOk P w K mg base CX0 1 f_law_pen fd_law_pen ["_law_script"] (spPen K) := by
  refine D_law_pen.F.ok sc_law_pen (fun vs H Q E h => ?_) (fun cdv A outer s H vs Q E hr h => ?_)
  · obtain ⟨a, ns, rfl, _⟩ := h; rfl
  · have hu := hu_of hr
    refine ⟨_, (pss_cons (ps_set (i := 1) sc_law_pen.nd rfl (Or.inl rfl) pe_int)
    (pss_cons (ps_for PassesOwn.never rfl (pi_list (pv 0)) (pg_name (i := 2) sc_law_pen.nd rfl (Or.inl rfl))
      (pss_one (ps_set (i := 1) sc_law_pen.nd rfl (Or.inl rfl) (pe_op op_modN (pe_callTy call_int1 (by rfl) B.int_ (by decide +kernel) (pa_cons (pe_op op_add (pe_op op_mul (pv 1) pe_int) (pv 2)) pa_nil)) pe_int))))
    (pss_one (ps_ret (pe_disp (pps_cons pe_str (pe_callTy call_list_of (by rfl) B.list_ (by decide +kernel) (pa_cons (pv 0) pa_nil)) (pps_cons pe_str pe_int (pps_cons pe_str pe_int (pps_cons pe_str pe_int (pps_cons pe_str (pv 1) pps_nil))))) (by rfl) (by rfl) (fun z => by cases z) (by decide)))))), ?_⟩
    obtain ⟨a, ns, rfl, hS, k⟩ := h
    refine ⟨_, rfl, a, rfl, ⟨_, hS⟩, for_list (K := K) (a := a) (xs := ns.map V.int) (fun i σ H' => ∃ (f : Int) (v : Option V), σ = [some (.ref a), some (.int f), v] ∧ H' = H ∧ 0 ≤ f ∧ f < 2147483648) ⟨0, none, rfl, rfl, by decide, by decide⟩ (fun i σ H' _ ⟨_, _, _, e, _⟩ => by rw [e]; exact hS) ?_ ?_⟩
    · rintro i y σ H' hi ⟨f, v, rfl, rfl, h0, h1⟩
      obtain ⟨z, hz, rfl⟩ := map_int hi
      refine ⟨_, rfl, _, _, rfl, rfl, .inr ⟨by decide, by decide⟩, _, rfl, _, _, rfl, rfl, .inl ⟨_, rfl, _, _, rfl, rfl, (by show (1000000007 : Int) ≠ 0; decide), ?_⟩⟩
      have hb := fmod_in (a := f * 41 + z) (b := 1000000007) (by decide)
      exact ⟨_, _, rfl, rfl, hb.1, by omega⟩
    · rintro σ H' ⟨f, v, rfl, rfl, h0, h1⟩
      intro p hp
      refine ⟨_, rfl, a, _, rfl, .inl (Same.seq (AL.Same.new hp) hS), fun l hl => ?_⟩
      have hlp : p ≠ l := fun e => by rw [e, upd_same] at hl; cases hl
      have hl0 : H' l = none := by rw [upd_ne hlp.symm] at hl; exact hl
      refine ⟨_, rfl, Eq.trans (upd_ne hlp) upd_same, penK l 0 0 0 f, rfl, (by show 5 ≤ 15; decide), ?_⟩
      refine k p l _ hp hl0 hlp ⟨ns, 0, 0, 0, f, Eq.trans upd_same (by kernel_rfl), ?_, by decide, by decide, by decide, by decide, h0, h1⟩ fun b o e => ?_
      · rw [upd_ne hlp.symm, upd_same]
      · rw [upd_ne (ne_of_none e hp), upd_ne (ne_of_none e hl0), upd_ne (ne_of_none e hp)]; exact e
abbrev st_law_draw : Stmt := top 25
theorem sc_law_draw : FnScope ["_law_pen_here", "_law_many", "_law_cell", "_law_digit", "_law_blend"] ["_law_pen_here", "_law_many"] (defScope st_law_draw) := ⟨rfl, rfl, rfl, by decide +kernel, rfl, by decide +kernel, by decide +kernel⟩
theorem ok_law_draw (B : Blt mg)  {f_law_draw : Addr} {fd_law_draw : FuncData} (D_law_draw : DefAt K mg "_law_draw" st_law_draw ["_law_pen_here", "_law_many"] f_law_draw fd_law_draw) : FnOk P w K mg base CX0 1 f_law_draw fd_law_draw ["_law_pen_here", "_law_many"] spDraw := by
  refine D_law_draw.F.ok sc_law_draw (fun vs H Q E h => ?_) (fun cdv A outer s H vs Q E hr h => ?_)
  · obtain ⟨p, c, m, k, rfl, _⟩ := h; rfl
  · have hu := hu_of hr
    refine ⟨_, (pss_cons (ps_dput hu (pv 0) pe_str (pe_op op_add (pe_dget hu (pv 0) pe_str (fun _ _ => rfl)) pe_int) rfl)
    (Evl.pss_cut (ps_if (PW.pt (pw_and (pt_cmpR op_eq (pe_dget hu (pv 0) pe_str (fun _ _ => rfl)) pe_int (nomark _)) (pw_and1 (pt_cmpR op_lt (pe_dget hu (pv 0) pe_str (fun _ _ => rfl)) (pe_callB call_len_seq (by rfl) B.len_ (by decide +kernel) (pa_cons (pe_dget hu (pv 0) pe_str (fun _ _ => rfl)) pa_nil)) (nomark _))))) (pss_cons (ps_set (i := 2) sc_law_draw.nd rfl (Or.inl rfl) (pe_ix ix_seq (pe_dget hu (pv 0) pe_str (fun _ _ => rfl)) (pe_dget hu (pv 0) pe_str (fun _ _ => rfl)) (fun _ _ => rfl)))
    (pss_cons (ps_dput hu (pv 0) pe_str (pe_op op_add (pe_dget hu (pv 0) pe_str (fun _ _ => rfl)) pe_int) rfl)
    (pss_one (ps_if (pt_cmpR op_ge (pv 2) (pe_op op_pow pe_int pe_int) (nomark _)) (pss_one (ps_dput hu (pv 0) pe_str (pe_op op_sub (pv 2) (pe_op op_pow pe_int pe_int)) rfl)) (pss_one (ps_dput hu (pv 0) pe_str (pe_op op_modN (pe_callTy call_int1 (by rfl) B.int_ (by decide +kernel) (pa_cons (pe_op op_add (pe_op op_mul (pe_dget hu (pv 0) pe_str (fun _ _ => rfl)) pe_int) (pv 2)) pa_nil)) pe_int) rfl)))))) pss_nil)
    (pss_cons (ps_if (pt_cmpR op_gt (pe_dget hu (pv 0) pe_str (fun _ _ => rfl)) pe_int (nomark _)) (pss_cons (ps_set (i := 3) sc_law_draw.nd rfl (Or.inl rfl) (pe_op op_modN (pe_callTy call_int1 (by rfl) B.int_ (by decide +kernel) (pa_cons (pe_dget hu (pv 0) pe_str (fun _ _ => rfl)) pa_nil)) (pv 1)))
    (pss_cons (ps_dput hu (pv 0) pe_str (pe_op op_fdivN (pe_dget hu (pv 0) pe_str (fun _ _ => rfl)) (pv 1)) rfl)
    (pss_one (ps_ret (pv 3))))) pss_nil)
    (pss_cons (ps_set (i := 4) sc_law_draw.nd rfl (Or.inl rfl) (pe_op op_add (pe_op op_add (pe_dget hu (pv 0) pe_str (fun _ _ => rfl)) (pe_op op_mul (pe_dget hu (pv 0) pe_str (fun _ _ => rfl)) pe_int)) pe_int))
    (pss_one (ps_ret (pe_op op_modN (pe_op op_fdivN (pe_callTy call_int1 (by rfl) B.int_ (by decide +kernel) (pa_cons (pe_op op_modN (pe_op op_pow (pv 4) pe_int) pe_int) pa_nil)) pe_int) (pv 1)))))))), ?_⟩
    obtain ⟨p, c, m, k, rfl, P, hm, hk0, hk1, q⟩ := h
    obtain ⟨ns, i, d, n, f, hp, hc, hi, hd, hn, hnm, hf0, hf1⟩ := P.ex
    have hcp : c ≠ p := fun e => by rw [e, hp] at hc; cases hc
    have s5 : (5 : Nat) < sizeLine := by decide
    -- count
    refine ⟨_, rfl, p, _, rfl, dget (k := Sum.inr "count") hp pen_count, _, _, rfl, rfl, _, rfl, p, _, rfl, dput (k := Sum.inr "count") hp s5 put_count, ?_⟩
    refine ⟨fun σ' H' => ∃ (i' d' f' : Int) (v : Option V), σ' = [some (.ref p), some (.int k), v, none, none] ∧ H' p = some (.dK (penK c i' d' (n + 1) f')) ∧ 0 ≤ i' ∧ 0 ≤ d' ∧ 0 ≤ f' ∧ f' < 2147483648 ∧ Keep p H H', ?_, ?_⟩
    · -- digits == 0 and at < len(cells)
      have n1 : ∀ {o}, upd H p o c = some (.lst (ns.map V.int)) := fun {o} => by rw [upd_ne hcp]; exact hc
      refine ⟨_, rfl, p, _, rfl, dget (k := Sum.inr "digits") upd_same pen_digits, rfl, _, rfl, ?_⟩
      refine ite2 (fun hd0 => ?_) (fun hd0 => ?_)
      · refine ⟨_, rfl, p, _, rfl, dget (k := Sum.inr "at") upd_same pen_at, _, rfl, p, _, rfl, dget (k := Sum.inr "cells") upd_same pen_cells, c, _, rfl, .inl (SqL.of n1), _, _, rfl, rfl, _, rfl, ?_⟩
        refine ite2 (fun hlt => ?_) (fun hlt => ?_)
        · have hlt' := of_decide_eq_true hlt
          rw [List.length_map] at hlt'
          obtain ⟨j, rfl⟩ := Int.eq_ofNat_of_zero_le hi
          have hj : j < ns.length := by omega
          -- cell, at
          refine ⟨_, rfl, p, _, rfl, dget (k := Sum.inr "cells") upd_same pen_cells, _, rfl, p, _, rfl, dget (k := Sum.inr "at") upd_same pen_at, .inl ⟨c, _, _, .int ns[j], rfl, rfl, SqL.of n1, at_of rfl (by rw [List.getElem?_map, List.getElem?_eq_getElem hj]; rfl), ?_⟩⟩
          refine ⟨_, rfl, p, _, rfl, dget (k := Sum.inr "at") upd_same pen_at, _, _, rfl, rfl, _, rfl, p, _, rfl, dput (k := Sum.inr "at") upd_same s5 put_at, ?_⟩
          refine ⟨_, rfl, _, _, rfl, rfl, ⟨by decide, by decide, by decide⟩, _, _, rfl, rfl, _, rfl, ?_⟩
          refine ite2 (fun hc18 => ?_) (fun hc18 => ?_)
          · have hc18' := of_decide_eq_true hc18
            refine ⟨_, rfl, _, _, rfl, rfl, ⟨by decide, by decide, by decide⟩, _, _, rfl, rfl, _, rfl, p, _, rfl, dput (k := Sum.inr "digits") upd_same s5 put_digits, ?_⟩
            refine ⟨_, _, _, _, rfl, upd_same, by omega, by omega, hf0, hf1, fun b o nb e => ?_⟩
            rw [upd_ne nb, upd_ne nb, upd_ne nb]; exact e
          · refine ⟨_, rfl, p, _, rfl, dget (k := Sum.inr "fold") upd_same pen_fold, _, _, rfl, rfl, .inr ⟨by decide, by decide⟩, _, rfl, _, _, rfl, rfl, .inl ⟨_, rfl, _, _, rfl, rfl, (by show (2147483587 : Int) ≠ 0; decide), _, rfl, p, _, rfl, dput (k := Sum.inr "fold") upd_same s5 put_fold, ?_⟩⟩
            have hb := fmod_in (a := f * 69069 + ns[j]) (b := 2147483587) (by decide)
            refine ⟨_, _, _, _, rfl, upd_same, by omega, hd, hb.1, by omega, fun b o nb e => ?_⟩
            rw [upd_ne nb, upd_ne nb, upd_ne nb]; exact e
        · exact ⟨_, _, _, _, rfl, upd_same, hi, hd, hf0, hf1, Keep.upd⟩
      · exact iteF ⟨_, _, _, _, rfl, upd_same, hi, hd, hf0, hf1, Keep.upd⟩
    · rintro σ H1 ⟨i1, d1, f1, v, rfl, hp1, hi1, hd1, hf01, hf11, kp⟩
      have pen' : ∀ {H2 : Hp} {i2 d2 f2 : Int}, H2 p = some (.dK (penK c i2 d2 (n + 1) f2)) → 0 ≤ i2 → 0 ≤ d2 → 0 ≤ f2 → f2 < 2147483648 → Keep p H H2 → Pen H2 p c (m + 1) := fun {H2 i2 d2 f2} e a1 a2 a3 a4 kk =>
        ⟨ns, i2, d2, n + 1, f2, e, kk c _ hcp hc, a1, a2, by omega, by omega, a3, a4⟩
      refine ⟨_, rfl, p, _, rfl, dget (k := Sum.inr "digits") hp1 pen_digits, _, _, rfl, rfl, _, rfl, ?_⟩
      refine ite2 (fun hpos => ?_) (fun hpos => ?_)
      · have hpos' := of_decide_eq_true hpos
        refine ⟨_, rfl, p, _, rfl, dget (k := Sum.inr "digits") hp1 pen_digits, .inl ⟨_, rfl, _, rfl, _, _, rfl, rfl, by show k ≠ 0; omega, ?_⟩⟩
        refine ⟨_, rfl, p, _, rfl, dget (k := Sum.inr "digits") hp1 pen_digits, _, rfl, _, _, rfl, rfl, ⟨by show k ≠ 0; omega, by show k.natAbs < 1073741824; omega⟩, _, rfl, p, _, rfl, dput (k := Sum.inr "digits") hp1 s5 put_digits, _, rfl, ?_⟩
        have hb := fmod_in (a := d1) (b := k) hk0
        have kk : Keep p H (upd H1 p (.dK (penK c i1 (d1.fdiv k) (n + 1) f1))) := kp.trans Keep.upd
        exact q _ _ hb.1 hb.2 (pen' upd_same hi1 (fdiv_nn hd1 hk0) hf01 hf11 kk) kk
      · refine ⟨_, rfl, p, _, rfl, dget (k := Sum.inr "fold") hp1 pen_fold, _, rfl, p, _, rfl, dget (k := Sum.inr "count") hp1 pen_count, _, _, rfl, rfl, .inr ⟨by decide, by decide⟩, _, _, rfl, rfl, _, _, rfl, rfl, ?_⟩
        refine ⟨_, rfl, _, _, rfl, rfl, ⟨by decide, by decide, by show (f1 + (n + 1) * 7907 + 37).natAbs < 2 ^ 64; omega⟩, _, _, rfl, rfl, (by show (2305843009213693951 : Int) ≠ 0; decide), .inl ⟨_, rfl, _, _, rfl, rfl, ⟨by decide, by decide⟩, _, rfl, _, _, rfl, rfl, by show k ≠ 0; omega, ?_⟩⟩
        have hb := fmod_in (a := (((f1 + (n + 1) * 7907 + 37) ^ ((17 : Int)).toNat).fmod 2305843009213693951).fdiv 128) (b := k) hk0
        exact q _ _ hb.1 hb.2 (pen' hp1 hi1 hd1 hf01 hf11 kp) kp
abbrev st_law_pick : Stmt := top 26
theorem sc_law_pick : FnScope ["_law_pen_here", "_law_some"] ["_law_pen_here", "_law_some"] (defScope st_law_pick) := ⟨rfl, rfl, rfl, by decide +kernel, rfl, by decide +kernel, by decide +kernel⟩
theorem ok_law_pick (B : Blt mg)  {f_law_draw : Addr} {fd_law_draw : FuncData} (D_law_draw : DefAt K mg "_law_draw" st_law_draw ["_law_pen_here", "_law_many"] f_law_draw fd_law_draw) {f_law_pick : Addr} {fd_law_pick : FuncData} (D_law_pick : DefAt K mg "_law_pick" st_law_pick ["_law_pen_here", "_law_some"] f_law_pick fd_law_pick) : FnOk P w K mg base CX0 2 f_law_pick fd_law_pick ["_law_pen_here", "_law_some"] (spPick K) := by
  have OK_law_draw : FnOk P w K mg base CX0 1 f_law_draw fd_law_draw ["_law_pen_here", "_law_many"] spDraw := ok_law_draw B  D_law_draw
  refine D_law_pick.F.ok sc_law_pick (fun vs H Q E h => ?_) (fun cdv A outer s H vs Q E hr h => ?_)
  · obtain ⟨p, c, a, m, xs, rfl, _⟩ := h; rfl
  · have hu := hu_of hr
    refine ⟨_, (pss_one (ps_ret (pe_ix ix_list (pv 1) (pe_call OK_law_draw (hr.mono (by decide)) rfl D_law_draw.m D_law_draw.F.kp D_law_draw.b .nil pass0 (pa_cons (pv 0) (pa_cons (pe_callB call_len_seq (by rfl) B.len_ (by decide +kernel) (pa_cons (pv 1) pa_nil)) pa_nil))) (fun _ _ => rfl)))), ?_⟩
    obtain ⟨p, c, a, m, xs, rfl, P, hm, hS, hl0, hl1, q⟩ := h
    refine ⟨_, rfl, _, rfl, _, rfl, a, xs, rfl, .inl hS, p, c, m, _, rfl, P, hm, by omega, by omega, fun r H' h0 h1 P' kp => ?_⟩
    obtain ⟨j, rfl⟩ := Int.eq_ofNat_of_zero_le h0
    have hj : j < xs.length := by omega
    exact ⟨a, xs, _, xs[j], rfl, rfl, kp.seqL P hS, at_of rfl (List.getElem?_eq_getElem hj), q j _ H' (List.getElem?_eq_getElem hj) P' kp⟩
abbrev st_law_big : Stmt := top 27
theorem sc_law_big : FnScope ["_law_pen_here", "_law_figures", "_law_total", "_law_k"] ["_law_pen_here", "_law_figures"] (defScope st_law_big) := ⟨rfl, rfl, rfl, by decide +kernel, rfl, by decide +kernel, by decide +kernel⟩
theorem ok_law_big (B : Blt mg)  {f_law_draw : Addr} {fd_law_draw : FuncData} (D_law_draw : DefAt K mg "_law_draw" st_law_draw ["_law_pen_here", "_law_many"] f_law_draw fd_law_draw) {f_law_pick : Addr} {fd_law_pick : FuncData} (D_law_pick : DefAt K mg "_law_pick" st_law_pick ["_law_pen_here", "_law_some"] f_law_pick fd_law_pick) {f_law_big : Addr} {fd_law_big : FuncData} (D_law_big : DefAt K mg "_law_big" st_law_big ["_law_pen_here", "_law_figures"] f_law_big fd_law_big) : FnOk P w K mg base CX0 3 f_law_big fd_law_big ["_law_pen_here", "_law_figures"] spBig := by
  have OK_law_draw : FnOk P w K mg base CX0 1 f_law_draw fd_law_draw ["_law_pen_here", "_law_many"] spDraw := ok_law_draw B  D_law_draw
  have OK_law_pick : FnOk P w K mg base CX0 2 f_law_pick fd_law_pick ["_law_pen_here", "_law_some"] (spPick K) := ok_law_pick B  D_law_draw D_law_pick
  refine D_law_big.F.ok sc_law_big (fun vs H Q E h => ?_) (fun cdv A outer s H vs Q E hr h => ?_)
  · obtain ⟨p, c, m, k, rfl, _⟩ := h; rfl
  · have hu := hu_of hr
    refine ⟨_, (pss_cons (ps_set (i := 2) sc_law_big.nd rfl (Or.inl rfl) pe_int)
    (pss_cons (ps_for PassesOwn.never rfl (pi_range1 rfl B.range_ (pa_cons (pe_call OK_law_pick (hr.mono (by decide)) rfl D_law_pick.m D_law_pick.F.kp D_law_pick.b .nil pass0 (pa_cons (pv 0) (pa_cons (pe_lst (pa_cons pe_int (pa_cons pe_int (pa_cons pe_int (pa_cons pe_int (pa_cons pe_int (pa_cons (pe_op op_fdivN (pe_op op_add (pv 1) pe_int) pe_int) pa_nil))))))) pa_nil))) pa_nil)) (pg_name (i := 3) sc_law_big.nd rfl (Or.inl rfl))
      (pss_one (ps_set (i := 2) sc_law_big.nd rfl (Or.inl rfl) (pe_op op_add (pe_op op_mul (pv 2) pe_int) (pe_call OK_law_draw (hr.mono (by decide)) rfl D_law_draw.m D_law_draw.F.kp D_law_draw.b .nil pass0 (pa_cons (pv 0) (pa_cons pe_int pa_nil)))))))
    (pss_one (ps_ret (pe_callTy call_int_str (by rfl) B.int_ (by decide +kernel) (pa_cons (pe_slice sl_str (pe_callTy call_str_int (by rfl) B.str_ (by decide +kernel) (pa_cons (pv 2) pa_nil)) (po_some (pe_un un_neg (pv 1))) po_none) pa_nil)))))), ?_⟩
    obtain ⟨p, c, m, k, rfl, P, hm, hk0, hk1, q⟩ := h
    refine ⟨_, rfl, _, rfl, _, _, rfl, rfl, _, _, rfl, rfl, ⟨by decide, by decide⟩, (by show 6 ≤ sizeLine; decide), fun l hl => ?_⟩
    refine ⟨p, c, l, m, _, rfl, P.same (AL.Same.new hl), by omega, SqL.of upd_same, (by show 0 < 6; decide), (by show 6 < 1000000000; decide), fun j x H1 hx P1 k1 => ?_⟩
    have hx' : ∃ t : Nat, x = V.int (t : Int) ∧ t ≤ 134 := by
      refine pick_of (P := fun x => ∃ t : Nat, x = V.int (t : Int) ∧ t ≤ 134) (fun y hy => ?_) hx
      simp only [List.mem_cons, List.not_mem_nil, or_false] at hy
      rcases hy with rfl | rfl | rfl | rfl | rfl | rfl
      · exact ⟨1, rfl, by decide⟩
      · exact ⟨1, rfl, by decide⟩
      · exact ⟨1, rfl, by decide⟩
      · exact ⟨2, rfl, by decide⟩
      · exact ⟨3, rfl, by decide⟩
      · refine ⟨(k + 2) / 3, ?_, by omega⟩
        rw [Int.fdiv_eq_ediv_of_nonneg _ (by decide)]
        congr 1
    obtain ⟨t, rfl, ht⟩ := hx'
    have kk1 : Keep p H H1 := (Keep.new hl).trans k1
    refine ⟨_, rfl, by omega, by omega, for_range (lo := 0) (n := ((t : Int)).toNat) (fun i σ H' => ∃ (n : Nat) (v : Option V), σ = [some (.ref p), some (.int (k : Int)), some (.int (n : Int)), v] ∧ n < 1000 ^ i ∧ Pen H' p c (m + 1 + i) ∧ Keep p H H') ⟨0, none, rfl, by decide, P1, kk1⟩ ?_ ?_⟩
    · rintro i σ H' hi ⟨n, v, rfl, hn, P2, k2⟩
      have hi' : i < t := by omega
      refine ⟨_, rfl, _, _, rfl, rfl, .inr ⟨by decide, by decide⟩, _, rfl, p, c, m + 1 + i, _, rfl, P2, by omega, by decide, by decide, fun r H2 hr0 hr1 P3 k3 => ?_⟩
      obtain ⟨r, rfl⟩ := Int.eq_ofNat_of_zero_le hr0
      refine ⟨_, _, rfl, rfl, ⟨n * 1000 + r, some (.int (0 + (i : Int))), ?_, ?_, P3, k2.trans k3⟩⟩
      · rfl
      · rw [Nat.pow_succ]; omega
    · rintro σ H' ⟨n, v, rfl, hn, P2, k2⟩
      have hn' : n < 10 ^ 402 := by
        rw [thousand] at hn
        exact Nat.lt_of_lt_of_le hn (Nat.pow_le_pow_right (by decide) (by omega))
      have hl2 : (TL.numL n).length ≤ 402 := TL.numL_len (by decide) hn'
      have hld := last_digits (n := n) (k := k) hk0 (by omega)
      have hz : (Str.ofString (toString ((n : Nat) : Int))).length ≤ sizeLine := by
        rw [show (Str.ofString (toString ((n : Nat) : Int))).length = (TL.numL n).length by rw [TL.len_tl]; exact congrArg List.length (TL.tl_num n)]
        exact Nat.le_trans hl2 (by decide)
      refine ⟨_, rfl, _, rfl, log2_small (by decide) (Nat.lt_trans hn' pow402), _, rfl, _, rfl, _, rfl, _, rfl, hz, _, _, rfl, hld.2, hld.1, ?_⟩
      exact q _ _ (Nat.mod_lt _ (Nat.pow_pos (by decide))) (P2.mono (by omega)) k2
end
end AL
set_option Elab.async false
set_option maxRecDepth 100000
set_option exponentiation.threshold 70000
set_option maxHeartbeats 1000000
namespace AL
open PySem L2
section
variable {P : Program} {w : World} {K : PySem.W.Frag} {mg : Str → Option Value} {base : Heap}
abbrev si_BadNumber : Stmt := inClass (top 4) 0
theorem sci_BadNumber : FnScope ["self", "what", "number"] ["self", "what", "number"] (defScope si_BadNumber) := ⟨rfl, rfl, rfl, by decide +kernel, rfl, by decide +kernel, by decide +kernel⟩
theorem oki_BadNumber {C fI : Addr} {fd : FuncData} (T : ErrT K mg "BadNumber" C ["what", "number"]) (I : IniT K "BadNumber.__init__" si_BadNumber ["self", "what", "number"] C fI fd) : FnOk P w K mg base CX0 1 fI fd ["self", "what", "number"] (spIni C ["what", "number"]) := by
  refine I.F.ok sci_BadNumber (fun vs H Q E h => ?_) (fun cdv A outer s H vs Q E hr h => ?_)
  · obtain ⟨a, ys, rfl, hl, _⟩ := h; exact congrArg Nat.succ hl
  · obtain ⟨a, ys, rfl, hl, ha, q⟩ := h
    match ys, hl with
    | [y1, y2], _ =>
    refine ⟨_, (pss_cons (ps_ost (pv 0) (pv 1)) (pss_one (ps_ost (pv 0) (pv 2)))), ?_⟩
    refine ⟨_, rfl, _, rfl, a, C, rfl, T.oex, T.no _ (by simp), .inl ⟨ha, fun dx hd hne => ?_⟩⟩
    have e0 : upd (upd H dx (exd dx [("what", y1)])) a (exo a C (some dx)) a = some (exo a C (some dx)) := upd_same
    have d0 : upd (upd H dx (exd dx [("what", y1)])) a (exo a C (some dx)) dx = some (exd dx [("what", y1)]) := Eq.trans (upd_ne hne) upd_same
    refine ⟨_, rfl, _, rfl, a, C, rfl, T.oex, T.no _ (by simp), .inr ⟨dx, _, e0, d0, (by show 1 ≤ 900; decide), ?_⟩⟩
    exact q dx _ hd hne (Eq.trans (upd_ne hne.symm) e0) upd_same fun b h1 h2 => Eq.trans (upd_ne h2) (Eq.trans (upd_ne h1) (upd_ne h2))
abbrev si_Unlike : Stmt := inClass (top 5) 0
theorem sci_Unlike : FnScope ["self", "place", "one", "other"] ["self", "place", "one", "other"] (defScope si_Unlike) := ⟨rfl, rfl, rfl, by decide +kernel, rfl, by decide +kernel, by decide +kernel⟩
theorem oki_Unlike {C fI : Addr} {fd : FuncData} (T : ErrT K mg "Unlike" C ["place", "one", "other"]) (I : IniT K "Unlike.__init__" si_Unlike ["self", "place", "one", "other"] C fI fd) : FnOk P w K mg base CX0 1 fI fd ["self", "place", "one", "other"] (spIni C ["place", "one", "other"]) := by
  refine I.F.ok sci_Unlike (fun vs H Q E h => ?_) (fun cdv A outer s H vs Q E hr h => ?_)
  · obtain ⟨a, ys, rfl, hl, _⟩ := h; exact congrArg Nat.succ hl
  · obtain ⟨a, ys, rfl, hl, ha, q⟩ := h
    match ys, hl with
    | [y1, y2, y3], _ =>
    refine ⟨_, (pss_cons (ps_ost (pv 0) (pv 1)) (pss_cons (ps_ost (pv 0) (pv 2)) (pss_one (ps_ost (pv 0) (pv 3))))), ?_⟩
    refine ⟨_, rfl, _, rfl, a, C, rfl, T.oex, T.no _ (by simp), .inl ⟨ha, fun dx hd hne => ?_⟩⟩
    have e0 : upd (upd H dx (exd dx [("place", y1)])) a (exo a C (some dx)) a = some (exo a C (some dx)) := upd_same
    have d0 : upd (upd H dx (exd dx [("place", y1)])) a (exo a C (some dx)) dx = some (exd dx [("place", y1)]) := Eq.trans (upd_ne hne) upd_same
    refine ⟨_, rfl, _, rfl, a, C, rfl, T.oex, T.no _ (by simp), .inr ⟨dx, _, e0, d0, (by show 1 ≤ 900; decide), ?_⟩⟩
    refine ⟨_, rfl, _, rfl, a, C, rfl, T.oex, T.no _ (by simp), .inr ⟨dx, _, Eq.trans (upd_ne hne.symm) e0, upd_same, (by show 2 ≤ 900; decide), ?_⟩⟩
    exact q dx _ hd hne (Eq.trans (upd_ne hne.symm) (Eq.trans (upd_ne hne.symm) e0)) upd_same fun b h1 h2 => Eq.trans (upd_ne h2) (Eq.trans (upd_ne h2) (Eq.trans (upd_ne h1) (upd_ne h2)))
abbrev si_ByZero : Stmt := inClass (top 6) 0
theorem sci_ByZero : FnScope ["self", "place"] ["self", "place"] (defScope si_ByZero) := ⟨rfl, rfl, rfl, by decide +kernel, rfl, by decide +kernel, by decide +kernel⟩
theorem oki_ByZero {C fI : Addr} {fd : FuncData} (T : ErrT K mg "ByZero" C ["place"]) (I : IniT K "ByZero.__init__" si_ByZero ["self", "place"] C fI fd) : FnOk P w K mg base CX0 1 fI fd ["self", "place"] (spIni C ["place"]) := by
  refine I.F.ok sci_ByZero (fun vs H Q E h => ?_) (fun cdv A outer s H vs Q E hr h => ?_)
  · obtain ⟨a, ys, rfl, hl, _⟩ := h; exact congrArg Nat.succ hl
  · obtain ⟨a, ys, rfl, hl, ha, q⟩ := h
    match ys, hl with
    | [y1], _ =>
    refine ⟨_, (pss_one (ps_ost (pv 0) (pv 1))), ?_⟩
    refine ⟨_, rfl, _, rfl, a, C, rfl, T.oex, T.no _ (List.mem_singleton.mpr rfl), .inl ⟨ha, fun dx hd hne => ?_⟩⟩
    exact q dx _ hd hne upd_same (Eq.trans (upd_ne hne) upd_same) fun b h1 h2 => Eq.trans (upd_ne h1) (upd_ne h2)
end
end AL
set_option Elab.async false
set_option maxRecDepth 100000
set_option exponentiation.threshold 70000
set_option maxHeartbeats 1000000
namespace AL
open PySem L2
section
variable {P : Program} {w : World} {K : PySem.W.Frag} {mg : Str → Option Value} {base : Heap}

/-- a method, as it stands behind the top -/
structure MetA (K : PySem.W.Frag) (x qual : Str) (st : Stmt) (ps : List Str) (C f : Addr) (fd : FuncData) : Prop where
  F : Fun K x qual st f fd
  b : Binds K fd ps []
  M : Meth K C x f
structure IniA (K : PySem.W.Frag) (x qual : Str) (st : Stmt) (ps : List Str) (C f : Addr) (fd : FuncData) : Prop where
  F : Fun K x qual st f fd
  b : Binds K fd ps []
  M : Mk K C f
/-- what the top writes of the errors, and of the class -/
structure ErA (K : PySem.W.Frag) (mg : Str → Option Value) (BT BN UL NU BZ CA fN fU fZ : Addr) (fdN fdU fdZ : FuncData) : Prop where
  eN : ErrT K mg "BadNumber" BN ["what", "number"]
  iN : IniT K "BadNumber.__init__" si_BadNumber ["self", "what", "number"] BN fN fdN
  eU : ErrT K mg "Unlike" UL ["place", "one", "other"]
  iU : IniT K "Unlike.__init__" si_Unlike ["self", "place", "one", "other"] UL fU fdU
  eZ : ErrT K mg "ByZero" BZ ["place"]
  iZ : IniT K "ByZero.__init__" si_ByZero ["self", "place"] BZ fZ fdZ
  eT : ErrT K mg "BadText" BT ["line", "column"]
  eP : ErrT K mg "NoUnit" NU ["name"]
  x1 : PySem.W.exmOne K (.ref BN) (.ref BT) = some false
  x2 : PySem.W.exmOne K (.ref BN) (.ref BN) = some true
  x3 : PySem.W.exmOne K (.ref UL) (.ref BT) = some false
  x4 : PySem.W.exmOne K (.ref UL) (.ref BN) = some false
  x5 : PySem.W.exmOne K (.ref UL) (.ref NU) = some false
  x6 : PySem.W.exmOne K (.ref UL) (.ref UL) = some true
  x7 : PySem.W.exmOne K (.ref BZ) (.ref BT) = some false
  x8 : PySem.W.exmOne K (.ref BZ) (.ref BN) = some false
  x9 : PySem.W.exmOne K (.ref BZ) (.ref NU) = some false
  x10 : PySem.W.exmOne K (.ref BZ) (.ref UL) = some false
  x11 : PySem.W.exmOne K (.ref BZ) (.ref BZ) = some true
  gcd : mg "gcd" = some (.builtin "math.gcd")
  cl : Cls K CA
  nE : NoAttr K CA "exponents"
  nN : NoAttr K CA "number"
  mA : mg "Amount" = some (.ref CA)
  sf : PySem.W.selfFirst K CA = true
  f1 : PySem.W.notFirst K CA (.type "tuple") = true
  f2 : PySem.W.notFirst K CA (.type "int") = true
  f3 : PySem.W.notFirst K CA (.ref CA) = true
  c1 : PySem.W.findIn K (.ref CA) "__class__" = some (some (.builtin "object.__class__"))
  c2 : PySem.W.specialIn K (.builtin "object.__class__") "__get__" = some (some (.builtin "getset_descriptor.__get__"))
  c3 : PySem.W.takesIn K (.builtin "object.__class__") = some true
  c4 : PySem.W.mroIn K CA (.type "object") = some true
  k1 : PySem.W.kitOne K (.ref CA) (.ref CA) = some true
  k2 : PySem.W.kitOne K (.type "tuple") (.ref CA) = some false
  k3 : PySem.W.kitOne K (.type "int") (.ref CA) = some false

abbrev stis_whole : Stmt := top 9
theorem scis_whole : FnScope ["value"] ["value"] (defScope stis_whole) := ⟨rfl, rfl, rfl, by decide +kernel, rfl, by decide +kernel, by decide +kernel⟩
theorem okis_whole (B : Blt mg) {BT BN UL NU BZ CAmount fN fU fZ : Addr} {fdN fdU fdZ : FuncData} (Es : ErA K mg BT BN UL NU BZ CAmount fN fU fZ fdN fdU fdZ) {fis_whole : Addr} {fdis_whole : FuncData} (Dis_whole : DefAt K mg "is_whole" stis_whole ["value"] fis_whole fdis_whole) : FnOk P w K mg base CX0 1 fis_whole fdis_whole ["value"] (spWholeV K) := by
  refine Dis_whole.F.ok scis_whole (fun vs H Q E h => ?_) (fun cdv A outer s H vs Q E hr h => ?_)
  · obtain ⟨x, u, b, c, rfl, _⟩ := h; rfl
  · have hu := hu_of hr
    refine ⟨_, (pss_one (ps_ret (pe_and (pe_callB call_isi (by rfl) B.isinstance_ (by decide +kernel) (pa_cons (pv 0) (pa_cons (pe_bltn (v := .ty "int") (by rfl) B.int_ PyProof.Rows.Boot.«int» rfl) pa_nil))) (pe_one (pe_not (pe_callB call_isi (by rfl) B.isinstance_ (by decide +kernel) (pa_cons (pv 0) (pa_cons (pe_bltn (v := .ty "bool") (by rfl) B.bool_ PyProof.Rows.Boot.«bool» rfl) pa_nil)))))))), ?_⟩
    obtain ⟨x, u, b, c, rfl, tx, kb, kc, q⟩ := h
    refine ⟨_, rfl, _, _, _, _, _, rfl, ClsV.ty _, tx, kb, b, rfl, ?_⟩
    cases b with
    | false => exact iteF q
    | true => 
      refine iteT ?_
      refine ⟨_, rfl, _, _, _, _, _, rfl, ClsV.ty _, tx, kc, _, rfl, ?_⟩
      exact q
abbrev stare_integers : Stmt := top 10
theorem scare_integers : FnScope ["items", "item"] ["items"] (defScope stare_integers) := ⟨rfl, rfl, rfl, by decide +kernel, rfl, by decide +kernel, by decide +kernel⟩
theorem okare_integers (B : Blt mg) {BT BN UL NU BZ CAmount fN fU fZ : Addr} {fdN fdU fdZ : FuncData} (Es : ErA K mg BT BN UL NU BZ CAmount fN fU fZ fdN fdU fdZ) {fis_whole : Addr} {fdis_whole : FuncData} (Dis_whole : DefAt K mg "is_whole" stis_whole ["value"] fis_whole fdis_whole) {fare_integers : Addr} {fdare_integers : FuncData} (Dare_integers : DefAt K mg "are_integers" stare_integers ["items"] fare_integers fdare_integers) : FnOk P w K mg base CX0 2 fare_integers fdare_integers ["items"] (spAreG K) := by
  have OKis_whole : FnOk P w K mg base CX0 1 fis_whole fdis_whole ["value"] (spWholeV K) := okis_whole B Es Dis_whole
  refine Dare_integers.F.ok scare_integers (fun vs H Q E h => ?_) (fun cdv A outer s H vs Q E hr h => ?_)
  · obtain ⟨t, xs, f, rfl, _⟩ := h; rfl
  · have hu := hu_of hr
    refine ⟨_, (pss_one (ps_ret (pe_callB (cr_all rfl) (by rfl) B.all_ (by decide +kernel) (pa_cons (pe_lc (own := [("item", 1)]) (g := gName 1) (tt := tYes) rfl scare_integers.nd (pi_tup (pv 0)) (blkOk_by (own := [("item", 1)]) (N := ["items", "item"]) (sc := defScope stare_integers) (by decide +kernel)) (fun _ _ _ _ _ => pg_name (i := 1) scare_integers.nd rfl (Or.inl rfl)) (fun _ _ _ _ _ => pts_nil) (fun _ _ _ _ _ => (pe_call OKis_whole (hr.mono (by decide)) rfl Dis_whole.m Dis_whole.F.kp Dis_whole.b .nil pass0 (pa_cons (pv 1) pa_nil)))) pa_nil)))), ?_⟩
    obtain ⟨t, xs, f, rfl, ht, hl, hf, q⟩ := h
    refine ⟨_, rfl, t, rfl, ⟨xs, SqT.of ht⟩, fun D hD => ?_⟩
    have fr : ∀ {H' : Hp}, Same H H' → H' t = some (.tup xs) := fun s => s _ _ ht
    refine lc_tup (K := K) (a := t) (xs := xs) (fun i H' => Same H H' ∧ H' D = some (.lst (((xs.take i).map f).map V.bl))) ⟨AL.Same.new hD, upd_same⟩ (fun i H' _ hh => SqT.of (fr hh.1)) ?_ ?_
    · rintro i x H' hx ⟨s, hd⟩
      obtain ⟨u, b, c, tx, kb, kc, hw⟩ := hf H' s x (List.mem_of_getElem? hx)
      refine ⟨rfl, ?_⟩
      have hi : i < xs.length := (List.getElem?_eq_some_iff.mp hx).1
      refine ⟨_, rfl, x, u, b, c, rfl, tx, kb, kc, _, hd, ?_, AL.Same.updn s hD, ?_⟩
      · rw [List.length_map, List.length_map, List.length_take]
        exact Nat.lt_of_le_of_lt (by omega : _ ≤ 100) (by decide)
      · rw [upd_same, List.take_add_one, hx, hw]
        simp
    · rintro H' ⟨s, hd⟩
      refine ⟨D, xs.map f, rfl, SqL.of (by rw [hd, List.take_length]), ?_⟩
      have := q H' s
      rw [List.all_map]
      exact this
abbrev stis_ratio : Stmt := top 11
theorem scis_ratio : FnScope ["value"] ["value"] (defScope stis_ratio) := ⟨rfl, rfl, rfl, by decide +kernel, rfl, by decide +kernel, by decide +kernel⟩
theorem okis_ratio (B : Blt mg) {BT BN UL NU BZ CAmount fN fU fZ : Addr} {fdN fdU fdZ : FuncData} (Es : ErA K mg BT BN UL NU BZ CAmount fN fU fZ fdN fdU fdZ) {fis_whole : Addr} {fdis_whole : FuncData} (Dis_whole : DefAt K mg "is_whole" stis_whole ["value"] fis_whole fdis_whole) {fare_integers : Addr} {fdare_integers : FuncData} (Dare_integers : DefAt K mg "are_integers" stare_integers ["items"] fare_integers fdare_integers) {fis_ratio : Addr} {fdis_ratio : FuncData} (Dis_ratio : DefAt K mg "is_ratio" stis_ratio ["value"] fis_ratio fdis_ratio) : FnOk P w K mg base CX0 3 fis_ratio fdis_ratio ["value"] (spIsRatV K) := by
  have OKare_integers : FnOk P w K mg base CX0 2 fare_integers fdare_integers ["items"] (spAreG K) := okare_integers B Es Dis_whole Dare_integers
  have OKis_whole : FnOk P w K mg base CX0 1 fis_whole fdis_whole ["value"] (spWholeV K) := okis_whole B Es Dis_whole
  refine Dis_ratio.F.ok scis_ratio (fun vs H Q E h => ?_) (fun cdv A outer s H vs Q E hr h => ?_)
  · obtain ⟨x, r, rfl, _⟩ := h; rfl
  · have hu := hu_of hr
    refine ⟨_, (pss_cons (ps_if (pt_val (pe_callB call_isi (by rfl) B.isinstance_ (by decide +kernel) (pa_cons (pv 0) (pa_cons (pe_bltn (v := .ty "tuple") (by rfl) B.tuple_ PyProof.Rows.Boot.«tuple» rfl) pa_nil)))) (pss_one (ps_ret (pe_and (pe_cmpR op_eq (pe_callB call_len_seq (by rfl) B.len_ (by decide +kernel) (pa_cons (pv 0) pa_nil)) pe_int (nomark _)) (pe_and (pe_call OKare_integers (hr.mono (by decide)) rfl Dare_integers.m Dare_integers.F.kp Dare_integers.b .nil pass0 (pa_cons (pv 0) pa_nil)) (pe_one (pe_cmpR op_gt (pe_ix ix_tup (pv 0) pe_int (fun _ _ => rfl)) pe_int (nomark _))))))) pss_nil)
    (pss_one (ps_ret (pe_call OKis_whole (hr.mono (by decide)) rfl Dis_whole.m Dis_whole.F.kp Dis_whole.b .nil pass0 (pa_cons (pv 0) pa_nil))))), ?_⟩
    obtain ⟨x, r, rfl, hr, q⟩ := h
    have tupT : ∀ {t : Addr} {xs : List V}, H t = some (.tup xs) → TyX K H (.ref t) (.type "tuple") := fun h => TyX.base (.tup h)
    cases hr with
    | int i =>
      refine ⟨_, rfl, _, _, _, _, _, rfl, ClsV.ty _, TyX.base (.int i), rfl, false, rfl, ?_⟩
      refine iteF ?_
      exact ⟨_, rfl, _, _, _, _, rfl, TyX.base (.int i), rfl, rfl, q H (Same.refl _)⟩
    | other h ht hb hc no =>
      refine ⟨_, rfl, _, _, _, _, _, rfl, ClsV.ty _, h, ht, false, rfl, ?_⟩
      refine iteF ?_
      refine ⟨_, rfl, _, _, _, _, rfl, h, hb, hc, ?_⟩
      rw [no]; exact q H (Same.refl _)
    | @pair t p r h h0 =>
      refine ⟨_, rfl, _, _, _, _, _, rfl, ClsV.ty _, tupT h, rfl, true, rfl, ?_⟩
      refine iteT ?_
      refine ⟨_, rfl, t, _, rfl, .inr (SqT.of h), rfl, true, rfl, ?_⟩
      refine iteT ?_
      refine ⟨_, rfl, t, _, fun _ => true, rfl, h, (by show 2 ≤ 100; decide), (flat_all fun x hx => ?_), fun H1 s1 => ⟨true, rfl, ?_⟩⟩
      · simp only [List.mem_cons, List.not_mem_nil, or_false] at hx
        rcases hx with rfl | rfl <;> rfl
      refine iteT ?_
      refine ⟨_, rfl, t, _, _, _, rfl, rfl, SqT.of (s1 _ _ h), rfl, _, _, rfl, rfl, ?_⟩
      have := q H1 s1
      show Q (V.bl (decide ((0 : Int) < (r : Int)))) H1
      rw [decide_eq_true (by omega)]
      exact this
    | @long t xs h hl =>
      refine ⟨_, rfl, _, _, _, _, _, rfl, ClsV.ty _, tupT h, rfl, true, rfl, ?_⟩
      refine iteT ?_
      refine ⟨_, rfl, t, _, rfl, .inr (SqT.of h), rfl, _, rfl, ?_⟩
      rw [decide_eq_false (fun z => hl (by injection z with z; omega))]
      refine iteF ?_
      exact q H (Same.refl _)
    | @item t x y b c h hx hy no =>
      refine ⟨_, rfl, _, _, _, _, _, rfl, ClsV.ty _, tupT h, rfl, true, rfl, ?_⟩
      refine iteT ?_
      refine ⟨_, rfl, t, _, rfl, .inr (SqT.of h), rfl, true, rfl, ?_⟩
      refine iteT ?_
      refine ⟨_, rfl, t, _, fun x => (flatW x).getD false, rfl, h, (by show 2 ≤ 100; decide), (flat_all fun x hx => ?_), fun H1 s1 => ⟨false, ?_, ?_⟩⟩
      · simp only [List.mem_cons, List.not_mem_nil, or_false] at hx
        rcases hx with rfl | rfl
        · simp [hx]
        · simp [hy]
      · have : ([x, y] : List V).all (fun x => (flatW x).getD false) = false := by
          simp only [List.all_cons, List.all_nil, hx, hy, Option.getD_some, Bool.and_true]
          exact no
        rw [this]
      · exact iteF (q H1 s1)
    | @sign t p r h h0 =>
      refine ⟨_, rfl, _, _, _, _, _, rfl, ClsV.ty _, tupT h, rfl, true, rfl, ?_⟩
      refine iteT ?_
      refine ⟨_, rfl, t, _, rfl, .inr (SqT.of h), rfl, true, rfl, ?_⟩
      refine iteT ?_
      refine ⟨_, rfl, t, _, fun _ => true, rfl, h, (by show 2 ≤ 100; decide), (flat_all fun x hx => ?_), fun H1 s1 => ⟨true, rfl, ?_⟩⟩
      · simp only [List.mem_cons, List.not_mem_nil, or_false] at hx
        rcases hx with rfl | rfl <;> rfl
      refine iteT ?_
      refine ⟨_, rfl, t, _, _, _, rfl, rfl, SqT.of (s1 _ _ h), rfl, _, _, rfl, rfl, ?_⟩
      have := q H1 s1
      show Q (V.bl (decide ((0 : Int) < r))) H1
      rw [decide_eq_false (by omega)]
      exact this
abbrev stlowest : Stmt := top 12
theorem sclowest : FnScope ["top", "bottom", "shared"] ["top", "bottom"] (defScope stlowest) := ⟨rfl, rfl, rfl, by decide +kernel, rfl, by decide +kernel, by decide +kernel⟩
theorem oklowest (B : Blt mg) {BT BN UL NU BZ CAmount fN fU fZ : Addr} {fdN fdU fdZ : FuncData} (Es : ErA K mg BT BN UL NU BZ CAmount fN fU fZ fdN fdU fdZ) {flowest : Addr} {fdlowest : FuncData} (Dlowest : DefAt K mg "lowest" stlowest ["top", "bottom"] flowest fdlowest) : FnOk P w K mg base CX0 1 flowest fdlowest ["top", "bottom"] spLowG := by
  refine Dlowest.F.ok sclowest (fun vs H Q E h => ?_) (fun cdv A outer s H vs Q E hr h => ?_)
  · obtain ⟨a, b, rfl, _⟩ := h; rfl
  · have hu := hu_of hr
    refine ⟨_, (pss_cons (ps_set (i := 2) sclowest.nd rfl (Or.inl rfl) (pe_callBfun cr_gcd (by rfl) Es.gcd (pa_cons (pv 0) (pa_cons (pv 1) pa_nil))))
    (pss_cons (ps_if (pt_cmpR op_lt (pv 1) pe_int (nomark _)) (pss_one (ps_set (i := 2) sclowest.nd rfl (Or.inl rfl) (pe_un un_neg (pv 2)))) pss_nil)
    (pss_one (ps_ret (pe_tup (pa_cons (pe_op op_fdivC (pv 0) (pv 2)) (pa_cons (pe_op op_fdivC (pv 1) (pv 2)) pa_nil))))))), ?_⟩
    obtain ⟨a, b, rfl, hlo, h0, q⟩ := h
    refine ⟨_, rfl, _, rfl, a, b, rfl, ?_⟩
    have hg : Nat.gcd a.natAbs b.natAbs ≠ 0 := fun z => h0 (Int.natAbs_eq_zero.mp (Nat.eq_zero_of_gcd_eq_zero_right z))
    have d1 : ∀ s : Int, s.natAbs = Nat.gcd a.natAbs b.natAbs → CDivC a s ∧ CDivC b s := fun s hs => by
      refine ⟨⟨fun z => hg (by rw [← hs, z]; rfl), ?_⟩, ⟨fun z => hg (by rw [← hs, z]; rfl), ?_⟩⟩
      · exact hlo.elim (fun z => .inl z.1) (fun z => .inr (by rw [hs]; exact z))
      · exact hlo.elim (fun z => .inl z.2) (fun z => .inr (by rw [hs]; exact z))
    refine ⟨_, rfl, _, _, rfl, rfl, _, rfl, ?_⟩
    refine ite2 (fun hneg => ?_) (fun hneg => ?_)
    · have hneg' := of_decide_eq_true hneg
      obtain ⟨c1, c2⟩ := d1 (-((Nat.gcd a.natAbs b.natAbs : Nat) : Int)) (by rw [Int.natAbs_neg, Int.natAbs_natCast])
      refine ⟨_, rfl, _, rfl, _, rfl, _, rfl, _, _, rfl, rfl, c1, _, rfl, _, rfl, _, _, rfl, rfl, c2, (by show 2 ≤ sizeLine; decide), fun t ht => ?_⟩
      have z := q t ht
      unfold lowI shr at z
      rw [if_pos hneg'] at z
      exact z
    · have hneg' : ¬ b < 0 := fun z => hneg (decide_eq_true z)
      obtain ⟨c1, c2⟩ := d1 ((Nat.gcd a.natAbs b.natAbs : Nat) : Int) (Int.natAbs_natCast _)
      refine ⟨_, rfl, _, rfl, _, _, rfl, rfl, c1, _, rfl, _, rfl, _, _, rfl, rfl, c2, (by show 2 ≤ sizeLine; decide), fun t ht => ?_⟩
      have z := q t ht
      unfold lowI shr at z
      rw [if_neg hneg'] at z
      exact z
abbrev stas_ratio : Stmt := top 13
theorem scas_ratio : FnScope ["value"] ["value"] (defScope stas_ratio) := ⟨rfl, rfl, rfl, by decide +kernel, rfl, by decide +kernel, by decide +kernel⟩
theorem okas_ratio (B : Blt mg) {BT BN UL NU BZ CAmount fN fU fZ : Addr} {fdN fdU fdZ : FuncData} (Es : ErA K mg BT BN UL NU BZ CAmount fN fU fZ fdN fdU fdZ) {flowest : Addr} {fdlowest : FuncData} (Dlowest : DefAt K mg "lowest" stlowest ["top", "bottom"] flowest fdlowest) {fas_ratio : Addr} {fdas_ratio : FuncData} (Das_ratio : DefAt K mg "as_ratio" stas_ratio ["value"] fas_ratio fdas_ratio) : FnOk P w K mg base CX0 2 fas_ratio fdas_ratio ["value"] (spAsG K) := by
  have OKlowest : FnOk P w K mg base CX0 1 flowest fdlowest ["top", "bottom"] spLowG := oklowest B Es Dlowest
  refine Das_ratio.F.ok scas_ratio (fun vs H Q E h => ?_) (fun cdv A outer s H vs Q E hr h => ?_)
  · obtain ⟨x, p, r, rfl, _⟩ := h; rfl
  · have hu := hu_of hr
    refine ⟨_, (pss_cons (ps_if (pt_val (pe_callB call_isi (by rfl) B.isinstance_ (by decide +kernel) (pa_cons (pv 0) (pa_cons (pe_bltn (v := .ty "tuple") (by rfl) B.tuple_ PyProof.Rows.Boot.«tuple» rfl) pa_nil)))) (pss_one (ps_ret (pe_call OKlowest (hr.mono (by decide)) rfl Dlowest.m Dlowest.F.kp Dlowest.b .nil pass0 (pa_cons (pe_ix ix_tup (pv 0) pe_int (fun _ _ => rfl)) (pa_cons (pe_ix ix_tup (pv 0) pe_int (fun _ _ => rfl)) pa_nil))))) pss_nil)
    (pss_one (ps_ret (pe_tup (pa_cons (pv 0) (pa_cons pe_int pa_nil)))))), ?_⟩
    obtain ⟨x, p, r, rfl, hr, hm, q⟩ := h
    cases hr with
    | int i =>
      refine ⟨_, rfl, _, _, _, _, _, rfl, ClsV.ty _, TyX.base (.int p), rfl, false, rfl, ?_⟩
      refine iteF ?_
      refine ⟨_, rfl, (by show 2 ≤ sizeLine; decide), fun t ht => ?_⟩
      have := q t ht
      rw [nrm_one] at this
      exact this
    | @pair t p r h h0 =>
      refine ⟨_, rfl, _, _, _, _, _, rfl, ClsV.ty _, TyX.base (.tup h), rfl, true, rfl, ?_⟩
      refine iteT ?_
      have hm2 : ((r : Nat) : Int).natAbs < 2 ^ 12001 := by rw [Int.natAbs_natCast]; exact up12 (Nat.lt_of_lt_of_le hm.2.2 (Nat.pow_le_pow_right (by decide) (by decide)))
      refine ⟨_, rfl, t, _, _, _, rfl, rfl, SqT.of h, rfl, _, rfl, t, _, _, _, rfl, rfl, SqT.of h, rfl, p, (r : Int), rfl, (mid_div (up12 (Nat.lt_of_lt_of_le hm.2.1 (Nat.pow_le_pow_right (by decide) (by decide)))) hm2).1, by omega, ?_⟩
      intro t ht
      have := q t ht
      rw [lowI_pos]
      exact this
abbrev stratio_sum : Stmt := top 14
theorem scratio_sum : FnScope ["one", "other", "shared", "part", "total", "left"] ["one", "other"] (defScope stratio_sum) := ⟨rfl, rfl, rfl, by decide +kernel, rfl, by decide +kernel, by decide +kernel⟩
theorem okratio_sum (B : Blt mg) {BT BN UL NU BZ CAmount fN fU fZ : Addr} {fdN fdU fdZ : FuncData} (Es : ErA K mg BT BN UL NU BZ CAmount fN fU fZ fdN fdU fdZ) {fratio_sum : Addr} {fdratio_sum : FuncData} (Dratio_sum : DefAt K mg "ratio_sum" stratio_sum ["one", "other"] fratio_sum fdratio_sum) : FnOk P w K mg base CX0 1 fratio_sum fdratio_sum ["one", "other"] (spTwoL sumR) := by
  refine Dratio_sum.F.ok scratio_sum (fun vs H Q E h => ?_) (fun cdv A outer s H vs Q E hr h => ?_)
  · obtain ⟨s, t, a, c, b, d, rfl, _⟩ := h; rfl
  · have hu := hu_of hr
    refine ⟨_, (Evl.pss_cut (ps_if (PW.pt (pw_and (pt_cmpR op_eq (pe_ix ix_tup (pv 0) pe_int (fun _ _ => rfl)) pe_int (nomark _)) (pw_and1 (pt_cmpR op_eq (pe_ix ix_tup (pv 1) pe_int (fun _ _ => rfl)) pe_int (nomark _))))) (pss_one (ps_ret (pe_tup (pa_cons (pe_op op_add (pe_ix ix_tup (pv 0) pe_int (fun _ _ => rfl)) (pe_ix ix_tup (pv 1) pe_int (fun _ _ => rfl))) (pa_cons pe_int pa_nil))))) pss_nil)
    (pss_cons (ps_set (i := 2) scratio_sum.nd rfl (Or.inl rfl) (pe_callBfun cr_gcd (by rfl) Es.gcd (pa_cons (pe_ix ix_tup (pv 0) pe_int (fun _ _ => rfl)) (pa_cons (pe_ix ix_tup (pv 1) pe_int (fun _ _ => rfl)) pa_nil))))
    (pss_cons (ps_set (i := 3) scratio_sum.nd rfl (Or.inl rfl) (pe_op op_fdivC (pe_ix ix_tup (pv 1) pe_int (fun _ _ => rfl)) (pv 2)))
    (pss_cons (ps_set (i := 4) scratio_sum.nd rfl (Or.inl rfl) (pe_op op_add (pe_op op_mulW (pe_ix ix_tup (pv 0) pe_int (fun _ _ => rfl)) (pv 3)) (pe_op op_mulW (pe_ix ix_tup (pv 1) pe_int (fun _ _ => rfl)) (pe_op op_fdivC (pe_ix ix_tup (pv 0) pe_int (fun _ _ => rfl)) (pv 2)))))
    (pss_cons (ps_set (i := 5) scratio_sum.nd rfl (Or.inl rfl) (pe_callBfun cr_gcd (by rfl) Es.gcd (pa_cons (pv 4) (pa_cons (pv 2) pa_nil))))
    (pss_one (ps_ret (pe_tup (pa_cons (pe_op op_fdivC (pv 4) (pv 5)) (pa_cons (pe_op op_mulW (pe_op op_fdivC (pe_ix ix_tup (pv 0) pe_int (fun _ _ => rfl)) (pv 5)) (pv 3)) pa_nil)))))))))), ?_⟩
    obtain ⟨s, t, a, c, b, d, rfl, hs, ht, ⟨b0, ma, mb⟩, ⟨d0, mc, md⟩, la, lc, q⟩ := h
    have mb' : ((b : Nat) : Int).natAbs < 2 ^ 6000 := by rw [Int.natAbs_natCast]; exact mb
    have md' : ((d : Nat) : Int).natAbs < 2 ^ 6000 := by rw [Int.natAbs_natCast]; exact md
    have hs' := SqT.of (K := K) hs
    have ht' := SqT.of (K := K) ht
    have big : ∀ {x : Nat}, x < 2 ^ 12001 → x < 2 ^ 13500 := fun h => Nat.lt_of_lt_of_le h (Nat.pow_le_pow_right (by decide) (by decide))
    have m12 : ∀ {x : Nat}, x < 2 ^ 6000 → x < 2 ^ 12001 := fun h => Nat.lt_of_lt_of_le h (Nat.pow_le_pow_right (by decide) (by decide))
    
    refine ⟨fun σ' H' => H' = H ∧ σ' = [some (.ref s), some (.ref t), none, none, none, none], ?_, ?_⟩
    · refine ⟨_, rfl, s, _, _, _, rfl, rfl, hs', rfl, rfl, _, rfl, ?_⟩
      refine ite2 (fun h1 => ?_) (fun h1 => ?_)
      · have hb1 : b = 1 := vi_eq (j := 1) h1
        refine ⟨_, rfl, t, _, _, _, rfl, rfl, ht', rfl, rfl, _, rfl, ?_⟩
        refine ite2 (fun h2 => ?_) (fun h2 => ?_)
        · have hd1 : d = 1 := vi_eq (j := 1) h2
          subst hb1 hd1
          refine ⟨_, rfl, s, _, _, _, rfl, rfl, hs', rfl, _, rfl, t, _, _, _, rfl, rfl, ht', rfl, _, _, rfl, rfl, (by show 2 ≤ sizeLine; decide), fun u hu => ?_⟩
          have z := q u hu
          rw [show sumR a 1 c 1 = (a + c, 1) by unfold sumR; rw [Nat.mul_one, nrm_one, Int.natCast_one, Int.mul_one, Int.mul_one]] at z
          exact z
        · exact ⟨rfl, rfl⟩
      · exact iteF ⟨rfl, rfl⟩
    rintro σ1 H1 ⟨rfl, rfl⟩
    
    have g0 : 0 < Nat.gcd b d := Nat.gcd_pos_of_pos_left _ b0
    have gle : Nat.gcd b d ≤ b := Nat.le_of_dvd b0 (Nat.gcd_dvd_left _ _)
    have gI : ∀ {x : Nat}, (x : Int).natAbs = x := fun {x} => Int.natAbs_natCast x
    have dv : ∀ (x : Int) (y : Nat), 0 < y → y < 2 ^ 13500 → x.natAbs < 2 ^ 13500 → CDivC x (y : Int) := fun x y h0 h1 h2 => ⟨by omega, .inl h2⟩
    have md2 : d / Nat.gcd b d < 2 ^ 6000 := Nat.lt_of_le_of_lt (Nat.div_le_self _ _) md
    have mb2 : b / Nat.gcd b d < 2 ^ 6000 := Nat.lt_of_le_of_lt (Nat.div_le_self _ _) mb
    have p1 := mid_mul (x := a) (y := ((d / Nat.gcd b d : Nat) : Int)) ma (by rw [gI]; exact md2)
    have p2 := mid_mul (x := c) (y := ((b / Nat.gcd b d : Nat) : Int)) mc (by rw [gI]; exact mb2)
    obtain ⟨tb, _⟩ := add12 p1.2 p2.2
    have l0 : 0 < lefS a b c d := Nat.gcd_pos_of_pos_right _ g0
    have lle : lefS a b c d ≤ Nat.gcd b d := Nat.le_of_dvd g0 (Nat.gcd_dvd_right _ _)
    refine ⟨_, rfl, s, _, _, _, rfl, rfl, hs', rfl, _, rfl, t, _, _, _, rfl, rfl, ht', rfl, _, _, rfl, ?_⟩
    have e0 : Nat.gcd ((b : Int)).natAbs ((d : Int)).natAbs = Nat.gcd b d := by rw [gI, gI]
    dsimp only
    rw [e0]
    refine ⟨_, rfl, t, _, _, _, rfl, rfl, ht', rfl, _, rfl, _, _, rfl, rfl, dv _ _ g0 (big (m12 (Nat.lt_of_le_of_lt gle mb))) (by rw [gI]; exact big (m12 md)), ?_⟩
    dsimp only
    rw [fdiv_nat]
    refine ⟨_, rfl, s, _, _, _, rfl, rfl, hs', rfl, _, rfl, _, _, rfl, rfl, p1.1, _, rfl, t, _, _, _, rfl, rfl, ht', rfl, _, rfl, s, _, _, _, rfl, rfl, hs', rfl, _, rfl, _, _, rfl, rfl, dv _ _ g0 (big (m12 (Nat.lt_of_le_of_lt gle mb))) (by rw [gI]; exact big (m12 mb)), ?_⟩
    dsimp only
    rw [fdiv_nat]
    refine ⟨_, _, rfl, rfl, p2.1, _, _, rfl, rfl, ?_⟩
    refine ⟨_, rfl, _, rfl, _, _, rfl, ?_⟩
    have e1 : Nat.gcd (a * ((d / Nat.gcd b d : Nat) : Int) + c * ((b / Nat.gcd b d : Nat) : Int)).natAbs (((Nat.gcd b d : Nat) : Int)).natAbs = lefS a b c d := by rw [gI]; rfl
    dsimp only
    rw [e1]
    have lt6 : lefS a b c d < 2 ^ 6000 := Nat.lt_of_le_of_lt lle (Nat.lt_of_le_of_lt gle mb)
    refine ⟨_, rfl, _, rfl, _, _, rfl, rfl, dv _ _ l0 (big (m12 lt6)) (big tb), _, rfl, s, _, _, _, rfl, rfl, hs', rfl, _, rfl, _, _, rfl, rfl, dv _ _ l0 (big (m12 lt6)) (by rw [gI]; exact big (m12 mb)), ?_⟩
    dsimp only
    rw [fdiv_nat]
    refine ⟨_, rfl, _, _, rfl, rfl, (mid_mul (by rw [gI]; exact Nat.lt_of_le_of_lt (Nat.div_le_self _ _) mb) (by rw [gI]; exact md2)).1, (by show 2 ≤ sizeLine; decide), fun u hu => ?_⟩
    have z := q u hu
    rw [sum_short la lc] at z
    dsimp only
    rw [← Int.natCast_mul]
    exact z
abbrev stratio_product : Stmt := top 16
theorem scratio_product : FnScope ["one", "other", "first", "second"] ["one", "other"] (defScope stratio_product) := ⟨rfl, rfl, rfl, by decide +kernel, rfl, by decide +kernel, by decide +kernel⟩
theorem okratio_product (B : Blt mg) {BT BN UL NU BZ CAmount fN fU fZ : Addr} {fdN fdU fdZ : FuncData} (Es : ErA K mg BT BN UL NU BZ CAmount fN fU fZ fdN fdU fdZ) {fratio_product : Addr} {fdratio_product : FuncData} (Dratio_product : DefAt K mg "ratio_product" stratio_product ["one", "other"] fratio_product fdratio_product) : FnOk P w K mg base CX0 1 fratio_product fdratio_product ["one", "other"] (spTwoL mulR) := by
  refine Dratio_product.F.ok scratio_product (fun vs H Q E h => ?_) (fun cdv A outer s H vs Q E hr h => ?_)
  · obtain ⟨s, t, a, c, b, d, rfl, _⟩ := h; rfl
  · have hu := hu_of hr
    refine ⟨_, (Evl.pss_cut (ps_if (PW.pt (pw_and (pt_cmpR op_eq (pe_ix ix_tup (pv 0) pe_int (fun _ _ => rfl)) pe_int (nomark _)) (pw_and1 (pt_cmpR op_eq (pe_ix ix_tup (pv 1) pe_int (fun _ _ => rfl)) pe_int (nomark _))))) (pss_one (ps_ret (pe_tup (pa_cons (pe_op op_mulW (pe_ix ix_tup (pv 0) pe_int (fun _ _ => rfl)) (pe_ix ix_tup (pv 1) pe_int (fun _ _ => rfl))) (pa_cons pe_int pa_nil))))) pss_nil)
    (pss_cons (ps_set (i := 2) scratio_product.nd rfl (Or.inl rfl) (pe_callBfun cr_gcd (by rfl) Es.gcd (pa_cons (pe_ix ix_tup (pv 0) pe_int (fun _ _ => rfl)) (pa_cons (pe_ix ix_tup (pv 1) pe_int (fun _ _ => rfl)) pa_nil))))
    (pss_cons (ps_set (i := 3) scratio_product.nd rfl (Or.inl rfl) (pe_callBfun cr_gcd (by rfl) Es.gcd (pa_cons (pe_ix ix_tup (pv 1) pe_int (fun _ _ => rfl)) (pa_cons (pe_ix ix_tup (pv 0) pe_int (fun _ _ => rfl)) pa_nil))))
    (pss_one (ps_ret (pe_tup (pa_cons (pe_op op_mulW (pe_op op_fdivC (pe_ix ix_tup (pv 0) pe_int (fun _ _ => rfl)) (pv 2)) (pe_op op_fdivC (pe_ix ix_tup (pv 1) pe_int (fun _ _ => rfl)) (pv 3))) (pa_cons (pe_op op_mulW (pe_op op_fdivC (pe_ix ix_tup (pv 0) pe_int (fun _ _ => rfl)) (pv 3)) (pe_op op_fdivC (pe_ix ix_tup (pv 1) pe_int (fun _ _ => rfl)) (pv 2))) pa_nil)))))))), ?_⟩
    obtain ⟨s, t, a, c, b, d, rfl, hs, ht, ⟨b0, ma, mb⟩, ⟨d0, mc, md⟩, la, lc, q⟩ := h
    have mb' : ((b : Nat) : Int).natAbs < 2 ^ 6000 := by rw [Int.natAbs_natCast]; exact mb
    have md' : ((d : Nat) : Int).natAbs < 2 ^ 6000 := by rw [Int.natAbs_natCast]; exact md
    have hs' := SqT.of (K := K) hs
    have ht' := SqT.of (K := K) ht
    have big : ∀ {x : Nat}, x < 2 ^ 12001 → x < 2 ^ 13500 := fun h => Nat.lt_of_lt_of_le h (Nat.pow_le_pow_right (by decide) (by decide))
    have m12 : ∀ {x : Nat}, x < 2 ^ 6000 → x < 2 ^ 12001 := fun h => Nat.lt_of_lt_of_le h (Nat.pow_le_pow_right (by decide) (by decide))
    
    refine ⟨fun σ' H' => H' = H ∧ σ' = [some (.ref s), some (.ref t), none, none], ?_, ?_⟩
    · refine ⟨_, rfl, s, _, _, _, rfl, rfl, hs', rfl, rfl, _, rfl, ?_⟩
      refine ite2 (fun h1 => ?_) (fun h1 => ?_)
      · have hb1 : b = 1 := vi_eq (j := 1) h1
        refine ⟨_, rfl, t, _, _, _, rfl, rfl, ht', rfl, rfl, _, rfl, ?_⟩
        refine ite2 (fun h2 => ?_) (fun h2 => ?_)
        · have hd1 : d = 1 := vi_eq (j := 1) h2
          subst hb1 hd1
          refine ⟨_, rfl, s, _, _, _, rfl, rfl, hs', rfl, _, rfl, t, _, _, _, rfl, rfl, ht', rfl, _, _, rfl, rfl, (mid_mul ma mc).1, (by show 2 ≤ sizeLine; decide), fun u hu => ?_⟩
          have z := q u hu
          rw [show mulR a 1 c 1 = (a * c, 1) by unfold mulR; rw [Nat.mul_one, nrm_one]] at z
          exact z
        · exact ⟨rfl, rfl⟩
      · exact iteF ⟨rfl, rfl⟩
    rintro σ1 H1 ⟨rfl, rfl⟩
    
    have gI : ∀ {x : Nat}, (x : Int).natAbs = x := fun {x} => Int.natAbs_natCast x
    have dv : ∀ (x : Int) (y : Nat), 0 < y → y < 2 ^ 13500 → x.natAbs < 2 ^ 13500 → CDivC x (y : Int) := fun x y h0 h1 h2 => ⟨by omega, .inl h2⟩
    
    have f0 : 0 < Nat.gcd a.natAbs d := Nat.gcd_pos_of_pos_right _ d0
    have s0 : 0 < Nat.gcd c.natAbs b := Nat.gcd_pos_of_pos_right _ b0
    have fl : Nat.gcd a.natAbs d < 2 ^ 6000 := Nat.lt_of_le_of_lt (Nat.le_of_dvd d0 (Nat.gcd_dvd_right _ _)) md
    have sl : Nat.gcd c.natAbs b < 2 ^ 6000 := Nat.lt_of_le_of_lt (Nat.le_of_dvd b0 (Nat.gcd_dvd_right _ _)) mb
    have fq : ∀ (x : Int) (y : Nat), x.natAbs < 2 ^ 6000 → (x.fdiv (((Nat.gcd x.natAbs y : Nat) : Int))).natAbs < 2 ^ 6000 := fun x y h => by
      rw [Int.fdiv_eq_ediv_of_nonneg _ (by omega), Int.natAbs_ediv_of_dvd (Int.ofNat_dvd_left.mpr (Nat.gcd_dvd_left _ _)), gI]
      exact Nat.lt_of_le_of_lt (Nat.div_le_self _ _) h
    refine ⟨_, rfl, s, _, _, _, rfl, rfl, hs', rfl, _, rfl, t, _, _, _, rfl, rfl, ht', rfl, _, _, rfl, ?_⟩
    dsimp only
    rw [show Nat.gcd a.natAbs ((d : Int)).natAbs = Nat.gcd a.natAbs d by rw [gI]]
    refine ⟨_, rfl, t, _, _, _, rfl, rfl, ht', rfl, _, rfl, s, _, _, _, rfl, rfl, hs', rfl, _, _, rfl, ?_⟩
    dsimp only
    rw [show Nat.gcd c.natAbs ((b : Int)).natAbs = Nat.gcd c.natAbs b by rw [gI]]
    refine ⟨_, rfl, s, _, _, _, rfl, rfl, hs', rfl, _, rfl, _, _, rfl, rfl, dv _ _ f0 (big (m12 fl)) (big (m12 ma)), _, rfl, t, _, _, _, rfl, rfl, ht', rfl, _, rfl, _, _, rfl, rfl, dv _ _ s0 (big (m12 sl)) (big (m12 mc)), _, _, rfl, rfl, (mid_mul (fq _ _ ma) (fq _ _ mc)).1, _, rfl, s, _, _, _, rfl, rfl, hs', rfl, _, rfl, _, _, rfl, rfl, dv _ _ s0 (big (m12 sl)) (by rw [gI]; exact big (m12 mb)), ?_⟩
    dsimp only
    rw [fdiv_nat]
    refine ⟨_, rfl, t, _, _, _, rfl, rfl, ht', rfl, _, rfl, _, _, rfl, rfl, dv _ _ f0 (big (m12 fl)) (by rw [gI]; exact big (m12 md)), ?_⟩
    dsimp only
    rw [fdiv_nat]
    refine ⟨_, _, rfl, rfl, (mid_mul (by rw [gI]; exact Nat.lt_of_le_of_lt (Nat.div_le_self _ _) mb) (by rw [gI]; exact Nat.lt_of_le_of_lt (Nat.div_le_self _ _) md)).1, (by show 2 ≤ sizeLine; decide), fun u hu => ?_⟩
    have z := q u hu
    rw [mul_short la lc] at z
    dsimp only
    rw [← Int.natCast_mul]
    exact z
abbrev stratio_minus : Stmt := top 15
theorem scratio_minus : FnScope ["one", "other"] ["one", "other"] (defScope stratio_minus) := ⟨rfl, rfl, rfl, by decide +kernel, rfl, by decide +kernel, by decide +kernel⟩
theorem okratio_minus (B : Blt mg) {BT BN UL NU BZ CAmount fN fU fZ : Addr} {fdN fdU fdZ : FuncData} (Es : ErA K mg BT BN UL NU BZ CAmount fN fU fZ fdN fdU fdZ) {fratio_sum : Addr} {fdratio_sum : FuncData} (Dratio_sum : DefAt K mg "ratio_sum" stratio_sum ["one", "other"] fratio_sum fdratio_sum) {fratio_minus : Addr} {fdratio_minus : FuncData} (Dratio_minus : DefAt K mg "ratio_minus" stratio_minus ["one", "other"] fratio_minus fdratio_minus) : FnOk P w K mg base CX0 2 fratio_minus fdratio_minus ["one", "other"] (spTwoS difR) := by
  have OKratio_sum : FnOk P w K mg base CX0 1 fratio_sum fdratio_sum ["one", "other"] (spTwoL sumR) := okratio_sum B Es Dratio_sum
  refine Dratio_minus.F.ok scratio_minus (fun vs H Q E h => ?_) (fun cdv A outer s H vs Q E hr h => ?_)
  · obtain ⟨s, t, a, c, b, d, rfl, _⟩ := h; rfl
  · have hu := hu_of hr
    refine ⟨_, (pss_one (ps_ret (pe_call OKratio_sum (hr.mono (by decide)) rfl Dratio_sum.m Dratio_sum.F.kp Dratio_sum.b .nil pass0 (pa_cons (pv 0) (pa_cons (pe_tup (pa_cons (pe_un un_neg (pe_ix ix_tup (pv 1) pe_int (fun _ _ => rfl))) (pa_cons (pe_ix ix_tup (pv 1) pe_int (fun _ _ => rfl)) pa_nil))) pa_nil))))), ?_⟩
    obtain ⟨s, t, a, c, b, d, rfl, hs, ht, ma, mc, la, lc, q⟩ := h
    have hs' := SqT.of (K := K) hs
    have ht' := SqT.of (K := K) ht
    refine ⟨_, rfl, _, rfl, t, _, _, _, rfl, rfl, ht', rfl, _, rfl, _, rfl, t, _, _, _, rfl, rfl, ht', rfl, (by show 2 ≤ sizeLine; decide), fun v hv => ?_⟩
    have n1 := AL.Same.new (o := .tup [.int (-c), .int (d : Int)]) hv
    refine ⟨s, v, a, -c, b, d, rfl, n1 _ _ hs, upd_same, ma, ⟨mc.1, by rw [Int.natAbs_neg]; exact mc.2.1, mc.2.2⟩, la, low_neg lc, fun u hu => ?_⟩
    refine q u _ (n1.trans (AL.Same.new hu)) ?_
    rw [dif_eq]
    exact upd_same
abbrev stratio_over : Stmt := top 17
theorem scratio_over : FnScope ["one", "other"] ["one", "other"] (defScope stratio_over) := ⟨rfl, rfl, rfl, by decide +kernel, rfl, by decide +kernel, by decide +kernel⟩
theorem okratio_over (B : Blt mg) {BT BN UL NU BZ CAmount fN fU fZ : Addr} {fdN fdU fdZ : FuncData} (Es : ErA K mg BT BN UL NU BZ CAmount fN fU fZ fdN fdU fdZ) {flowest : Addr} {fdlowest : FuncData} (Dlowest : DefAt K mg "lowest" stlowest ["top", "bottom"] flowest fdlowest) {fratio_over : Addr} {fdratio_over : FuncData} (Dratio_over : DefAt K mg "ratio_over" stratio_over ["one", "other"] fratio_over fdratio_over) : FnOk P w K mg base CX0 2 fratio_over fdratio_over ["one", "other"] spTwoO := by
  have OKlowest : FnOk P w K mg base CX0 1 flowest fdlowest ["top", "bottom"] spLowG := oklowest B Es Dlowest
  refine Dratio_over.F.ok scratio_over (fun vs H Q E h => ?_) (fun cdv A outer s H vs Q E hr h => ?_)
  · obtain ⟨s, t, a, c, b, d, rfl, _⟩ := h; rfl
  · have hu := hu_of hr
    refine ⟨_, (pss_one (ps_ret (pe_call OKlowest (hr.mono (by decide)) rfl Dlowest.m Dlowest.F.kp Dlowest.b .nil pass0 (pa_cons (pe_op op_mulW (pe_ix ix_tup (pv 0) pe_int (fun _ _ => rfl)) (pe_ix ix_tup (pv 1) pe_int (fun _ _ => rfl))) (pa_cons (pe_op op_mulW (pe_ix ix_tup (pv 0) pe_int (fun _ _ => rfl)) (pe_ix ix_tup (pv 1) pe_int (fun _ _ => rfl))) pa_nil))))), ?_⟩
    obtain ⟨s, t, a, c, b, d, rfl, hs, ht, ⟨b0, ma, mb⟩, ⟨d0, mc, md⟩, hc, q⟩ := h
    have mb' : ((b : Nat) : Int).natAbs < 2 ^ 6000 := by rw [Int.natAbs_natCast]; exact mb
    have md' : ((d : Nat) : Int).natAbs < 2 ^ 6000 := by rw [Int.natAbs_natCast]; exact md
    have ad := mid_mul ma md'
    have bc := mid_mul mb' mc
    have hs' := SqT.of (K := K) hs
    have ht' := SqT.of (K := K) ht
    refine ⟨_, rfl, s, _, _, _, rfl, rfl, hs', rfl, _, rfl, t, _, _, _, rfl, rfl, ht', rfl, _, _, rfl, rfl, ad.1, _, rfl, s, _, _, _, rfl, rfl, hs', rfl, _, rfl, t, _, _, _, rfl, rfl, ht', rfl, _, _, rfl, rfl, bc.1, _, _, rfl, (mid_div (up12 ad.2) (up12 bc.2)).1, Int.mul_ne_zero (by omega) hc, fun u hu => ?_⟩
    have z := q u hu
    rw [ovR_eq _ _ _ _ b0 hc]
    exact z
abbrev stwhole_power : Stmt := top 18
theorem scwhole_power : FnScope ["base", "n", "result"] ["base", "n"] (defScope stwhole_power) := ⟨rfl, rfl, rfl, by decide +kernel, rfl, by decide +kernel, by decide +kernel⟩
theorem okwhole_power (B : Blt mg) {BT BN UL NU BZ CAmount fN fU fZ : Addr} {fdN fdU fdZ : FuncData} (Es : ErA K mg BT BN UL NU BZ CAmount fN fU fZ fdN fdU fdZ) {fwhole_power : Addr} {fdwhole_power : FuncData} (Dwhole_power : DefAt K mg "whole_power" stwhole_power ["base", "n"] fwhole_power fdwhole_power) : FnOk P w K mg base CX0 1 fwhole_power fdwhole_power ["base", "n"] spPow := by
  refine Dwhole_power.F.ok scwhole_power (fun vs H Q E h => ?_) (fun cdv A outer s H vs Q E hr h => ?_)
  · obtain ⟨b, n, a, rfl, _⟩ := h; rfl
  · have hu := hu_of hr
    refine ⟨_, (pss_cons (ps_set (i := 2) scwhole_power.nd rfl (Or.inl rfl) pe_int)
    (pss_cons (ps_while PassesOwn.never (pt_truth (pv 1) (fun _ => rfl)) (Evl.pss_cut (ps_if (pt_truth (pe_op op_odd (pv 1) pe_int) (fun _ => rfl)) (pss_one (ps_set (i := 2) scwhole_power.nd rfl (Or.inl rfl) (pe_op op_mulW (pv 2) (pv 0)))) pss_nil)
    (pss_cons (ps_set (i := 1) scwhole_power.nd rfl (Or.inl rfl) (pe_op op_halfN (pv 1) pe_int))
    (pss_one (ps_if (pt_truth (pv 1) (fun _ => rfl)) (pss_one (ps_set (i := 0) scwhole_power.nd rfl (Or.inl rfl) (pe_op op_mulW (pv 0) (pv 0)))) pss_nil)))))
    (pss_one (ps_ret (pv 2))))), ?_⟩
    obtain ⟨b, n, a, rfl, hb, ha, han, hal, q⟩ := h
    have pw : ∀ e : Nat, (b ^ e).natAbs < 2 ^ (a * e + 1) := fun e => by
      rw [Int.natAbs_pow]
      refine Nat.lt_of_le_of_lt (Nat.pow_le_pow_left (Nat.le_of_lt hb) e) ?_
      rw [← Nat.pow_mul]
      exact Nat.pow_lt_pow_right (by decide) (by omega)
    have mulOk : ∀ e1 e2 : Nat, e1 ≤ n ∨ e1 ≤ 1 → e2 ≤ n ∨ e2 ≤ 1 → CMulW (b ^ e1) (b ^ e2) := fun e1 e2 h1 h2 => by
      have c : ∀ e, e ≤ n ∨ e ≤ 1 → a * e ≤ 400000 := fun e h => by
        rcases h with h | h
        · exact Nat.le_trans (Nat.mul_le_mul_left a h) han
        · exact Nat.le_trans (Nat.mul_le_mul_left a h) (by omega)
      have c1 := c e1 h1
      have c2 := c e2 h2
      exact wide_mul (pw e1) (pw e2) (by omega) (by omega) (by omega)
    refine ⟨fun m σ H' => H' = H ∧ ∃ e1 e2 k : Nat, m = k ∧ σ = [some (.int (b ^ e2)), some (.int (k : Int)), some (.int (b ^ e1))] ∧ e1 + e2 * k = n ∧ (e2 ≤ n ∨ e2 ≤ 1), ⟨n, rfl, 0, 1, n, rfl, ?_, by omega, .inr (by decide)⟩, ?_⟩
    · rw [show b ^ 1 = b by rw [Int.pow_succ, Int.pow_zero, Int.one_mul], Int.pow_zero]; rfl
    rintro m σ H1 ⟨rfl, e1, e2, k, rfl, rfl, hk, he⟩
    refine ⟨_, rfl, _, rfl, ?_⟩
    refine ite2 (fun hz => ?_) (fun hz => ?_)
    · have hk0 : m ≠ 0 := fun z => by subst z; exact absurd hz (by decide)
      have he1 : e1 ≤ n := by omega
      have he2 : e2 ≤ n := by
        have : e2 * 1 ≤ e2 * m := Nat.mul_le_mul_left e2 (by omega)
        omega
      refine ⟨fun σ' H' => H' = H1 ∧ ∃ f1 f2 k' : Nat, k' < m ∧ σ' = [some (.int (b ^ f2)), some (.int (k' : Int)), some (.int (b ^ f1))] ∧ f1 + f2 * k' = n ∧ (f2 ≤ n ∨ f2 ≤ 1), ?_, ?_⟩
      · rintro σ' H' ⟨rfl, f1, f2, k', hk', rfl, e, he'⟩
        exact ⟨k', hk', rfl, f1, f2, k', rfl, rfl, e, he'⟩
      refine ⟨fun σ' H' => H' = H1 ∧ ∃ f1 : Nat, σ' = [some (.int (b ^ e2)), some (.int (m : Int)), some (.int (b ^ f1))] ∧ f1 + e2 * (2 * (m / 2)) = n, ?_, ?_⟩
      · refine ⟨_, rfl, m, rfl, rfl, _, rfl, ?_⟩
        refine ite2 (fun h1 => ?_) (fun h1 => ?_)
        · have h1' : m % 2 = 1 := by
            rcases Nat.mod_two_eq_zero_or_one m with z | z
            · rw [z] at h1; exact absurd h1 (by decide)
            · exact z
          refine ⟨_, rfl, _, rfl, _, _, rfl, rfl, mulOk e1 e2 (.inl he1) he, rfl, e1 + e2, ?_, ?_⟩
          · rw [Int.pow_add]; rfl
          · have e : e2 * m = e2 * (2 * (m / 2)) + e2 := by
              have : m = 2 * (m / 2) + 1 := by omega
              calc e2 * m = e2 * (2 * (m / 2) + 1) := by rw [← this]
                _ = _ := by rw [Nat.mul_add, Nat.mul_one]
            omega
        · have h1' : m % 2 = 0 := by
            rcases Nat.mod_two_eq_zero_or_one m with z | z
            · exact z
            · rw [z] at h1; exact absurd (by decide) h1
          refine ⟨rfl, e1, rfl, ?_⟩
          rw [show 2 * (m / 2) = m by omega]
          exact hk
      rintro σ' H' ⟨rfl, f1, rfl, hf⟩
      refine ⟨_, rfl, m, rfl, rfl, ?_⟩
      refine ⟨_, rfl, _, rfl, ?_⟩
      have emul : e2 * (2 * (m / 2)) = e2 * 2 * (m / 2) := by rw [Nat.mul_assoc]
      refine ite2 (fun h1 => ?_) (fun h1 => ?_)
      · have h1' : m / 2 ≠ 0 := fun z => by rw [z] at h1; exact absurd h1 (by decide)
        refine ⟨_, rfl, _, rfl, _, _, rfl, rfl, mulOk e2 e2 he he, rfl, f1, e2 * 2, m / 2, by omega, ?_, by rw [← emul]; exact hf, .inl ?_⟩
        · rw [show e2 * 2 = e2 + e2 by omega, Int.pow_add]; rfl
        · have : e2 * 2 * 1 ≤ e2 * 2 * (m / 2) := Nat.mul_le_mul_left _ (by omega)
          omega
      · have h1' : m / 2 = 0 := by
          rcases Nat.eq_zero_or_pos (m / 2) with z | z
          · exact z
          · exact absurd (by
              show (((m / 2 : Nat) : Int) != 0) = true
              rw [bne_iff_ne]; omega) h1
        exact ⟨rfl, f1, e2, m / 2, by omega, rfl, by rw [h1']; rw [h1'] at hf; exact hf, .inl he2⟩
    · have hk0 : m = 0 := by
        rcases Nat.eq_zero_or_pos m with z | z
        · exact z
        · exact absurd (by
            show ((m : Int) != 0) = true
            rw [bne_iff_ne]; omega) hz
      subst hk0
      have : e1 = n := by omega
      subst this
      exact ⟨_, rfl, q⟩
abbrev stratio_power : Stmt := top 19
theorem scratio_power : FnScope ["ratio", "n", "top", "bottom"] ["ratio", "n"] (defScope stratio_power) := ⟨rfl, rfl, rfl, by decide +kernel, rfl, by decide +kernel, by decide +kernel⟩
theorem okratio_power (B : Blt mg) {BT BN UL NU BZ CAmount fN fU fZ : Addr} {fdN fdU fdZ : FuncData} (Es : ErA K mg BT BN UL NU BZ CAmount fN fU fZ fdN fdU fdZ) {flowest : Addr} {fdlowest : FuncData} (Dlowest : DefAt K mg "lowest" stlowest ["top", "bottom"] flowest fdlowest) {fwhole_power : Addr} {fdwhole_power : FuncData} (Dwhole_power : DefAt K mg "whole_power" stwhole_power ["base", "n"] fwhole_power fdwhole_power) {fratio_power : Addr} {fdratio_power : FuncData} (Dratio_power : DefAt K mg "ratio_power" stratio_power ["ratio", "n"] fratio_power fdratio_power) : FnOk P w K mg base CX0 2 fratio_power fdratio_power ["ratio", "n"] spPowR := by
  have OKlowest : FnOk P w K mg base CX0 1 flowest fdlowest ["top", "bottom"] spLowG := oklowest B Es Dlowest
  have OKwhole_power : FnOk P w K mg base CX0 1 fwhole_power fdwhole_power ["base", "n"] spPow := okwhole_power B Es Dwhole_power
  refine Dratio_power.F.ok scratio_power (fun vs H Q E h => ?_) (fun cdv A outer s H vs Q E hr h => ?_)
  · obtain ⟨s, a, b, n, rfl, _⟩ := h; rfl
  · have hu := hu_of hr
    refine ⟨_, (pss_cons (ps_asg (pv 0) (pg_tup rfl (pgs_cons (pg_name (i := 2) scratio_power.nd rfl (Or.inl rfl)) (pgs_cons (pg_name (i := 3) scratio_power.nd rfl (Or.inl rfl)) pgs_nil))))
    (pss_cons (ps_if (pt_cmpR op_lt (pv 1) pe_int (nomark _)) (pss_one (ps_ret (pe_call OKlowest (hr.mono (by decide)) rfl Dlowest.m Dlowest.F.kp Dlowest.b .nil pass0 (pa_cons (pe_call OKwhole_power (hr.mono (by decide)) rfl Dwhole_power.m Dwhole_power.F.kp Dwhole_power.b .nil pass0 (pa_cons (pv 3) (pa_cons (pe_un un_neg (pv 1)) pa_nil))) (pa_cons (pe_call OKwhole_power (hr.mono (by decide)) rfl Dwhole_power.m Dwhole_power.F.kp Dwhole_power.b .nil pass0 (pa_cons (pv 2) (pa_cons (pe_un un_neg (pv 1)) pa_nil))) pa_nil))))) pss_nil)
    (pss_one (ps_ret (pe_tup (pa_cons (pe_call OKwhole_power (hr.mono (by decide)) rfl Dwhole_power.m Dwhole_power.F.kp Dwhole_power.b .nil pass0 (pa_cons (pv 2) (pa_cons (pv 1) pa_nil))) (pa_cons (pe_call OKwhole_power (hr.mono (by decide)) rfl Dwhole_power.m Dwhole_power.F.kp Dwhole_power.b .nil pass0 (pa_cons (pv 3) (pa_cons (pv 1) pa_nil))) pa_nil))))))), ?_⟩
    obtain ⟨s, a, b, n, rfl, hs, sm, l, hn, h0, q⟩ := h
    have hs' := SqT.of (K := K) hs
    have pa : a.natAbs < 2 ^ 1000 := sm.1
    have pb : ((b : Nat) : Int).natAbs < 2 ^ 1000 := by rw [Int.natAbs_natCast]; exact sm.2
    have k6 : 1000 * n.natAbs ≤ 400000 := by omega
    refine ⟨_, rfl, s, _, rfl, hs', rfl, _, _, rfl, _, _, rfl, rfl, ?_⟩
    refine ⟨_, rfl, _, _, rfl, rfl, _, rfl, ?_⟩
    refine ite2 (fun hneg => ?_) (fun hneg => ?_)
    · have hneg' := of_decide_eq_true hneg
      have en : -n = ((n.natAbs : Nat) : Int) := by omega
      have a0 : a ≠ 0 := fun z => h0 ⟨hneg', z⟩
      have qe : pwR a b n = ovR ((b ^ n.natAbs : Nat) : Int) 1 (a ^ n.natAbs) 1 := by unfold pwR; rw [if_pos hneg']
      refine ⟨_, rfl, _, rfl, _, rfl, ?_⟩
      refine ⟨(b : Int), n.natAbs, 1000, (by rw [← en]; rfl), pb, by decide, k6, by decide, _, rfl, _, rfl, _, rfl, ?_⟩
      refine ⟨a, n.natAbs, 1000, (by rw [← en]; rfl), pa, by decide, k6, by decide, _, _, rfl, ?_, Int.pow_ne_zero a0, fun u hu => ?_⟩
      · refine (mid_div (up12 ?_) (up12 ?_)).1
        · rw [Int.natAbs_pow, Int.natAbs_natCast]; exact Nat.lt_of_lt_of_le (pow6 sm.2 hn) (Nat.pow_le_pow_right (by decide) (by decide))
        · rw [Int.natAbs_pow]; exact Nat.lt_of_lt_of_le (pow6 pa hn) (Nat.pow_le_pow_right (by decide) (by decide))
      · have z := q u hu
        have e := ovR_eq ((b ^ n.natAbs : Nat) : Int) 1 (a ^ n.natAbs) 1 (by decide) (Int.pow_ne_zero a0)
        rw [Int.natCast_one, Int.mul_one, Int.one_mul, Int.natCast_pow] at e
        rw [qe, Int.natCast_pow] at z
        rw [e]
        exact z
    · have hneg' : ¬ n < 0 := fun z => hneg (decide_eq_true z)
      have en : n = ((n.natAbs : Nat) : Int) := by omega
      have qe : pwR a b n = (a ^ n.natAbs, b ^ n.natAbs) := by unfold pwR; rw [if_neg hneg']
      refine ⟨_, rfl, _, rfl, a, n.natAbs, 1000, (by rw [← en]; rfl), pa, by decide, k6, by decide, _, rfl, _, rfl, (b : Int), n.natAbs, 1000, (by rw [← en]; rfl), pb, by decide, k6, by decide, (by show 2 ≤ sizeLine; decide), fun u hu => ?_⟩
      have z := q u hu
      rw [qe, Int.natCast_pow] at z
      exact z
end
end AL
set_option Elab.async false
set_option maxRecDepth 100000
set_option exponentiation.threshold 70000
set_option maxHeartbeats 1000000
namespace AL
open PySem L2 RZ
section
variable {P : Program} {w : World} {K : PySem.W.Frag} {mg : Str → Option Value} {base : Heap}

theorem make_ok {K : PySem.W.Frag} {CA BN t : Addr} {H : Hp} {Q : VK} {E : XK} {n : V} {es : List Int} {p : Int} {q : Nat} (ht : TupI H t es) (ne : es ≠ []) (le : es.length ≤ 60) (hr : RatV K H n (some (p, q))) (m : Mid p q) (l : Low p q)
    (k : ∀ z H', Same H H' → Amt CA H' z es p q → Q (.ref z) H') : ∀ x dx, H x = none → H dx = none → dx ≠ x → spIniA K CA BN [.ref x, .ref t, n] (upd (upd H dx (.own x)) x (.ins CA dx [])) (fun v H2 => v = .non ∧ Q (.ref x) H2) E := by
  intro x dx h1 h2 h3
  have s0 : Same H (upd (upd H dx (.own x)) x (.ins CA dx [])) := fun b o e => by
    rw [upd_ne (ne_of_none e h1), upd_ne (ne_of_none e h2)]; exact e
  refine ⟨x, dx, _, _, rfl, upd_same, .inr ⟨t, es, rfl, s0 _ _ ht, ne, le, .inr ⟨p, q, ratV_same hr s0, m, fun r H' kp hx hr' => ⟨rfl, ?_⟩⟩⟩⟩
  have s1 : Same H H' := fun b o e => kp b o (ne_of_none e h1) (s0 b o e)
  rw [nrm_low l] at hr'
  exact k x H' s1 ⟨⟨dx, t, r, hx, s1 _ _ ht, hr'⟩, ne, le, l, m⟩
theorem ratV_at {K : PySem.W.Frag} {H : Hp} {r : Addr} {p : Int} {q : Nat} (h : RatAt H r p q) (q0 : 0 < q) : RatV K H (.ref r) (some (p, q)) := .pair h q0


theorem walk_zipT {K : PySem.W.Frag} {a b : Addr} {xs ys : List V} {n : Nat} (hn : n = min xs.length ys.length) : Walk (ItzT K a b) n (fun H => SqT K H a xs ∧ SqT K H b ys) (YPair (fun i => xs[i]?) (fun i => ys[i]?)) := by
  subst hn
  refine ⟨fun i _ hi z => ?_, fun _ z => ⟨xs, ys, z.1, z.2, by omega⟩, fun i H v H' _ z y => ?_⟩
  · have k1 : i < xs.length := by omega
    have k2 : i < ys.length := by omega
    exact ⟨xs, ys, xs[i], ys[i], z.1, z.2, by simp [k1], by simp [k2]⟩
  · obtain ⟨T, x, y', e1, e2, e3, e4, e5⟩ := y
    exact ⟨T, x, y', e1, e2, e3, e4 xs z.1, e5 ys z.2⟩

abbrev stcheck_like : Stmt := top 22
theorem sccheck_like : FnScope ["one", "other"] ["one", "other"] (defScope stcheck_like) := ⟨rfl, rfl, rfl, by decide +kernel, rfl, by decide +kernel, by decide +kernel⟩
theorem okcheck_like (B : Blt mg) {BT BN UL NU BZ CAmount fN fU fZ : Addr} {fdN fdU fdZ : FuncData} (Es : ErA K mg BT BN UL NU BZ CAmount fN fU fZ fdN fdU fdZ) {fcheck_like : Addr} {fdcheck_like : FuncData} (Dcheck_like : DefAt K mg "check_like" stcheck_like ["one", "other"] fcheck_like fdcheck_like) : FnOk P w K mg base (L2.CX P w) 3 fcheck_like fdcheck_like ["one", "other"] (spLike CAmount UL) := by
  refine Dcheck_like.F.okX sccheck_like (fun vs H Q E h => ?_) (fun cdv A outer s H vs Q E hr h => ?_)
  · obtain ⟨x, y, es, fs, p, r, c, d, rfl, _⟩ := h; rfl
  · have hu := hu_of hr
    refine ⟨_, (pss_one (ps_if (pt_cmpR (op_neD hr.units) (pe_fld (pv 0) rfl) (pe_fld (pv 1) rfl) (nomark _)) (pss_one (ps_raiseC rfl (takes_of rfl rfl rfl rfl) Es.eU Es.iU (oki_Unlike Es.eU Es.iU) (hr.mono (by decide)) (by decide) rfl (pa_cons pe_int (pa_cons (pe_fld (pv 0) rfl) (pa_cons (pe_fld (pv 1) rfl) pa_nil))))) pss_nil)), ?_⟩
    obtain ⟨x, y, es, fs, p, r, c, d, rfl, hx, hy, q1, q2⟩ := h
    obtain ⟨dx, t, u, ex, et, eu⟩ := hx.ex
    obtain ⟨dy, t', u', ey, et', eu'⟩ := hy.ex
    refine ⟨_, rfl, x, _, dx, _, _, rfl, ex, Es.cl, Es.nE, flA_e _ _, _, rfl, y, _, dy, _, _, rfl, ey, Es.cl, Es.nE, flA_e _ _, _, _, dp_ints et, dp_ints et', shaped_ints _, shaped_ints _, _, rfl, ?_⟩
    rw [eqv_ints]
    by_cases h : es = fs
    · rw [decide_eq_true h]
      exact iteF (q1 h)
    · rw [decide_eq_false h]
      refine iteT ?_
      refine ⟨_, rfl, x, _, dx, _, _, rfl, ex, Es.cl, Es.nE, flA_e _ _, _, rfl, y, _, dy, _, _, rfl, ey, Es.cl, Es.nE, flA_e _ _, rfl, fun dd hd => ?_⟩
      exact q2 h t t' dd _ et et' hd (Same.refl _)
abbrev stA_init : Stmt := inClass (top 21) 0
theorem scA_init : FnScope ["self", "exponents", "number"] ["self", "exponents", "number"] (defScope stA_init) := ⟨rfl, rfl, rfl, by decide +kernel, rfl, by decide +kernel, by decide +kernel⟩
theorem okA_init (B : Blt mg) {BT BN UL NU BZ CAmount fN fU fZ : Addr} {fdN fdU fdZ : FuncData} (Es : ErA K mg BT BN UL NU BZ CAmount fN fU fZ fdN fdU fdZ) {fis_whole : Addr} {fdis_whole : FuncData} (Dis_whole : DefAt K mg "is_whole" stis_whole ["value"] fis_whole fdis_whole) {fare_integers : Addr} {fdare_integers : FuncData} (Dare_integers : DefAt K mg "are_integers" stare_integers ["items"] fare_integers fdare_integers) {flowest : Addr} {fdlowest : FuncData} (Dlowest : DefAt K mg "lowest" stlowest ["top", "bottom"] flowest fdlowest) {fas_ratio : Addr} {fdas_ratio : FuncData} (Das_ratio : DefAt K mg "as_ratio" stas_ratio ["value"] fas_ratio fdas_ratio) {fis_ratio : Addr} {fdis_ratio : FuncData} (Dis_ratio : DefAt K mg "is_ratio" stis_ratio ["value"] fis_ratio fdis_ratio) {fA_init : Addr} {fdA_init : FuncData} (DA_init : IniA K "__init__" "Amount.__init__" stA_init ["self", "exponents", "number"] CAmount fA_init fdA_init) : FnOk P w K mg base (L2.CX P w) 6 fA_init fdA_init ["self", "exponents", "number"] (spIniA K CAmount BN) := by
  have OKare_integers : FnOk P w K mg base CX0 2 fare_integers fdare_integers ["items"] (spAreG K) := okare_integers B Es Dis_whole Dare_integers
  have OKas_ratio : FnOk P w K mg base CX0 2 fas_ratio fdas_ratio ["value"] (spAsG K) := okas_ratio B Es Dlowest Das_ratio
  have OKis_ratio : FnOk P w K mg base CX0 3 fis_ratio fdis_ratio ["value"] (spIsRatV K) := okis_ratio B Es Dis_whole Dare_integers Dis_ratio
  refine DA_init.F.okX scA_init (fun vs H Q E h => ?_) (fun cdv A outer s H vs Q E hr h => ?_)
  · obtain ⟨x, dx, e, n, rfl, _⟩ := h; rfl
  · have hu := hu_of hr
    refine ⟨_, (pss_cons (ps_if (PW.pt (pw_or (pt_not (pt_val (pe_callB call_isi (by rfl) B.isinstance_ (by decide +kernel) (pa_cons (pv 1) (pa_cons (pe_bltn (v := .ty "tuple") (by rfl) B.tuple_ PyProof.Rows.Boot.«tuple» rfl) pa_nil))))) (pw_or (pt_cmpR op_eq (pe_callB call_len_seq (by rfl) B.len_ (by decide +kernel) (pa_cons (pv 1) pa_nil)) pe_int (nomark _)) (pw_or1 (pt_not (pt_val (pe_call OKare_integers (hr.mono (by decide)) rfl Dare_integers.m Dare_integers.F.kp Dare_integers.b .nil pass0 (pa_cons (pv 1) pa_nil)))))))) (pss_one (ps_raiseC rfl (takes_of rfl rfl rfl rfl) Es.eN Es.iN (oki_BadNumber Es.eN Es.iN) (hr.mono (by decide)) (by decide) rfl (pa_cons pe_str (pa_cons (pv 1) pa_nil)))) pss_nil)
    (pss_cons (ps_if (pt_not (pt_val (pe_call OKis_ratio (hr.mono (by decide)) rfl Dis_ratio.m Dis_ratio.F.kp Dis_ratio.b .nil pass0 (pa_cons (pv 2) pa_nil)))) (pss_one (ps_raiseC rfl (takes_of rfl rfl rfl rfl) Es.eN Es.iN (oki_BadNumber Es.eN Es.iN) (hr.mono (by decide)) (by decide) rfl (pa_cons pe_str (pa_cons (pv 2) pa_nil)))) pss_nil)
    (pss_cons (ps_fld (pv 0) (pv 1) rfl)
    (pss_one (ps_fld (pv 0) (pe_call OKas_ratio (hr.mono (by decide)) rfl Das_ratio.m Das_ratio.F.kp Das_ratio.b .nil pass0 (pa_cons (pv 2) pa_nil)) rfl))))), ?_⟩
    obtain ⟨x, dx, e, n, rfl, hx, h⟩ := h
    rcases h with ⟨be, q⟩ | ⟨t, es, rfl, ht, ne, le, h⟩
    · have bad : ∀ H1, Same H H1 → _ := fun H1 s1 d hd => q d H1 hd s1
      cases be with
      | @other x u h ht =>
        refine ⟨_, rfl, _, _, _, _, _, rfl, ClsV.ty _, h, ht, false, rfl, ?_⟩
        refine iteT ?_
        exact ⟨_, rfl, rfl, fun d hd => q d H hd (Same.refl _)⟩
      | @empty t h =>
        refine ⟨_, rfl, _, _, _, _, _, rfl, ClsV.ty _, TyX.base (.tup h), rfl, true, rfl, ?_⟩
        refine iteF ?_
        refine ⟨_, rfl, t, _, rfl, .inr (SqT.of h), rfl, true, rfl, ?_⟩
        refine iteT ?_
        exact ⟨_, rfl, rfl, fun d hd => q d H hd (Same.refl _)⟩
      | @item t xs f h ne hl hf no =>
        refine ⟨_, rfl, _, _, _, _, _, rfl, ClsV.ty _, TyX.base (.tup h), rfl, true, rfl, ?_⟩
        refine iteF ?_
        refine ⟨_, rfl, t, _, rfl, .inr (SqT.of h), rfl, _, rfl, ?_⟩
        rw [decide_eq_false (fun z => ne (List.eq_nil_of_length_eq_zero (by injection z with z; omega)))]
        refine iteF ?_
        refine ⟨_, rfl, t, xs, f, rfl, h, hl, hf, fun H1 s1 => ⟨_, rfl, ?_⟩⟩
        rw [no]
        refine iteT ?_
        exact ⟨_, rfl, rfl, fun d hd => q d H1 hd s1⟩
    · have lf : (es.map V.int).length ≤ 100 := by rw [List.length_map]; omega
      have all : (es.map V.int).all (fun _ => true) = true := by simp
      refine ⟨_, rfl, _, _, _, _, _, rfl, ClsV.ty _, TyX.base (.tup ht), rfl, true, rfl, ?_⟩
      refine iteF ?_
      refine ⟨_, rfl, t, _, rfl, .inr (SqT.of ht), rfl, _, rfl, ?_⟩
      rw [decide_eq_false (fun z => ne (by injection z with z; rw [List.length_map] at z; exact List.eq_nil_of_length_eq_zero (by omega)))]
      refine iteF ?_
      refine ⟨_, rfl, t, _, fun _ => true, rfl, ht, lf, ints_all es, fun H1 s1 => ⟨_, rfl, ?_⟩⟩
      rw [all]
      refine iteF ?_
      rcases h with ⟨rn, q⟩ | ⟨p, r, rn, hm, q⟩
      · refine ⟨_, rfl, n, none, rfl, ratV_same rn s1, fun H2 s2 => ⟨_, rfl, ?_⟩⟩
        refine iteT ?_
        exact ⟨_, rfl, rfl, fun d hd => q d H2 hd (s1.trans s2)⟩
      · refine ⟨_, rfl, n, some (p, r), rfl, ratV_same rn s1, fun H2 s2 => ⟨_, rfl, ?_⟩⟩
        refine iteF ?_
        have s12 := s1.trans s2
        refine ⟨_, rfl, _, rfl, x, CAmount, dx, _, rfl, s12 _ _ hx, Es.cl, Es.nE, (by show 0 < 1000; decide), ?_⟩
        have nx : ∀ {o : HO}, (∀ fs, o ≠ .ins CAmount dx fs) → True := fun _ => trivial
        have rn2 : ∀ {fs : List (Str × V)}, RatV K (upd H2 x (.ins CAmount dx fs)) n (some (p, r)) := by
          intro fs
          have kk : ∀ b o, b ≠ x → H b = some o → upd H2 x (.ins CAmount dx fs) b = some o := fun b o hb e => by rw [upd_ne hb]; exact s12 _ _ e
          cases rn with
          | int i => exact .int _
          | @pair t2 p r h h0 => exact .pair (kk _ _ (fun z => by rw [z, hx] at h; cases h) h) h0
        refine ⟨_, rfl, n, p, r, rfl, rn2, hm, fun r0 hr0 => ?_⟩
        have nr : r0 ≠ x := fun z => by rw [z, upd_same] at hr0; cases hr0
        refine ⟨_, rfl, x, CAmount, dx, _, rfl, Eq.trans (upd_ne nr.symm) upd_same, Es.cl, Es.nN, (by show 1 < 1000; decide), ?_⟩
        refine q r0 _ (fun b o hb e => ?_) upd_same ?_
        · rw [upd_ne hb]
          have hbr : b ≠ r0 := fun z => by
            rw [z] at e hb
            have e2 := s12 _ _ e
            rw [upd_ne hb] at hr0
            rw [hr0] at e2
            cases e2
          rw [upd_ne hbr, upd_ne hb]
          exact s12 _ _ e
        · exact Eq.trans (upd_ne nr) upd_same
abbrev stA_add : Stmt := inClass (top 21) 1
theorem scA_add : FnScope ["self", "other"] ["self", "other"] (defScope stA_add) := ⟨rfl, rfl, rfl, by decide +kernel, rfl, by decide +kernel, by decide +kernel⟩
theorem okA_add (B : Blt mg) {BT BN UL NU BZ CAmount fN fU fZ : Addr} {fdN fdU fdZ : FuncData} (Es : ErA K mg BT BN UL NU BZ CAmount fN fU fZ fdN fdU fdZ) {fis_whole : Addr} {fdis_whole : FuncData} (Dis_whole : DefAt K mg "is_whole" stis_whole ["value"] fis_whole fdis_whole) {fare_integers : Addr} {fdare_integers : FuncData} (Dare_integers : DefAt K mg "are_integers" stare_integers ["items"] fare_integers fdare_integers) {flowest : Addr} {fdlowest : FuncData} (Dlowest : DefAt K mg "lowest" stlowest ["top", "bottom"] flowest fdlowest) {fas_ratio : Addr} {fdas_ratio : FuncData} (Das_ratio : DefAt K mg "as_ratio" stas_ratio ["value"] fas_ratio fdas_ratio) {fis_ratio : Addr} {fdis_ratio : FuncData} (Dis_ratio : DefAt K mg "is_ratio" stis_ratio ["value"] fis_ratio fdis_ratio) {fA_init : Addr} {fdA_init : FuncData} (DA_init : IniA K "__init__" "Amount.__init__" stA_init ["self", "exponents", "number"] CAmount fA_init fdA_init) {fcheck_like : Addr} {fdcheck_like : FuncData} (Dcheck_like : DefAt K mg "check_like" stcheck_like ["one", "other"] fcheck_like fdcheck_like) {fratio_sum : Addr} {fdratio_sum : FuncData} (Dratio_sum : DefAt K mg "ratio_sum" stratio_sum ["one", "other"] fratio_sum fdratio_sum) {fA_add : Addr} {fdA_add : FuncData} (DA_add : MetA K "__add__" "Amount.__add__" stA_add ["self", "other"] CAmount fA_add fdA_add) : FnOk P w K mg base (L2.CX P w) 9 fA_add fdA_add ["self", "other"] (spSumA CAmount UL sumR) := by
  have OKA_init : FnOk P w K mg base (L2.CX P w) 6 fA_init fdA_init ["self", "exponents", "number"] (spIniA K CAmount BN) := okA_init B Es Dis_whole Dare_integers Dlowest Das_ratio Dis_ratio DA_init
  have OKcheck_like : FnOk P w K mg base (L2.CX P w) 3 fcheck_like fdcheck_like ["one", "other"] (spLike CAmount UL) := okcheck_like B Es Dcheck_like
  have OKratio_sum : FnOk P w K mg base CX0 1 fratio_sum fdratio_sum ["one", "other"] (spTwoL sumR) := okratio_sum B Es Dratio_sum
  refine DA_add.F.okX scA_add (fun vs H Q E h => ?_) (fun cdv A outer s H vs Q E hr h => ?_)
  · obtain ⟨x, y, es, fs, p, r, c, d, rfl, _⟩ := h; rfl
  · have hu := hu_of hr
    refine ⟨_, (pss_cons (ps_expr (pe_call OKcheck_like (hr.mono (by decide)) rfl Dcheck_like.m Dcheck_like.F.kp Dcheck_like.b .nil (passes_call (takes_of rfl rfl rfl rfl) (fun _ _ _ _ h => h)) (pa_cons (pv 0) (pa_cons (pv 1) pa_nil))))
    (pss_one (ps_ret (pe_make DA_init.M OKA_init (hr.mono (by decide)) rfl Es.mA DA_init.b .nil (passes_call (takes_of rfl rfl rfl rfl) (fun _ _ _ _ h => h)) (pa_cons (pe_fld (pv 0) rfl) (pa_cons (pe_call OKratio_sum (hr.mono (by decide)) rfl Dratio_sum.m Dratio_sum.F.kp Dratio_sum.b .nil pass0 (pa_cons (pe_fld (pv 0) rfl) (pa_cons (pe_fld (pv 1) rfl) pa_nil))) pa_nil)))))), ?_⟩
    obtain ⟨x, y, es, fs, p, r, c, d, rfl, hx, hy, sx, sy, q1, q2⟩ := h
    
    obtain ⟨dx, t, u, ex, et, eu⟩ := hx.ex
    obtain ⟨dy, t', u', ey, et', eu'⟩ := hy.ex
    
    refine ⟨_, rfl, _, rfl, x, y, es, fs, p, r, c, d, rfl, hx, hy, fun e => ?_, q2⟩
    obtain ⟨lo, mi⟩ := sum_ok sx sy hx.low.1 hy.low.1
    refine ⟨_, rfl, x, _, dx, _, _, rfl, ex, Es.cl, Es.nE, flA_e _ _, _, rfl, x, _, dx, _, _, rfl, ex, Es.cl, Es.nN, flA_n _ _, _, rfl, y, _, dy, _, _, rfl, ey, Es.cl, Es.nN, flA_n _ _, u, u', p, c, r, d, rfl, eu, eu', hx.mid, hy.mid, hx.low, hy.low, fun v hv => ?_⟩
    have n1 := AL.Same.new (o := .tup [.int (sumR p r c d).1, .int ((sumR p r c d).2 : Int)]) hv
    exact make_ok (n1 _ _ et) hx.ne hx.le (ratV_at upd_same lo.1) mi lo fun z H' s a => q1 e z H' (n1.trans s) a
abbrev stA_sub : Stmt := inClass (top 21) 2
theorem scA_sub : FnScope ["self", "other"] ["self", "other"] (defScope stA_sub) := ⟨rfl, rfl, rfl, by decide +kernel, rfl, by decide +kernel, by decide +kernel⟩
theorem okA_sub (B : Blt mg) {BT BN UL NU BZ CAmount fN fU fZ : Addr} {fdN fdU fdZ : FuncData} (Es : ErA K mg BT BN UL NU BZ CAmount fN fU fZ fdN fdU fdZ) {fis_whole : Addr} {fdis_whole : FuncData} (Dis_whole : DefAt K mg "is_whole" stis_whole ["value"] fis_whole fdis_whole) {fare_integers : Addr} {fdare_integers : FuncData} (Dare_integers : DefAt K mg "are_integers" stare_integers ["items"] fare_integers fdare_integers) {flowest : Addr} {fdlowest : FuncData} (Dlowest : DefAt K mg "lowest" stlowest ["top", "bottom"] flowest fdlowest) {fas_ratio : Addr} {fdas_ratio : FuncData} (Das_ratio : DefAt K mg "as_ratio" stas_ratio ["value"] fas_ratio fdas_ratio) {fis_ratio : Addr} {fdis_ratio : FuncData} (Dis_ratio : DefAt K mg "is_ratio" stis_ratio ["value"] fis_ratio fdis_ratio) {fA_init : Addr} {fdA_init : FuncData} (DA_init : IniA K "__init__" "Amount.__init__" stA_init ["self", "exponents", "number"] CAmount fA_init fdA_init) {fcheck_like : Addr} {fdcheck_like : FuncData} (Dcheck_like : DefAt K mg "check_like" stcheck_like ["one", "other"] fcheck_like fdcheck_like) {fratio_sum : Addr} {fdratio_sum : FuncData} (Dratio_sum : DefAt K mg "ratio_sum" stratio_sum ["one", "other"] fratio_sum fdratio_sum) {fratio_minus : Addr} {fdratio_minus : FuncData} (Dratio_minus : DefAt K mg "ratio_minus" stratio_minus ["one", "other"] fratio_minus fdratio_minus) {fA_sub : Addr} {fdA_sub : FuncData} (DA_sub : MetA K "__sub__" "Amount.__sub__" stA_sub ["self", "other"] CAmount fA_sub fdA_sub) : FnOk P w K mg base (L2.CX P w) 9 fA_sub fdA_sub ["self", "other"] (spSumA CAmount UL difR) := by
  have OKA_init : FnOk P w K mg base (L2.CX P w) 6 fA_init fdA_init ["self", "exponents", "number"] (spIniA K CAmount BN) := okA_init B Es Dis_whole Dare_integers Dlowest Das_ratio Dis_ratio DA_init
  have OKcheck_like : FnOk P w K mg base (L2.CX P w) 3 fcheck_like fdcheck_like ["one", "other"] (spLike CAmount UL) := okcheck_like B Es Dcheck_like
  have OKratio_minus : FnOk P w K mg base CX0 2 fratio_minus fdratio_minus ["one", "other"] (spTwoS difR) := okratio_minus B Es Dratio_sum Dratio_minus
  refine DA_sub.F.okX scA_sub (fun vs H Q E h => ?_) (fun cdv A outer s H vs Q E hr h => ?_)
  · obtain ⟨x, y, es, fs, p, r, c, d, rfl, _⟩ := h; rfl
  · have hu := hu_of hr
    refine ⟨_, (pss_cons (ps_expr (pe_call OKcheck_like (hr.mono (by decide)) rfl Dcheck_like.m Dcheck_like.F.kp Dcheck_like.b .nil (passes_call (takes_of rfl rfl rfl rfl) (fun _ _ _ _ h => h)) (pa_cons (pv 0) (pa_cons (pv 1) pa_nil))))
    (pss_one (ps_ret (pe_make DA_init.M OKA_init (hr.mono (by decide)) rfl Es.mA DA_init.b .nil (passes_call (takes_of rfl rfl rfl rfl) (fun _ _ _ _ h => h)) (pa_cons (pe_fld (pv 0) rfl) (pa_cons (pe_call OKratio_minus (hr.mono (by decide)) rfl Dratio_minus.m Dratio_minus.F.kp Dratio_minus.b .nil pass0 (pa_cons (pe_fld (pv 0) rfl) (pa_cons (pe_fld (pv 1) rfl) pa_nil))) pa_nil)))))), ?_⟩
    obtain ⟨x, y, es, fs, p, r, c, d, rfl, hx, hy, sx, sy, q1, q2⟩ := h
    
    obtain ⟨dx, t, u, ex, et, eu⟩ := hx.ex
    obtain ⟨dy, t', u', ey, et', eu'⟩ := hy.ex
    
    refine ⟨_, rfl, _, rfl, x, y, es, fs, p, r, c, d, rfl, hx, hy, fun e => ?_, q2⟩
    obtain ⟨lo, mi⟩ := sum_ok sx (sm_neg sy) hx.low.1 hy.low.1
    refine ⟨_, rfl, x, _, dx, _, _, rfl, ex, Es.cl, Es.nE, flA_e _ _, _, rfl, x, _, dx, _, _, rfl, ex, Es.cl, Es.nN, flA_n _ _, _, rfl, y, _, dy, _, _, rfl, ey, Es.cl, Es.nN, flA_n _ _, u, u', p, c, r, d, rfl, eu, eu', hx.mid, hy.mid, hx.low, hy.low, fun v H1 n1 hv => ?_⟩
    rw [dif_eq] at hv
    exact make_ok (n1 _ _ et) hx.ne hx.le (ratV_at hv lo.1) mi lo fun z H' s a => q1 e z H' (n1.trans s) (by rw [dif_eq]; exact a)
abbrev stA_less : Stmt := inClass (top 21) 6
theorem scA_less : FnScope ["self", "other"] ["self", "other"] (defScope stA_less) := ⟨rfl, rfl, rfl, by decide +kernel, rfl, by decide +kernel, by decide +kernel⟩
theorem okA_less (B : Blt mg) {BT BN UL NU BZ CAmount fN fU fZ : Addr} {fdN fdU fdZ : FuncData} (Es : ErA K mg BT BN UL NU BZ CAmount fN fU fZ fdN fdU fdZ) {fcheck_like : Addr} {fdcheck_like : FuncData} (Dcheck_like : DefAt K mg "check_like" stcheck_like ["one", "other"] fcheck_like fdcheck_like) {fA_less : Addr} {fdA_less : FuncData} (DA_less : MetA K "less" "Amount.less" stA_less ["self", "other"] CAmount fA_less fdA_less) : FnOk P w K mg base (L2.CX P w) 6 fA_less fdA_less ["self", "other"] (spLessA CAmount UL) := by
  have OKcheck_like : FnOk P w K mg base (L2.CX P w) 3 fcheck_like fdcheck_like ["one", "other"] (spLike CAmount UL) := okcheck_like B Es Dcheck_like
  refine DA_less.F.okX scA_less (fun vs H Q E h => ?_) (fun cdv A outer s H vs Q E hr h => ?_)
  · obtain ⟨x, y, es, fs, p, r, c, d, rfl, _⟩ := h; rfl
  · have hu := hu_of hr
    refine ⟨_, (pss_cons (ps_expr (pe_call OKcheck_like (hr.mono (by decide)) rfl Dcheck_like.m Dcheck_like.F.kp Dcheck_like.b .nil (passes_call (takes_of rfl rfl rfl rfl) (fun _ _ _ _ h => h)) (pa_cons (pv 0) (pa_cons (pv 1) pa_nil))))
    (pss_one (ps_ret (pe_cmpR op_lt (pe_op op_mulW (pe_ix ix_tup (pe_fld (pv 0) rfl) pe_int (fun _ _ => rfl)) (pe_ix ix_tup (pe_fld (pv 1) rfl) pe_int (fun _ _ => rfl))) (pe_op op_mulW (pe_ix ix_tup (pe_fld (pv 1) rfl) pe_int (fun _ _ => rfl)) (pe_ix ix_tup (pe_fld (pv 0) rfl) pe_int (fun _ _ => rfl))) (nomark _))))), ?_⟩
    obtain ⟨x, y, es, fs, p, r, c, d, rfl, hx, hy, q1, q2⟩ := h
    
    obtain ⟨dx, t, u, ex, et, eu⟩ := hx.ex
    obtain ⟨dy, t', u', ey, et', eu'⟩ := hy.ex
    
    have gI : ∀ {x : Nat}, (x : Int).natAbs = x := fun {x} => Int.natAbs_natCast x
    have eu1 := SqT.of (K := K) eu
    have eu1' := SqT.of (K := K) eu'
    refine ⟨_, rfl, _, rfl, x, y, es, fs, p, r, c, d, rfl, hx, hy, fun e => ?_, q2⟩
    refine ⟨_, rfl, x, _, dx, _, _, rfl, ex, Es.cl, Es.nN, flA_n _ _, u, _, _, _, rfl, rfl, eu1, rfl, _, rfl, y, _, dy, _, _, rfl, ey, Es.cl, Es.nN, flA_n _ _, u', _, _, _, rfl, rfl, eu1', rfl, _, _, rfl, rfl, (mid_mul hx.mid.2.1 (by rw [gI]; exact hy.mid.2.2)).1, _, rfl, y, _, dy, _, _, rfl, ey, Es.cl, Es.nN, flA_n _ _, u', _, _, _, rfl, rfl, eu1', rfl, _, rfl, x, _, dx, _, _, rfl, ex, Es.cl, Es.nN, flA_n _ _, u, _, _, _, rfl, rfl, eu1, rfl, _, _, rfl, rfl, (mid_mul hy.mid.2.1 (by rw [gI]; exact hx.mid.2.2)).1, _, _, rfl, rfl, q1 e⟩
abbrev stA_neg : Stmt := inClass (top 21) 4
theorem scA_neg : FnScope ["self"] ["self"] (defScope stA_neg) := ⟨rfl, rfl, rfl, by decide +kernel, rfl, by decide +kernel, by decide +kernel⟩
theorem okA_neg (B : Blt mg) {BT BN UL NU BZ CAmount fN fU fZ : Addr} {fdN fdU fdZ : FuncData} (Es : ErA K mg BT BN UL NU BZ CAmount fN fU fZ fdN fdU fdZ) {fis_whole : Addr} {fdis_whole : FuncData} (Dis_whole : DefAt K mg "is_whole" stis_whole ["value"] fis_whole fdis_whole) {fare_integers : Addr} {fdare_integers : FuncData} (Dare_integers : DefAt K mg "are_integers" stare_integers ["items"] fare_integers fdare_integers) {flowest : Addr} {fdlowest : FuncData} (Dlowest : DefAt K mg "lowest" stlowest ["top", "bottom"] flowest fdlowest) {fas_ratio : Addr} {fdas_ratio : FuncData} (Das_ratio : DefAt K mg "as_ratio" stas_ratio ["value"] fas_ratio fdas_ratio) {fis_ratio : Addr} {fdis_ratio : FuncData} (Dis_ratio : DefAt K mg "is_ratio" stis_ratio ["value"] fis_ratio fdis_ratio) {fA_init : Addr} {fdA_init : FuncData} (DA_init : IniA K "__init__" "Amount.__init__" stA_init ["self", "exponents", "number"] CAmount fA_init fdA_init) {fA_neg : Addr} {fdA_neg : FuncData} (DA_neg : MetA K "__neg__" "Amount.__neg__" stA_neg ["self"] CAmount fA_neg fdA_neg) : FnOk P w K mg base (L2.CX P w) 9 fA_neg fdA_neg ["self"] (spNegA CAmount) := by
  have OKA_init : FnOk P w K mg base (L2.CX P w) 6 fA_init fdA_init ["self", "exponents", "number"] (spIniA K CAmount BN) := okA_init B Es Dis_whole Dare_integers Dlowest Das_ratio Dis_ratio DA_init
  refine DA_neg.F.okX scA_neg (fun vs H Q E h => ?_) (fun cdv A outer s H vs Q E hr h => ?_)
  · obtain ⟨x, es, p, r, rfl, _⟩ := h; rfl
  · have hu := hu_of hr
    refine ⟨_, (pss_one (ps_ret (pe_make DA_init.M OKA_init (hr.mono (by decide)) rfl Es.mA DA_init.b .nil (passes_call (takes_of rfl rfl rfl rfl) (fun _ _ _ _ h => h)) (pa_cons (pe_fld (pv 0) rfl) (pa_cons (pe_tup (pa_cons (pe_un un_neg (pe_ix ix_tup (pe_fld (pv 0) rfl) pe_int (fun _ _ => rfl))) (pa_cons (pe_ix ix_tup (pe_fld (pv 0) rfl) pe_int (fun _ _ => rfl)) pa_nil))) pa_nil))))), ?_⟩
    obtain ⟨x, es, p, r, rfl, hx, q⟩ := h
    obtain ⟨dx, t, u, ex, et, eu⟩ := hx.ex
    have eu1 := SqT.of (K := K) eu
    refine ⟨_, rfl, x, _, dx, _, _, rfl, ex, Es.cl, Es.nE, flA_e _ _, _, rfl, x, _, dx, _, _, rfl, ex, Es.cl, Es.nN, flA_n _ _, u, _, _, _, rfl, rfl, eu1, rfl, _, rfl, _, rfl, x, _, dx, _, _, rfl, ex, Es.cl, Es.nN, flA_n _ _, u, _, _, _, rfl, rfl, eu1, rfl, (by show 2 ≤ sizeLine; decide), fun v hv => ?_⟩
    have n1 := AL.Same.new (o := .tup [.int (-p), .int (r : Int)]) hv
    exact make_ok (n1 _ _ et) hx.ne hx.le (ratV_at upd_same hx.low.1) ⟨hx.mid.1, by rw [Int.natAbs_neg]; exact hx.mid.2.1, hx.mid.2.2⟩ (low_neg hx.low) fun z H' s a => q z H' (n1.trans s) a
abbrev stA_eq : Stmt := inClass (top 21) 5
theorem scA_eq : FnScope ["self", "other"] ["self", "other"] (defScope stA_eq) := ⟨rfl, rfl, rfl, by decide +kernel, rfl, by decide +kernel, by decide +kernel⟩
theorem okA_eq (B : Blt mg) {BT BN UL NU BZ CAmount fN fU fZ : Addr} {fdN fdU fdZ : FuncData} (Es : ErA K mg BT BN UL NU BZ CAmount fN fU fZ fdN fdU fdZ) {fA_eq : Addr} {fdA_eq : FuncData} (DA_eq : MetA K "__eq__" "Amount.__eq__" stA_eq ["self", "other"] CAmount fA_eq fdA_eq) : FnOk P w K mg base (L2.CX P w) 3 fA_eq fdA_eq ["self", "other"] (spEqA K CAmount) := by
  refine DA_eq.F.okX scA_eq (fun vs H Q E h => ?_) (fun cdv A outer s H vs Q E hr h => ?_)
  · obtain ⟨x, v, es, p, r, rfl, _⟩ := h; rfl
  · have hu := hu_of hr
    refine ⟨_, (pss_one (ps_ret (pe_and (pe_callB call_isi (by rfl) B.isinstance_ (by decide +kernel) (pa_cons (pv 1) (pa_cons (pe_glob (v := .ref CAmount) rfl Es.mA rfl) pa_nil))) (pe_and (pe_cmpR (op_eqD hr.units) (pe_fld (pv 0) rfl) (pe_fld (pv 1) rfl) (nomark _)) (pe_one (pe_cmpR (op_eqD hr.units) (pe_fld (pv 0) rfl) (pe_fld (pv 1) rfl) (nomark _))))))), ?_⟩
    obtain ⟨x, v, es, p, r, rfl, hx, h⟩ := h
    obtain ⟨dx, t, u, ex, et, eu⟩ := hx.ex
    rcases h with ⟨y, fs, c, d, rfl, hy, q⟩ | ⟨tb, ty, kt, q⟩
    · obtain ⟨dy, t', u', ey, et', eu'⟩ := hy.ex
      refine ⟨_, rfl, _, _, _, _, _, rfl, ClsV.own _, TyX.base (.ins ey Es.cl Es.c1 Es.c2 Es.c3 Es.c4), Es.k1, true, rfl, ?_⟩
      refine iteT ?_
      refine ⟨_, rfl, x, _, dx, _, _, rfl, ex, Es.cl, Es.nE, flA_e _ _, _, rfl, y, _, dy, _, _, rfl, ey, Es.cl, Es.nE, flA_e _ _, _, _, dp_ints et, dp_ints et', shaped_ints _, shaped_ints _, _, rfl, ?_⟩
      rw [eqv_ints]
      by_cases h : es = fs
      · rw [decide_eq_true h] at q ⊢
        refine iteT ?_
        refine ⟨_, rfl, x, _, dx, _, _, rfl, ex, Es.cl, Es.nN, flA_n _ _, _, rfl, y, _, dy, _, _, rfl, ey, Es.cl, Es.nN, flA_n _ _, _, _, dp_ints (rat_ints eu), dp_ints (rat_ints eu'), shaped_ints _, shaped_ints _, ?_⟩
        rw [eqv_ints]
        have e : (decide ([p, (r : Int)] = [c, (d : Int)])) = decide (p = c ∧ r = d) := by
          by_cases z : p = c ∧ r = d
          · rw [decide_eq_true z]; exact decide_eq_true (by rw [z.1, z.2])
          · rw [decide_eq_false z]; exact decide_eq_false (fun w => z ⟨by injection w, by injection w with _ w; injection w with w; omega⟩)
        rw [e]
        exact q
      · rw [decide_eq_false h] at q ⊢
        exact iteF q
    · refine ⟨_, rfl, _, _, _, _, _, rfl, ClsV.own _, ty, kt, false, rfl, ?_⟩
      exact iteF q
abbrev stA_mul : Stmt := inClass (top 21) 3
theorem scA_mul : FnScope ["self", "other", "exponents", "a", "b"] ["self", "other"] (defScope stA_mul) := ⟨rfl, rfl, rfl, by decide +kernel, rfl, by decide +kernel, by decide +kernel⟩
theorem okA_mul (B : Blt mg) {BT BN UL NU BZ CAmount fN fU fZ : Addr} {fdN fdU fdZ : FuncData} (Es : ErA K mg BT BN UL NU BZ CAmount fN fU fZ fdN fdU fdZ) {fis_whole : Addr} {fdis_whole : FuncData} (Dis_whole : DefAt K mg "is_whole" stis_whole ["value"] fis_whole fdis_whole) {fare_integers : Addr} {fdare_integers : FuncData} (Dare_integers : DefAt K mg "are_integers" stare_integers ["items"] fare_integers fdare_integers) {flowest : Addr} {fdlowest : FuncData} (Dlowest : DefAt K mg "lowest" stlowest ["top", "bottom"] flowest fdlowest) {fas_ratio : Addr} {fdas_ratio : FuncData} (Das_ratio : DefAt K mg "as_ratio" stas_ratio ["value"] fas_ratio fdas_ratio) {fis_ratio : Addr} {fdis_ratio : FuncData} (Dis_ratio : DefAt K mg "is_ratio" stis_ratio ["value"] fis_ratio fdis_ratio) {fA_init : Addr} {fdA_init : FuncData} (DA_init : IniA K "__init__" "Amount.__init__" stA_init ["self", "exponents", "number"] CAmount fA_init fdA_init) {fratio_product : Addr} {fdratio_product : FuncData} (Dratio_product : DefAt K mg "ratio_product" stratio_product ["one", "other"] fratio_product fdratio_product) {fA_mul : Addr} {fdA_mul : FuncData} (DA_mul : MetA K "__mul__" "Amount.__mul__" stA_mul ["self", "other"] CAmount fA_mul fdA_mul) : FnOk P w K mg base (L2.CX P w) 9 fA_mul fdA_mul ["self", "other"] (spMulA CAmount) := by
  have OKA_init : FnOk P w K mg base (L2.CX P w) 6 fA_init fdA_init ["self", "exponents", "number"] (spIniA K CAmount BN) := okA_init B Es Dis_whole Dare_integers Dlowest Das_ratio Dis_ratio DA_init
  have OKratio_product : FnOk P w K mg base CX0 1 fratio_product fdratio_product ["one", "other"] (spTwoL mulR) := okratio_product B Es Dratio_product
  refine DA_mul.F.okX scA_mul (fun vs H Q E h => ?_) (fun cdv A outer s H vs Q E hr h => ?_)
  · obtain ⟨x, y, es, fs, p, r, c, d, rfl, _⟩ := h; rfl
  · have hu := hu_of hr
    refine ⟨_, (pss_cons (ps_setLc (i := 2) (own := [("a", 3), ("b", 4)]) (g := gTup K 2 (gCons (gName 3) (gCons (gName 4) gNil))) (tt := tYes) rfl scA_mul.nd rfl rfl (sw_true rfl rfl rfl (by decide +kernel)) (pi_zipA (by rfl) B.zip_ (pa_cons (pe_fld (pv 0) rfl) (pa_cons (pe_fld (pv 1) rfl) pa_nil))) (blkOk_by (own := [("a", 3), ("b", 4)]) (N := ["self", "other", "exponents", "a", "b"]) (sc := defScope stA_mul) (by decide +kernel)) (fun _ _ _ _ _ => (pg_tup rfl (pgs_cons (pg_name (i := 3) scA_mul.nd rfl (Or.inl rfl)) (pgs_cons (pg_name (i := 4) scA_mul.nd rfl (Or.inl rfl)) pgs_nil)))) (fun _ _ _ _ _ => pts_nil) (fun _ _ _ _ _ => (pe_op op_add (pv 3) (pv 4))))
    (pss_one (ps_ret (pe_make DA_init.M OKA_init (hr.mono (by decide)) rfl Es.mA DA_init.b .nil (passes_call (takes_of rfl rfl rfl rfl) (fun _ _ _ _ h => h)) (pa_cons (pe_callTy call_tuple_of (by rfl) B.tuple_ (by decide +kernel) (pa_cons (pv 2) pa_nil)) (pa_cons (pe_call OKratio_product (hr.mono (by decide)) rfl Dratio_product.m Dratio_product.F.kp Dratio_product.b .nil pass0 (pa_cons (pe_fld (pv 0) rfl) (pa_cons (pe_fld (pv 1) rfl) pa_nil))) pa_nil)))))), ?_⟩
    obtain ⟨x, y, es, fs, p, r, c, d, rfl, hx, hy, sx, sy, hl, q⟩ := h
    
    obtain ⟨dx, t, u, ex, et, eu⟩ := hx.ex
    obtain ⟨dy, t', u', ey, et', eu'⟩ := hy.ex
    
    obtain ⟨lo, mi⟩ := mul_ok sx sy hx.low.1 hy.low.1
    have le60 := hx.le
    refine ⟨_, rfl, x, _, dx, _, _, rfl, ex, Es.cl, Es.nE, flA_e _ _, _, rfl, y, _, dy, _, _, rfl, ey, Es.cl, Es.nE, flA_e _ _, _, _, _, _, rfl, .inr ⟨SqT.of et, SqT.of et', fun D hD => ?_⟩⟩
    refine lc_it (walk_zipT (K := K) (a := t) (b := t') (xs := es.map V.int) (ys := fs.map V.int) (n := es.length) (by rw [List.length_map, List.length_map]; omega)) (fun i H' => Same H H' ∧ H' D = some (.lst (((List.zipWith (· + ·) es fs).take i).map V.int))) ⟨AL.Same.new hD, upd_same⟩ (fun i H' _ hh => ⟨SqT.of (hh.1 _ _ et), SqT.of (hh.1 _ _ et')⟩) ?_ ?_
    · rintro i x H0 H1 hi ⟨s0, hd⟩ ⟨T0, v1, v2, rfl, hT, rfl, e1, e2⟩
      obtain ⟨z1, k1, rfl⟩ := map_int e1
      obtain ⟨z2, k2, rfl⟩ := map_int e2
      have hDT : D ≠ T0 := fun z => by rw [z, hT] at hd; cases hd
      have sT : Same H (upd H0 T0 (.tup [.int z1, .int z2])) := s0.trans (AL.Same.new hT)
      refine ⟨T0, _, rfl, SqT.of upd_same, rfl, _, _, rfl, _, _, rfl, rfl, rfl, ?_⟩
      refine ⟨_, rfl, _, rfl, _, _, rfl, rfl, _, Eq.trans (upd_ne hDT) hd, ?_, AL.Same.updn sT hD, ?_⟩
      · rw [List.length_map, List.length_take]
        exact Nat.lt_of_le_of_lt (by omega : _ ≤ 100) (by decide)
      · rw [upd_same, List.take_add_one, List.getElem?_zipWith, k1, k2]
        simp
    
    · rintro H1 ⟨s1, hd⟩
      rw [List.take_of_length_le (by rw [List.length_zipWith]; omega)] at hd
      have ne2 : List.zipWith (· + ·) es fs ≠ [] := fun z => by
        have e := congrArg List.length z
        rw [List.length_zipWith, List.length_nil] at e
        exact hx.ne (List.eq_nil_of_length_eq_zero (by omega))
      have le2 : (List.zipWith (· + ·) es fs).length ≤ 60 := by rw [List.length_zipWith]; have := hx.le; omega
      have ex1 := s1 _ _ ex
      have ey1 := s1 _ _ ey
      refine ⟨_, rfl, D, _, rfl, .inl ⟨SqL.of hd, fun T2 hT2 => ?_⟩⟩
      have n2 := AL.Same.new (o := .tup ((List.zipWith (· + ·) es fs).map V.int)) hT2
      have s2 := s1.trans n2
      refine ⟨_, rfl, x, _, dx, _, _, rfl, (n2 _ _ ex1), Es.cl, Es.nN, flA_n _ _, _, rfl, y, _, dy, _, _, rfl, (n2 _ _ ey1), Es.cl, Es.nN, flA_n _ _, u, u', p, c, r, d, rfl, s2 _ _ eu, s2 _ _ eu', hx.mid, hy.mid, hx.low, hy.low, fun v hv => ?_⟩
      have n3 := AL.Same.new (o := .tup [.int (mulR p r c d).1, .int ((mulR p r c d).2 : Int)]) hv
      exact make_ok (n3 _ _ upd_same) ne2 le2 (ratV_at upd_same lo.1) mi lo fun z H' s a => q z H' ((s2.trans n3).trans s) a
abbrev stA_over : Stmt := inClass (top 21) 7
theorem scA_over : FnScope ["self", "other", "exponents", "a", "b"] ["self", "other"] (defScope stA_over) := ⟨rfl, rfl, rfl, by decide +kernel, rfl, by decide +kernel, by decide +kernel⟩
theorem okA_over (B : Blt mg) {BT BN UL NU BZ CAmount fN fU fZ : Addr} {fdN fdU fdZ : FuncData} (Es : ErA K mg BT BN UL NU BZ CAmount fN fU fZ fdN fdU fdZ) {fis_whole : Addr} {fdis_whole : FuncData} (Dis_whole : DefAt K mg "is_whole" stis_whole ["value"] fis_whole fdis_whole) {fare_integers : Addr} {fdare_integers : FuncData} (Dare_integers : DefAt K mg "are_integers" stare_integers ["items"] fare_integers fdare_integers) {flowest : Addr} {fdlowest : FuncData} (Dlowest : DefAt K mg "lowest" stlowest ["top", "bottom"] flowest fdlowest) {fas_ratio : Addr} {fdas_ratio : FuncData} (Das_ratio : DefAt K mg "as_ratio" stas_ratio ["value"] fas_ratio fdas_ratio) {fis_ratio : Addr} {fdis_ratio : FuncData} (Dis_ratio : DefAt K mg "is_ratio" stis_ratio ["value"] fis_ratio fdis_ratio) {fA_init : Addr} {fdA_init : FuncData} (DA_init : IniA K "__init__" "Amount.__init__" stA_init ["self", "exponents", "number"] CAmount fA_init fdA_init) {fratio_over : Addr} {fdratio_over : FuncData} (Dratio_over : DefAt K mg "ratio_over" stratio_over ["one", "other"] fratio_over fdratio_over) {fA_over : Addr} {fdA_over : FuncData} (DA_over : MetA K "over" "Amount.over" stA_over ["self", "other"] CAmount fA_over fdA_over) : FnOk P w K mg base (L2.CX P w) 9 fA_over fdA_over ["self", "other"] (spOverA CAmount BZ) := by
  have OKA_init : FnOk P w K mg base (L2.CX P w) 6 fA_init fdA_init ["self", "exponents", "number"] (spIniA K CAmount BN) := okA_init B Es Dis_whole Dare_integers Dlowest Das_ratio Dis_ratio DA_init
  have OKratio_over : FnOk P w K mg base CX0 2 fratio_over fdratio_over ["one", "other"] spTwoO := okratio_over B Es Dlowest Dratio_over
  refine DA_over.F.okX scA_over (fun vs H Q E h => ?_) (fun cdv A outer s H vs Q E hr h => ?_)
  · obtain ⟨x, y, es, fs, p, r, c, d, rfl, _⟩ := h; rfl
  · have hu := hu_of hr
    refine ⟨_, (pss_cons (ps_if (pt_cmpR op_eq (pe_ix ix_tup (pe_fld (pv 1) rfl) pe_int (fun _ _ => rfl)) pe_int (nomark _)) (pss_one (ps_raiseC rfl (takes_of rfl rfl rfl rfl) Es.eZ Es.iZ (oki_ByZero Es.eZ Es.iZ) (hr.mono (by decide)) (by decide) rfl (pa_cons pe_int pa_nil))) pss_nil)
    (pss_cons (ps_setLc (i := 2) (own := [("a", 3), ("b", 4)]) (g := gTup K 2 (gCons (gName 3) (gCons (gName 4) gNil))) (tt := tYes) rfl scA_over.nd rfl rfl (sw_true rfl rfl rfl (by decide +kernel)) (pi_zipA (by rfl) B.zip_ (pa_cons (pe_fld (pv 0) rfl) (pa_cons (pe_fld (pv 1) rfl) pa_nil))) (blkOk_by (own := [("a", 3), ("b", 4)]) (N := ["self", "other", "exponents", "a", "b"]) (sc := defScope stA_over) (by decide +kernel)) (fun _ _ _ _ _ => (pg_tup rfl (pgs_cons (pg_name (i := 3) scA_over.nd rfl (Or.inl rfl)) (pgs_cons (pg_name (i := 4) scA_over.nd rfl (Or.inl rfl)) pgs_nil)))) (fun _ _ _ _ _ => pts_nil) (fun _ _ _ _ _ => (pe_op op_sub (pv 3) (pv 4))))
    (pss_one (ps_ret (pe_make DA_init.M OKA_init (hr.mono (by decide)) rfl Es.mA DA_init.b .nil (passes_call (takes_of rfl rfl rfl rfl) (fun _ _ _ _ h => h)) (pa_cons (pe_callTy call_tuple_of (by rfl) B.tuple_ (by decide +kernel) (pa_cons (pv 2) pa_nil)) (pa_cons (pe_call OKratio_over (hr.mono (by decide)) rfl Dratio_over.m Dratio_over.F.kp Dratio_over.b .nil pass0 (pa_cons (pe_fld (pv 0) rfl) (pa_cons (pe_fld (pv 1) rfl) pa_nil))) pa_nil))))))), ?_⟩
    obtain ⟨x, y, es, fs, p, r, c, d, rfl, hx, hy, sx, sy, hl, q0, q⟩ := h
    
    obtain ⟨dx, t, u, ex, et, eu⟩ := hx.ex
    obtain ⟨dy, t', u', ey, et', eu'⟩ := hy.ex
    
    refine ⟨_, rfl, y, _, dy, _, _, rfl, ey, Es.cl, Es.nN, flA_n _ _, u', _, _, _, rfl, rfl, SqT.of eu', rfl, rfl, _, rfl, ?_⟩
    refine ite2 (fun h0 => ?_) (fun h0 => ?_)
    · have hc : c = 0 := by have z := of_decide_eq_true h0; injection z
      exact ⟨rfl, fun dd hd => q0 hc dd hd⟩
    have hc : c ≠ 0 := fun z => h0 (by rw [z]; exact decide_eq_true rfl)
    obtain ⟨lo, mi⟩ := ov_ok sx sy hx.low.1 hc
    have le60 := hx.le
    refine ⟨_, rfl, x, _, dx, _, _, rfl, ex, Es.cl, Es.nE, flA_e _ _, _, rfl, y, _, dy, _, _, rfl, ey, Es.cl, Es.nE, flA_e _ _, _, _, _, _, rfl, .inr ⟨SqT.of et, SqT.of et', fun D hD => ?_⟩⟩
    refine lc_it (walk_zipT (K := K) (a := t) (b := t') (xs := es.map V.int) (ys := fs.map V.int) (n := es.length) (by rw [List.length_map, List.length_map]; omega)) (fun i H' => Same H H' ∧ H' D = some (.lst (((List.zipWith (· - ·) es fs).take i).map V.int))) ⟨AL.Same.new hD, upd_same⟩ (fun i H' _ hh => ⟨SqT.of (hh.1 _ _ et), SqT.of (hh.1 _ _ et')⟩) ?_ ?_
    · rintro i x H0 H1 hi ⟨s0, hd⟩ ⟨T0, v1, v2, rfl, hT, rfl, e1, e2⟩
      obtain ⟨z1, k1, rfl⟩ := map_int e1
      obtain ⟨z2, k2, rfl⟩ := map_int e2
      have hDT : D ≠ T0 := fun z => by rw [z, hT] at hd; cases hd
      have sT : Same H (upd H0 T0 (.tup [.int z1, .int z2])) := s0.trans (AL.Same.new hT)
      refine ⟨T0, _, rfl, SqT.of upd_same, rfl, _, _, rfl, _, _, rfl, rfl, rfl, ?_⟩
      refine ⟨_, rfl, _, rfl, _, _, rfl, rfl, _, Eq.trans (upd_ne hDT) hd, ?_, AL.Same.updn sT hD, ?_⟩
      · rw [List.length_map, List.length_take]
        exact Nat.lt_of_le_of_lt (by omega : _ ≤ 100) (by decide)
      · rw [upd_same, List.take_add_one, List.getElem?_zipWith, k1, k2]
        simp
    
    · rintro H1 ⟨s1, hd⟩
      rw [List.take_of_length_le (by rw [List.length_zipWith]; omega)] at hd
      have ne2 : List.zipWith (· - ·) es fs ≠ [] := fun z => by
        have e := congrArg List.length z
        rw [List.length_zipWith, List.length_nil] at e
        exact hx.ne (List.eq_nil_of_length_eq_zero (by omega))
      have le2 : (List.zipWith (· - ·) es fs).length ≤ 60 := by rw [List.length_zipWith]; have := hx.le; omega
      have ex1 := s1 _ _ ex
      have ey1 := s1 _ _ ey
      refine ⟨_, rfl, D, _, rfl, .inl ⟨SqL.of hd, fun T2 hT2 => ?_⟩⟩
      have n2 := AL.Same.new (o := .tup ((List.zipWith (· - ·) es fs).map V.int)) hT2
      have s2 := s1.trans n2
      refine ⟨_, rfl, x, _, dx, _, _, rfl, (n2 _ _ ex1), Es.cl, Es.nN, flA_n _ _, _, rfl, y, _, dy, _, _, rfl, (n2 _ _ ey1), Es.cl, Es.nN, flA_n _ _, u, u', p, c, r, d, rfl, s2 _ _ eu, s2 _ _ eu', hx.mid, hy.mid, hc, fun v hv => ?_⟩
      have n3 := AL.Same.new (o := .tup [.int (ovR p r c d).1, .int ((ovR p r c d).2 : Int)]) hv
      exact make_ok (n3 _ _ upd_same) ne2 le2 (ratV_at upd_same lo.1) mi lo fun z H' s a => q hc z H' ((s2.trans n3).trans s) a
abbrev stA_power : Stmt := inClass (top 21) 8
theorem scA_power : FnScope ["self", "n", "item"] ["self", "n"] (defScope stA_power) := ⟨rfl, rfl, rfl, by decide +kernel, rfl, by decide +kernel, by decide +kernel⟩
theorem okA_power (B : Blt mg) {BT BN UL NU BZ CAmount fN fU fZ : Addr} {fdN fdU fdZ : FuncData} (Es : ErA K mg BT BN UL NU BZ CAmount fN fU fZ fdN fdU fdZ) {fis_whole : Addr} {fdis_whole : FuncData} (Dis_whole : DefAt K mg "is_whole" stis_whole ["value"] fis_whole fdis_whole) {fare_integers : Addr} {fdare_integers : FuncData} (Dare_integers : DefAt K mg "are_integers" stare_integers ["items"] fare_integers fdare_integers) {flowest : Addr} {fdlowest : FuncData} (Dlowest : DefAt K mg "lowest" stlowest ["top", "bottom"] flowest fdlowest) {fas_ratio : Addr} {fdas_ratio : FuncData} (Das_ratio : DefAt K mg "as_ratio" stas_ratio ["value"] fas_ratio fdas_ratio) {fis_ratio : Addr} {fdis_ratio : FuncData} (Dis_ratio : DefAt K mg "is_ratio" stis_ratio ["value"] fis_ratio fdis_ratio) {fA_init : Addr} {fdA_init : FuncData} (DA_init : IniA K "__init__" "Amount.__init__" stA_init ["self", "exponents", "number"] CAmount fA_init fdA_init) {fwhole_power : Addr} {fdwhole_power : FuncData} (Dwhole_power : DefAt K mg "whole_power" stwhole_power ["base", "n"] fwhole_power fdwhole_power) {fratio_power : Addr} {fdratio_power : FuncData} (Dratio_power : DefAt K mg "ratio_power" stratio_power ["ratio", "n"] fratio_power fdratio_power) {fA_power : Addr} {fdA_power : FuncData} (DA_power : MetA K "power" "Amount.power" stA_power ["self", "n"] CAmount fA_power fdA_power) : FnOk P w K mg base (L2.CX P w) 9 fA_power fdA_power ["self", "n"] (spPowA K CAmount BN BZ) := by
  have OKA_init : FnOk P w K mg base (L2.CX P w) 6 fA_init fdA_init ["self", "exponents", "number"] (spIniA K CAmount BN) := okA_init B Es Dis_whole Dare_integers Dlowest Das_ratio Dis_ratio DA_init
  have OKis_whole : FnOk P w K mg base CX0 1 fis_whole fdis_whole ["value"] (spWholeV K) := okis_whole B Es Dis_whole
  have OKratio_power : FnOk P w K mg base CX0 2 fratio_power fdratio_power ["ratio", "n"] spPowR := okratio_power B Es Dlowest Dwhole_power Dratio_power
  refine DA_power.F.okX scA_power (fun vs H Q E h => ?_) (fun cdv A outer s H vs Q E hr h => ?_)
  · obtain ⟨x, v, es, p, r, rfl, _⟩ := h; rfl
  · have hu := hu_of hr
    refine ⟨_, (pss_cons (ps_if (pt_not (pt_val (pe_call OKis_whole (hr.mono (by decide)) rfl Dis_whole.m Dis_whole.F.kp Dis_whole.b .nil pass0 (pa_cons (pv 1) pa_nil)))) (pss_one (ps_raiseC rfl (takes_of rfl rfl rfl rfl) Es.eN Es.iN (oki_BadNumber Es.eN Es.iN) (hr.mono (by decide)) (by decide) rfl (pa_cons pe_str (pa_cons (pv 1) pa_nil)))) pss_nil)
    (Evl.pss_cut (ps_if (PW.pt (pw_and (pt_cmpR op_lt (pv 1) pe_int (nomark _)) (pw_and1 (pt_cmpR op_eq (pe_ix ix_tup (pe_fld (pv 0) rfl) pe_int (fun _ _ => rfl)) pe_int (nomark _))))) (pss_one (ps_raiseC rfl (takes_of rfl rfl rfl rfl) Es.eZ Es.iZ (oki_ByZero Es.eZ Es.iZ) (hr.mono (by decide)) (by decide) rfl (pa_cons pe_int pa_nil))) pss_nil)
    (pss_one (ps_ret (pe_make DA_init.M OKA_init (hr.mono (by decide)) rfl Es.mA DA_init.b .nil (passes_call (takes_of rfl rfl rfl rfl) (fun _ _ _ _ h => h)) (pa_cons (pe_callTy call_tuple_of (by rfl) B.tuple_ (by decide +kernel) (pa_cons (pe_lc (own := [("item", 2)]) (g := gName 2) (tt := tYes) rfl scA_power.nd (pi_tup (pe_fld (pv 0) rfl)) (blkOk_by (own := [("item", 2)]) (N := ["self", "n", "item"]) (sc := defScope stA_power) (by decide +kernel)) (fun _ _ _ _ _ => pg_name (i := 2) scA_power.nd rfl (Or.inl rfl)) (fun _ _ _ _ _ => pts_nil) (fun _ _ _ _ _ => (pe_op op_mul (pv 1) (pv 2)))) pa_nil)) (pa_cons (pe_call OKratio_power (hr.mono (by decide)) rfl Dratio_power.m Dratio_power.F.kp Dratio_power.b .nil pass0 (pa_cons (pe_fld (pv 0) rfl) (pa_cons (pv 1) pa_nil))) pa_nil))))))), ?_⟩
    obtain ⟨x, v, es, p, r, rfl, hx, sm, h⟩ := h
    obtain ⟨dx, t, u, ex, et, eu⟩ := hx.ex
    rcases h with ⟨w0, b, c, ty, kb, kc, no, q⟩ | ⟨n, rfl, hn, q0, q⟩
    · refine ⟨_, rfl, v, w0, b, c, rfl, ty, kb, kc, _, rfl, ?_⟩
      rw [no]
      refine iteT ?_
      exact ⟨_, rfl, rfl, fun dd hd => q dd hd⟩
    refine ⟨_, rfl, _, _, true, false, rfl, TyX.base (.int n), rfl, rfl, _, rfl, ?_⟩
    refine iteF ?_
    refine ⟨fun σ' H' => H' = H ∧ σ' = [some (.ref x), some (.int n), none] ∧ ¬ (n < 0 ∧ p = 0), ?_, ?_⟩
    · refine ⟨_, rfl, _, _, rfl, rfl, _, rfl, ?_⟩
      refine ite2 (fun h1 => ?_) (fun h1 => ?_)
      · refine ⟨_, rfl, x, _, dx, _, _, rfl, ex, Es.cl, Es.nN, flA_n _ _, u, _, _, _, rfl, rfl, SqT.of eu, rfl, rfl, _, rfl, ?_⟩
        refine ite2 (fun h2 => ?_) (fun h2 => ?_)
        · have hp : p = 0 := by have z := of_decide_eq_true h2; injection z
          exact ⟨rfl, fun dd hd => q0 ⟨of_decide_eq_true h1, hp⟩ dd hd⟩
        · exact ⟨rfl, rfl, fun z => h2 (by rw [z.2]; exact decide_eq_true rfl)⟩
      · exact iteF ⟨rfl, rfl, fun z => h1 (decide_eq_true z.1)⟩
    rintro σ1 H1 ⟨rfl, rfl, h0⟩
    have n1 : (-(2 ^ 64) : Int) ≤ n := by omega
    have n2 : n ≤ 2 ^ 64 := by omega
    refine ⟨_, rfl, x, _, dx, _, _, rfl, ex, Es.cl, Es.nE, flA_e _ _, t, rfl, ⟨_, SqT.of et⟩, fun D hD => ?_⟩
    refine lc_tup (K := K) (a := t) (xs := es.map V.int) (fun i H' => Same H1 H' ∧ H' D = some (.lst (((es.map (n * ·)).take i).map V.int))) ⟨AL.Same.new hD, upd_same⟩ (fun i H' _ hh => SqT.of (hh.1 _ _ et)) ?_ ?_
    · rintro i y H' hy ⟨s0, hd⟩
      obtain ⟨z1, k1, rfl⟩ := map_int hy
      have hi : i < es.length := (List.getElem?_eq_some_iff.mp k1).1
      refine ⟨rfl, ?_⟩
      refine ⟨_, rfl, _, rfl, _, _, rfl, rfl, .inl ⟨by omega, by omega⟩, _, hd, ?_, AL.Same.updn s0 hD, ?_⟩
      · rw [List.length_map, List.length_take, List.length_map]
        exact Nat.lt_of_le_of_lt (by have := hx.le; omega : _ ≤ 100) (by decide)
      · rw [upd_same, List.take_add_one, List.getElem?_map, k1]
        simp
    · rintro H2 ⟨s1, hd⟩
      rw [List.take_of_length_le (by rw [List.length_map, List.length_map]; exact Nat.le_refl _)] at hd
      obtain ⟨lo, mi⟩ := pw_ok sm hx.low hn h0
      have ne2 : es.map (n * ·) ≠ [] := fun z => hx.ne (List.map_eq_nil_iff.mp z)
      have le2 : (es.map (n * ·)).length ≤ 60 := by rw [List.length_map]; exact hx.le
      have ex1 := s1 _ _ ex
      refine ⟨D, _, rfl, .inl ⟨SqL.of hd, fun T2 hT2 => ?_⟩⟩
      have m2 := AL.Same.new (o := .tup ((es.map (n * ·)).map V.int)) hT2
      have s2 := s1.trans m2
      refine ⟨_, rfl, x, _, dx, _, _, rfl, (m2 _ _ ex1), Es.cl, Es.nN, flA_n _ _, _, rfl, u, p, r, n, rfl, s2 _ _ eu, sm, hx.low, hn, h0, fun v hv => ?_⟩
      have m3 := AL.Same.new (o := .tup [.int (pwR p r n).1, .int ((pwR p r n).2 : Int)]) hv
      exact make_ok (m3 _ _ upd_same) ne2 le2 (ratV_at upd_same lo.1) mi lo fun z H' s a => q h0 z H' ((s2.trans m3).trans s) a
end
end AL
set_option Elab.async false
set_option maxRecDepth 100000
set_option exponentiation.threshold 70000
set_option maxHeartbeats 1000000
namespace AL
open PySem L2 RZ
section
variable {P : Program} {w : World} {K : PySem.W.Frag} {mg : Str → Option Value} {base : Heap}

/-- small ratios in lowest terms -/
structure SN (a : Int) (b : Nat) : Prop where
  low : Low a b
  top : a.natAbs < 10 ^ 30
  bot : b < 100
theorem SN.sm {a : Int} {b : Nat} (h : SN a b) : Sm a b := ⟨Nat.lt_of_lt_of_le h.top (by decide +kernel), Nat.lt_of_lt_of_le h.bot (by decide +kernel)⟩
theorem SN.mid {a : Int} {b : Nat} (h : SN a b) : Mid a b := sm_mid h.sm h.low.1
/-- _law_ratio(pen, figures) -/
def spRatL : Sp := fun vs H Q _ => ∃ (p c : Addr) (m k : Nat), vs = [.ref p, .int (k : Int)] ∧ Pen H p c m ∧ m < 800000000 ∧ 0 < k ∧ k ≤ 30 ∧
  ∀ t a b H', SN a b → RatAt H' t a b → Pen H' p c (m + 300) → KeepP H H' → Q (.ref t) H'
/-- _law_passed(pen, ratio) -/
def spPassI (K : PySem.W.Frag) : Sp := fun vs H Q _ => ∃ (p c t : Addr) (m : Nat) (a : Int) (b : Nat), vs = [.ref p, .ref t] ∧ Pen H p c m ∧ m < 800000000 ∧ RatAt H t a b ∧ SN a b ∧
  ∀ v (k : Nat) H', 0 < k → k < 10 → RatV K H' v (some (a * (k : Int), b * k)) → Pen H' p c (m + 2) → KeepP H H' → Q v H'
def spSome : Sp := fun vs H Q _ => ∃ (p c : Addr) (m : Nat), vs = [.ref p] ∧ Pen H p c m ∧ m < 700000000 ∧
  ∀ t a b H', SN a b → RatAt H' t a b → Pen H' p c (m + 1000) → KeepP H H' → Q (.ref t) H'
def spIsAm (CA : Addr) : Sp := fun vs H Q _ => ∃ z t r es p q, vs = [.ref z, .ref t, .ref r] ∧ Amt CA H z es p q ∧ TupI H t es ∧ RatAt H r p q ∧ Q (.bl true) H

abbrev st_law_gcd : Stmt := top 28
theorem sc_law_gcd : FnScope ["_law_one", "_law_two", "_law_lap"] ["_law_one", "_law_two"] (defScope st_law_gcd) := ⟨rfl, rfl, rfl, by decide +kernel, rfl, by decide +kernel, by decide +kernel⟩
theorem ok_law_gcd (B : Blt mg)  {f_law_gcd : Addr} {fd_law_gcd : FuncData} (D_law_gcd : DefAt K mg "_law_gcd" st_law_gcd ["_law_one", "_law_two"] f_law_gcd fd_law_gcd) : FnOk P w K mg base CX0 1 f_law_gcd fd_law_gcd ["_law_one", "_law_two"] spGcdL := by
  refine D_law_gcd.F.ok sc_law_gcd (fun vs H Q E h => ?_) (fun cdv A outer s H vs Q E hr h => ?_)
  · obtain ⟨a, b, rfl, _⟩ := h; rfl
  · have hu := hu_of hr
    refine ⟨_, (pss_cons (ps_par (i := 0) (j := 1) (by rfl) sc_law_gcd.nd rfl rfl (by decide) rfl rfl (pa_cons (pe_callB call_abs (by rfl) B.abs_ (by decide +kernel) (pa_cons (pv 0) pa_nil)) (pa_cons (pe_callB call_abs (by rfl) B.abs_ (by decide +kernel) (pa_cons (pv 1) pa_nil)) pa_nil)) (by rfl))
    (pss_cons (ps_for PassesOwn.never rfl (pi_range1 rfl B.range_ (pa_cons pe_int pa_nil)) (pg_name (i := 2) sc_law_gcd.nd rfl (Or.inl rfl))
      (pss_cons (ps_if (pt_cmpR op_eq (pv 1) pe_int (nomark _)) (pss_one ps_break) pss_nil)
    (pss_one (ps_par (i := 0) (j := 1) (by rfl) sc_law_gcd.nd rfl rfl (by decide) rfl rfl (pa_cons (pv 1) (pa_cons (pe_op op_modN (pe_callTy call_int1 (by rfl) B.int_ (by decide +kernel) (pa_cons (pv 0) pa_nil)) (pv 1)) pa_nil)) (by rfl)))))
    (pss_one (ps_ret (pv 0))))), ?_⟩
    obtain ⟨a, b, rfl, ha, hb, q⟩ := h
    have eabs : ∀ i : Int, (if i < 0 then -i else i) = ((i.natAbs : Nat) : Int) := fun i => by split <;> omega
    refine ⟨_, rfl, _, rfl, _, rfl, _, rfl, _, _, rfl, ?_⟩
    refine ⟨_, rfl, by decide, by decide, for_range (lo := 0) (n := 60000) (fun i σ H' => ∃ (x y : Nat) (v : Option V), σ = [some (.int (x : Int)), some (.int (y : Int)), v] ∧ H' = H ∧ pairOk a.natAbs b.natAbs i x y) ⟨a.natAbs, b.natAbs, none, by rw [← eabs, ← eabs]; rfl, rfl, pairOk0 _ _⟩ ?_ ?_⟩
    · rintro i σ H' hi ⟨x, y, v, rfl, rfl, hp⟩
      refine ⟨_, rfl, rfl, _, rfl, ?_⟩
      refine ite2 (fun h0 => ?_) (fun h0 => ?_)
      · have hy0 : y = 0 := vi_eq (j := 0) h0
        subst hy0
        refine ⟨_, rfl, ?_⟩
        rw [pairOk_end hp]; exact q
      · have hy0 : y ≠ 0 := vi_ne (j := 0) h0
        refine ⟨_, rfl, _, rfl, .inl ⟨_, rfl, _, rfl, _, _, rfl, rfl, by show (y : Int) ≠ 0; omega, _, _, rfl, ?_⟩⟩
        refine ⟨y, x % y, some (.int (0 + (i : Int))), ?_, rfl, pairOk_step hp hy0⟩
        rw [← fmod_nat]
        rfl
    · rintro σ H' ⟨x, y, v, rfl, rfl, hp⟩
      have hy0 := pairOk_zero hp ha hb
      subst hy0
      refine ⟨_, rfl, ?_⟩
      rw [pairOk_end hp]; exact q
abbrev st_law_q : Stmt := top 29
theorem sc_law_q : FnScope ["_law_top", "_law_bottom", "_law_by"] ["_law_top", "_law_bottom"] (defScope st_law_q) := ⟨rfl, rfl, rfl, by decide +kernel, rfl, by decide +kernel, by decide +kernel⟩
theorem ok_law_q (B : Blt mg)  {f_law_gcd : Addr} {fd_law_gcd : FuncData} (D_law_gcd : DefAt K mg "_law_gcd" st_law_gcd ["_law_one", "_law_two"] f_law_gcd fd_law_gcd) {f_law_q : Addr} {fd_law_q : FuncData} (D_law_q : DefAt K mg "_law_q" st_law_q ["_law_top", "_law_bottom"] f_law_q fd_law_q) : FnOk P w K mg base CX0 2 f_law_q fd_law_q ["_law_top", "_law_bottom"] spQG := by
  have OK_law_gcd : FnOk P w K mg base CX0 1 f_law_gcd fd_law_gcd ["_law_one", "_law_two"] spGcdL := ok_law_gcd B  D_law_gcd
  refine D_law_q.F.ok sc_law_q (fun vs H Q E h => ?_) (fun cdv A outer s H vs Q E hr h => ?_)
  · obtain ⟨a, b, rfl, _⟩ := h; rfl
  · have hu := hu_of hr
    refine ⟨_, (pss_cons (ps_set (i := 2) sc_law_q.nd rfl (Or.inl rfl) (pe_call OK_law_gcd (hr.mono (by decide)) rfl D_law_gcd.m D_law_gcd.F.kp D_law_gcd.b .nil pass0 (pa_cons (pv 0) (pa_cons (pv 1) pa_nil))))
    (pss_cons (ps_if (pt_cmpR op_lt (pv 1) pe_int (nomark _)) (pss_one (ps_set (i := 2) sc_law_q.nd rfl (Or.inl rfl) (pe_un un_neg (pv 2)))) pss_nil)
    (pss_one (ps_ret (pe_tup (pa_cons (pe_op op_fdivC (pv 0) (pv 2)) (pa_cons (pe_op op_fdivC (pv 1) (pv 2)) pa_nil))))))), ?_⟩
    obtain ⟨a, b, rfl, ha, hb, hlo, h0, q⟩ := h
    refine ⟨_, rfl, _, rfl, a, b, rfl, ha, hb, ?_⟩
    have hg : Nat.gcd a.natAbs b.natAbs ≠ 0 := fun z => h0 (Int.natAbs_eq_zero.mp (Nat.eq_zero_of_gcd_eq_zero_right z))
    have d1 : ∀ s : Int, s.natAbs = Nat.gcd a.natAbs b.natAbs → CDivC a s ∧ CDivC b s := fun s hs => by
      refine ⟨⟨fun z => hg (by rw [← hs, z]; rfl), ?_⟩, ⟨fun z => hg (by rw [← hs, z]; rfl), ?_⟩⟩
      · exact hlo.elim (fun z => .inl z.1) (fun z => .inr (by rw [hs]; exact z))
      · exact hlo.elim (fun z => .inl z.2) (fun z => .inr (by rw [hs]; exact z))
    refine ⟨_, rfl, _, _, rfl, rfl, _, rfl, ?_⟩
    refine ite2 (fun hneg => ?_) (fun hneg => ?_)
    · have hneg' := of_decide_eq_true hneg
      obtain ⟨c1, c2⟩ := d1 (-((Nat.gcd a.natAbs b.natAbs : Nat) : Int)) (by rw [Int.natAbs_neg, Int.natAbs_natCast])
      refine ⟨_, rfl, _, rfl, _, rfl, _, rfl, _, _, rfl, rfl, c1, _, rfl, _, rfl, _, _, rfl, rfl, c2, (by show 2 ≤ sizeLine; decide), fun t ht => ?_⟩
      have z := q t ht
      unfold lowI shr at z
      rw [if_pos hneg'] at z
      exact z
    · have hneg' : ¬ b < 0 := fun z => hneg (decide_eq_true z)
      obtain ⟨c1, c2⟩ := d1 ((Nat.gcd a.natAbs b.natAbs : Nat) : Int) (Int.natAbs_natCast _)
      refine ⟨_, rfl, _, rfl, _, _, rfl, rfl, c1, _, rfl, _, rfl, _, _, rfl, rfl, c2, (by show 2 ≤ sizeLine; decide), fun t ht => ?_⟩
      have z := q t ht
      unfold lowI shr at z
      rw [if_neg hneg'] at z
      exact z
abbrev st_law_plus : Stmt := top 30
theorem sc_law_plus : FnScope ["_law_one", "_law_two"] ["_law_one", "_law_two"] (defScope st_law_plus) := ⟨rfl, rfl, rfl, by decide +kernel, rfl, by decide +kernel, by decide +kernel⟩
theorem ok_law_plus (B : Blt mg)  {f_law_gcd : Addr} {fd_law_gcd : FuncData} (D_law_gcd : DefAt K mg "_law_gcd" st_law_gcd ["_law_one", "_law_two"] f_law_gcd fd_law_gcd) {f_law_q : Addr} {fd_law_q : FuncData} (D_law_q : DefAt K mg "_law_q" st_law_q ["_law_top", "_law_bottom"] f_law_q fd_law_q) {f_law_plus : Addr} {fd_law_plus : FuncData} (D_law_plus : DefAt K mg "_law_plus" st_law_plus ["_law_one", "_law_two"] f_law_plus fd_law_plus) : FnOk P w K mg base CX0 3 f_law_plus fd_law_plus ["_law_one", "_law_two"] (spTwo sumR) := by
  have OK_law_q : FnOk P w K mg base CX0 2 f_law_q fd_law_q ["_law_top", "_law_bottom"] spQG := ok_law_q B  D_law_gcd D_law_q
  refine D_law_plus.F.ok sc_law_plus (fun vs H Q E h => ?_) (fun cdv A outer s H vs Q E hr h => ?_)
  · obtain ⟨s, t, a, c, b, d, rfl, _⟩ := h; rfl
  · have hu := hu_of hr
    refine ⟨_, (pss_one (ps_ret (pe_call OK_law_q (hr.mono (by decide)) rfl D_law_q.m D_law_q.F.kp D_law_q.b .nil pass0 (pa_cons (pe_op op_add (pe_op op_mulW (pe_ix ix_tup (pv 0) pe_int (fun _ _ => rfl)) (pe_ix ix_tup (pv 1) pe_int (fun _ _ => rfl))) (pe_op op_mulW (pe_ix ix_tup (pv 1) pe_int (fun _ _ => rfl)) (pe_ix ix_tup (pv 0) pe_int (fun _ _ => rfl)))) (pa_cons (pe_op op_mulW (pe_ix ix_tup (pv 0) pe_int (fun _ _ => rfl)) (pe_ix ix_tup (pv 1) pe_int (fun _ _ => rfl))) pa_nil))))), ?_⟩
    obtain ⟨s, t, a, c, b, d, rfl, hs, ht, ⟨b0, ma, mb⟩, ⟨d0, mc, md⟩, q⟩ := h
    have mb' : ((b : Nat) : Int).natAbs < 2 ^ 6000 := by rw [Int.natAbs_natCast]; exact mb
    have md' : ((d : Nat) : Int).natAbs < 2 ^ 6000 := by rw [Int.natAbs_natCast]; exact md
    have ad := mid_mul ma md'
    have cb := mid_mul mc mb'
    have ac := mid_mul ma mc
    have bd := mid_mul mb' md'
    have bdn : ((b : Int) * (d : Int)) = ((b * d : Nat) : Int) := (Int.natCast_mul b d).symm
    have bd0 : 0 < b * d := Nat.mul_pos b0 d0
    have hs' := SqT.of (K := K) hs
    have ht' := SqT.of (K := K) ht
    
    obtain ⟨e1, e2⟩ := add12 ad.2 cb.2
    obtain ⟨o1, o2, o3⟩ := mid_div e1 (up12 bd.2)
    refine ⟨_, rfl, s, _, _, _, rfl, rfl, hs', rfl, _, rfl, t, _, _, _, rfl, rfl, ht', rfl, _, _, rfl, rfl, ad.1, _, rfl, t, _, _, _, rfl, rfl, ht', rfl, _, rfl, s, _, _, _, rfl, rfl, hs', rfl, _, _, rfl, rfl, cb.1, _, _, rfl, rfl, _, rfl, s, _, _, _, rfl, rfl, hs', rfl, _, rfl, t, _, _, _, rfl, rfl, ht', rfl, _, _, rfl, rfl, bd.1, _, _, rfl, o2, o3, o1, ?_, fun u hu => ?_⟩
    · rw [bdn]; omega
    · have z := q u hu
      rw [bdn, lowI_pos]
      exact z
abbrev st_law_minus : Stmt := top 31
theorem sc_law_minus : FnScope ["_law_one", "_law_two"] ["_law_one", "_law_two"] (defScope st_law_minus) := ⟨rfl, rfl, rfl, by decide +kernel, rfl, by decide +kernel, by decide +kernel⟩
theorem ok_law_minus (B : Blt mg)  {f_law_gcd : Addr} {fd_law_gcd : FuncData} (D_law_gcd : DefAt K mg "_law_gcd" st_law_gcd ["_law_one", "_law_two"] f_law_gcd fd_law_gcd) {f_law_q : Addr} {fd_law_q : FuncData} (D_law_q : DefAt K mg "_law_q" st_law_q ["_law_top", "_law_bottom"] f_law_q fd_law_q) {f_law_minus : Addr} {fd_law_minus : FuncData} (D_law_minus : DefAt K mg "_law_minus" st_law_minus ["_law_one", "_law_two"] f_law_minus fd_law_minus) : FnOk P w K mg base CX0 3 f_law_minus fd_law_minus ["_law_one", "_law_two"] (spTwo difR) := by
  have OK_law_q : FnOk P w K mg base CX0 2 f_law_q fd_law_q ["_law_top", "_law_bottom"] spQG := ok_law_q B  D_law_gcd D_law_q
  refine D_law_minus.F.ok sc_law_minus (fun vs H Q E h => ?_) (fun cdv A outer s H vs Q E hr h => ?_)
  · obtain ⟨s, t, a, c, b, d, rfl, _⟩ := h; rfl
  · have hu := hu_of hr
    refine ⟨_, (pss_one (ps_ret (pe_call OK_law_q (hr.mono (by decide)) rfl D_law_q.m D_law_q.F.kp D_law_q.b .nil pass0 (pa_cons (pe_op op_sub (pe_op op_mulW (pe_ix ix_tup (pv 0) pe_int (fun _ _ => rfl)) (pe_ix ix_tup (pv 1) pe_int (fun _ _ => rfl))) (pe_op op_mulW (pe_ix ix_tup (pv 1) pe_int (fun _ _ => rfl)) (pe_ix ix_tup (pv 0) pe_int (fun _ _ => rfl)))) (pa_cons (pe_op op_mulW (pe_ix ix_tup (pv 0) pe_int (fun _ _ => rfl)) (pe_ix ix_tup (pv 1) pe_int (fun _ _ => rfl))) pa_nil))))), ?_⟩
    obtain ⟨s, t, a, c, b, d, rfl, hs, ht, ⟨b0, ma, mb⟩, ⟨d0, mc, md⟩, q⟩ := h
    have mb' : ((b : Nat) : Int).natAbs < 2 ^ 6000 := by rw [Int.natAbs_natCast]; exact mb
    have md' : ((d : Nat) : Int).natAbs < 2 ^ 6000 := by rw [Int.natAbs_natCast]; exact md
    have ad := mid_mul ma md'
    have cb := mid_mul mc mb'
    have ac := mid_mul ma mc
    have bd := mid_mul mb' md'
    have bdn : ((b : Int) * (d : Int)) = ((b * d : Nat) : Int) := (Int.natCast_mul b d).symm
    have bd0 : 0 < b * d := Nat.mul_pos b0 d0
    have hs' := SqT.of (K := K) hs
    have ht' := SqT.of (K := K) ht
    
    obtain ⟨e1, e2⟩ := add12 ad.2 cb.2
    obtain ⟨o1, o2, o3⟩ := mid_div e2 (up12 bd.2)
    refine ⟨_, rfl, s, _, _, _, rfl, rfl, hs', rfl, _, rfl, t, _, _, _, rfl, rfl, ht', rfl, _, _, rfl, rfl, ad.1, _, rfl, t, _, _, _, rfl, rfl, ht', rfl, _, rfl, s, _, _, _, rfl, rfl, hs', rfl, _, _, rfl, rfl, cb.1, _, _, rfl, rfl, _, rfl, s, _, _, _, rfl, rfl, hs', rfl, _, rfl, t, _, _, _, rfl, rfl, ht', rfl, _, _, rfl, rfl, bd.1, _, _, rfl, o2, o3, o1, ?_, fun u hu => ?_⟩
    · rw [bdn]; omega
    · have z := q u hu
      rw [bdn, lowI_pos]
      exact z
abbrev st_law_times : Stmt := top 32
theorem sc_law_times : FnScope ["_law_one", "_law_two"] ["_law_one", "_law_two"] (defScope st_law_times) := ⟨rfl, rfl, rfl, by decide +kernel, rfl, by decide +kernel, by decide +kernel⟩
theorem ok_law_times (B : Blt mg)  {f_law_gcd : Addr} {fd_law_gcd : FuncData} (D_law_gcd : DefAt K mg "_law_gcd" st_law_gcd ["_law_one", "_law_two"] f_law_gcd fd_law_gcd) {f_law_q : Addr} {fd_law_q : FuncData} (D_law_q : DefAt K mg "_law_q" st_law_q ["_law_top", "_law_bottom"] f_law_q fd_law_q) {f_law_times : Addr} {fd_law_times : FuncData} (D_law_times : DefAt K mg "_law_times" st_law_times ["_law_one", "_law_two"] f_law_times fd_law_times) : FnOk P w K mg base CX0 3 f_law_times fd_law_times ["_law_one", "_law_two"] (spTwo mulR) := by
  have OK_law_q : FnOk P w K mg base CX0 2 f_law_q fd_law_q ["_law_top", "_law_bottom"] spQG := ok_law_q B  D_law_gcd D_law_q
  refine D_law_times.F.ok sc_law_times (fun vs H Q E h => ?_) (fun cdv A outer s H vs Q E hr h => ?_)
  · obtain ⟨s, t, a, c, b, d, rfl, _⟩ := h; rfl
  · have hu := hu_of hr
    refine ⟨_, (pss_one (ps_ret (pe_call OK_law_q (hr.mono (by decide)) rfl D_law_q.m D_law_q.F.kp D_law_q.b .nil pass0 (pa_cons (pe_op op_mulW (pe_ix ix_tup (pv 0) pe_int (fun _ _ => rfl)) (pe_ix ix_tup (pv 1) pe_int (fun _ _ => rfl))) (pa_cons (pe_op op_mulW (pe_ix ix_tup (pv 0) pe_int (fun _ _ => rfl)) (pe_ix ix_tup (pv 1) pe_int (fun _ _ => rfl))) pa_nil))))), ?_⟩
    obtain ⟨s, t, a, c, b, d, rfl, hs, ht, ⟨b0, ma, mb⟩, ⟨d0, mc, md⟩, q⟩ := h
    have mb' : ((b : Nat) : Int).natAbs < 2 ^ 6000 := by rw [Int.natAbs_natCast]; exact mb
    have md' : ((d : Nat) : Int).natAbs < 2 ^ 6000 := by rw [Int.natAbs_natCast]; exact md
    have ad := mid_mul ma md'
    have cb := mid_mul mc mb'
    have ac := mid_mul ma mc
    have bd := mid_mul mb' md'
    have bdn : ((b : Int) * (d : Int)) = ((b * d : Nat) : Int) := (Int.natCast_mul b d).symm
    have bd0 : 0 < b * d := Nat.mul_pos b0 d0
    have hs' := SqT.of (K := K) hs
    have ht' := SqT.of (K := K) ht
    
    obtain ⟨o1, o2, o3⟩ := mid_div (up12 ac.2) (up12 bd.2)
    refine ⟨_, rfl, s, _, _, _, rfl, rfl, hs', rfl, _, rfl, t, _, _, _, rfl, rfl, ht', rfl, _, _, rfl, rfl, ac.1, _, rfl, s, _, _, _, rfl, rfl, hs', rfl, _, rfl, t, _, _, _, rfl, rfl, ht', rfl, _, _, rfl, rfl, bd.1, _, _, rfl, o2, o3, o1, ?_, fun u hu => ?_⟩
    · rw [bdn]; omega
    · have z := q u hu
      rw [bdn, lowI_pos]
      exact z
abbrev st_law_over : Stmt := top 33
theorem sc_law_over : FnScope ["_law_one", "_law_two"] ["_law_one", "_law_two"] (defScope st_law_over) := ⟨rfl, rfl, rfl, by decide +kernel, rfl, by decide +kernel, by decide +kernel⟩
theorem ok_law_over (B : Blt mg)  {f_law_gcd : Addr} {fd_law_gcd : FuncData} (D_law_gcd : DefAt K mg "_law_gcd" st_law_gcd ["_law_one", "_law_two"] f_law_gcd fd_law_gcd) {f_law_q : Addr} {fd_law_q : FuncData} (D_law_q : DefAt K mg "_law_q" st_law_q ["_law_top", "_law_bottom"] f_law_q fd_law_q) {f_law_over : Addr} {fd_law_over : FuncData} (D_law_over : DefAt K mg "_law_over" st_law_over ["_law_one", "_law_two"] f_law_over fd_law_over) : FnOk P w K mg base CX0 3 f_law_over fd_law_over ["_law_one", "_law_two"] spTwoO := by
  have OK_law_q : FnOk P w K mg base CX0 2 f_law_q fd_law_q ["_law_top", "_law_bottom"] spQG := ok_law_q B  D_law_gcd D_law_q
  refine D_law_over.F.ok sc_law_over (fun vs H Q E h => ?_) (fun cdv A outer s H vs Q E hr h => ?_)
  · obtain ⟨s, t, a, c, b, d, rfl, _⟩ := h; rfl
  · have hu := hu_of hr
    refine ⟨_, (pss_one (ps_ret (pe_call OK_law_q (hr.mono (by decide)) rfl D_law_q.m D_law_q.F.kp D_law_q.b .nil pass0 (pa_cons (pe_op op_mulW (pe_ix ix_tup (pv 0) pe_int (fun _ _ => rfl)) (pe_ix ix_tup (pv 1) pe_int (fun _ _ => rfl))) (pa_cons (pe_op op_mulW (pe_ix ix_tup (pv 0) pe_int (fun _ _ => rfl)) (pe_ix ix_tup (pv 1) pe_int (fun _ _ => rfl))) pa_nil))))), ?_⟩
    obtain ⟨s, t, a, c, b, d, rfl, hs, ht, ⟨b0, ma, mb⟩, ⟨d0, mc, md⟩, hc, q⟩ := h
    have mb' : ((b : Nat) : Int).natAbs < 2 ^ 6000 := by rw [Int.natAbs_natCast]; exact mb
    have md' : ((d : Nat) : Int).natAbs < 2 ^ 6000 := by rw [Int.natAbs_natCast]; exact md
    have ad := mid_mul ma md'
    have hs' := SqT.of (K := K) hs
    have ht' := SqT.of (K := K) ht
    
    have bc := mid_mul mb' mc
    obtain ⟨o1, o2, o3⟩ := mid_div (up12 ad.2) (up12 bc.2)
    refine ⟨_, rfl, s, _, _, _, rfl, rfl, hs', rfl, _, rfl, t, _, _, _, rfl, rfl, ht', rfl, _, _, rfl, rfl, ad.1, _, rfl, s, _, _, _, rfl, rfl, hs', rfl, _, rfl, t, _, _, _, rfl, rfl, ht', rfl, _, _, rfl, rfl, bc.1, _, _, rfl, o2, o3, o1, Int.mul_ne_zero (by omega) hc, fun u hu => ?_⟩
    have z := q u hu
    rw [ovR_eq _ _ _ _ b0 hc]
    exact z
abbrev st_law_less : Stmt := top 34
theorem sc_law_less : FnScope ["_law_one", "_law_two"] ["_law_one", "_law_two"] (defScope st_law_less) := ⟨rfl, rfl, rfl, by decide +kernel, rfl, by decide +kernel, by decide +kernel⟩
theorem ok_law_less (B : Blt mg)  {f_law_less : Addr} {fd_law_less : FuncData} (D_law_less : DefAt K mg "_law_less" st_law_less ["_law_one", "_law_two"] f_law_less fd_law_less) : FnOk P w K mg base CX0 1 f_law_less fd_law_less ["_law_one", "_law_two"] spLessL := by
  refine D_law_less.F.ok sc_law_less (fun vs H Q E h => ?_) (fun cdv A outer s H vs Q E hr h => ?_)
  · obtain ⟨s, t, a, c, b, d, rfl, _⟩ := h; rfl
  · have hu := hu_of hr
    refine ⟨_, (pss_one (ps_ret (pe_cmpR op_lt (pe_op op_mulW (pe_ix ix_tup (pv 0) pe_int (fun _ _ => rfl)) (pe_ix ix_tup (pv 1) pe_int (fun _ _ => rfl))) (pe_op op_mulW (pe_ix ix_tup (pv 1) pe_int (fun _ _ => rfl)) (pe_ix ix_tup (pv 0) pe_int (fun _ _ => rfl))) (nomark _)))), ?_⟩
    obtain ⟨s, t, a, c, b, d, rfl, hs, ht, ⟨b0, ma, mb⟩, ⟨d0, mc, md⟩, q⟩ := h
    have mb' : ((b : Nat) : Int).natAbs < 2 ^ 6000 := by rw [Int.natAbs_natCast]; exact mb
    have md' : ((d : Nat) : Int).natAbs < 2 ^ 6000 := by rw [Int.natAbs_natCast]; exact md
    have ad := mid_mul ma md'
    have hs' := SqT.of (K := K) hs
    have ht' := SqT.of (K := K) ht
    
    have cb := mid_mul mc mb'
    exact ⟨_, rfl, s, _, _, _, rfl, rfl, hs', rfl, _, rfl, t, _, _, _, rfl, rfl, ht', rfl, _, _, rfl, rfl, ad.1, _, rfl, t, _, _, _, rfl, rfl, ht', rfl, _, rfl, s, _, _, _, rfl, rfl, hs', rfl, _, _, rfl, rfl, cb.1, _, _, rfl, rfl, q⟩
abbrev st_law_ratio : Stmt := top 35
theorem sc_law_ratio : FnScope ["_law_pen_here", "_law_figures", "_law_top", "_law_bottom"] ["_law_pen_here", "_law_figures"] (defScope st_law_ratio) := ⟨rfl, rfl, rfl, by decide +kernel, rfl, by decide +kernel, by decide +kernel⟩
theorem ok_law_ratio (B : Blt mg)  {f_law_draw : Addr} {fd_law_draw : FuncData} (D_law_draw : DefAt K mg "_law_draw" st_law_draw ["_law_pen_here", "_law_many"] f_law_draw fd_law_draw) {f_law_pick : Addr} {fd_law_pick : FuncData} (D_law_pick : DefAt K mg "_law_pick" st_law_pick ["_law_pen_here", "_law_some"] f_law_pick fd_law_pick) {f_law_big : Addr} {fd_law_big : FuncData} (D_law_big : DefAt K mg "_law_big" st_law_big ["_law_pen_here", "_law_figures"] f_law_big fd_law_big) {f_law_gcd : Addr} {fd_law_gcd : FuncData} (D_law_gcd : DefAt K mg "_law_gcd" st_law_gcd ["_law_one", "_law_two"] f_law_gcd fd_law_gcd) {f_law_q : Addr} {fd_law_q : FuncData} (D_law_q : DefAt K mg "_law_q" st_law_q ["_law_top", "_law_bottom"] f_law_q fd_law_q) {f_law_ratio : Addr} {fd_law_ratio : FuncData} (D_law_ratio : DefAt K mg "_law_ratio" st_law_ratio ["_law_pen_here", "_law_figures"] f_law_ratio fd_law_ratio) : FnOk P w K mg base CX0 4 f_law_ratio fd_law_ratio ["_law_pen_here", "_law_figures"] spRatL := by
  have OK_law_big : FnOk P w K mg base CX0 3 f_law_big fd_law_big ["_law_pen_here", "_law_figures"] spBig := ok_law_big B  D_law_draw D_law_pick D_law_big
  have OK_law_draw : FnOk P w K mg base CX0 1 f_law_draw fd_law_draw ["_law_pen_here", "_law_many"] spDraw := ok_law_draw B  D_law_draw
  have OK_law_pick : FnOk P w K mg base CX0 2 f_law_pick fd_law_pick ["_law_pen_here", "_law_some"] (spPick K) := ok_law_pick B  D_law_draw D_law_pick
  have OK_law_q : FnOk P w K mg base CX0 2 f_law_q fd_law_q ["_law_top", "_law_bottom"] spQG := ok_law_q B  D_law_gcd D_law_q
  refine D_law_ratio.F.ok sc_law_ratio (fun vs H Q E h => ?_) (fun cdv A outer s H vs Q E hr h => ?_)
  · obtain ⟨p, c, m, k, rfl, _⟩ := h; rfl
  · have hu := hu_of hr
    refine ⟨_, (pss_cons (ps_set (i := 2) sc_law_ratio.nd rfl (Or.inl rfl) (pe_call OK_law_big (hr.mono (by decide)) rfl D_law_big.m D_law_big.F.kp D_law_big.b .nil pass0 (pa_cons (pv 0) (pa_cons (pv 1) pa_nil))))
    (pss_cons (ps_set (i := 3) sc_law_ratio.nd rfl (Or.inl rfl) (pe_call OK_law_pick (hr.mono (by decide)) rfl D_law_pick.m D_law_pick.F.kp D_law_pick.b .nil pass0 (pa_cons (pv 0) (pa_cons (pe_lst (pa_cons pe_int (pa_cons pe_int (pa_cons pe_int (pa_cons pe_int (pa_cons pe_int (pa_cons pe_int (pa_cons pe_int (pa_cons (pe_op op_add pe_int (pe_call OK_law_draw (hr.mono (by decide)) rfl D_law_draw.m D_law_draw.F.kp D_law_draw.b .nil pass0 (pa_cons (pv 0) (pa_cons pe_int pa_nil)))) pa_nil))))))))) pa_nil))))
    (pss_one (ps_ret (pe_call OK_law_q (hr.mono (by decide)) rfl D_law_q.m D_law_q.F.kp D_law_q.b .nil pass0 (pa_cons (pe_op op_mulW (pe_call OK_law_pick (hr.mono (by decide)) rfl D_law_pick.m D_law_pick.F.kp D_law_pick.b .nil pass0 (pa_cons (pv 0) (pa_cons (pe_lst (pa_cons pe_int (pa_cons pe_int (pa_cons (pe_un un_neg pe_int) pa_nil)))) pa_nil))) (pv 2)) (pa_cons (pv 3) pa_nil))))))), ?_⟩
    obtain ⟨p, c, m, k, rfl, P, hm, hk0, hk, q⟩ := h
    refine ⟨_, rfl, _, rfl, p, c, m, k, rfl, P, by omega, hk0, by omega, fun n H1 hn P1 k1 => ?_⟩
    have kp1 := k1.p P
    refine ⟨_, rfl, _, rfl, p, c, m + 200, _, rfl, P1, by omega, by decide, by decide, fun r H2 h0 h1 P2 k2 => ?_⟩
    have kp2 := kp1.trans (k2.p P1)
    refine ⟨_, _, rfl, rfl, (by show 8 ≤ sizeLine; decide), fun l hl => ?_⟩
    refine ⟨p, c, l, m + 201, _, rfl, P2.same (AL.Same.new hl), by omega, SqL.of upd_same, (by show 0 < 8; decide), (by show 8 < 1000000000; decide), fun j x H3 hx P3 k3 => ?_⟩
    have kp3 := (kp2.trans (Same.p (AL.Same.new hl))).trans (k3.p (P2.same (AL.Same.new hl)))
    obtain ⟨b, rfl, hb0, hb⟩ : ∃ b : Nat, x = V.int (b : Int) ∧ 0 < b ∧ b < 100 := by
      obtain ⟨r, rfl⟩ := Int.eq_ofNat_of_zero_le h0
      refine pick_of (P := fun x => ∃ b : Nat, x = V.int (b : Int) ∧ 0 < b ∧ b < 100) (fun y hy => ?_) hx
      simp only [List.mem_cons, List.not_mem_nil, or_false] at hy
      rcases hy with rfl | rfl | rfl | rfl | rfl | rfl | rfl | rfl
      · exact ⟨1, rfl, by decide, by decide⟩
      · exact ⟨1, rfl, by decide, by decide⟩
      · exact ⟨1, rfl, by decide, by decide⟩
      · exact ⟨2, rfl, by decide, by decide⟩
      · exact ⟨3, rfl, by decide, by decide⟩
      · exact ⟨4, rfl, by decide, by decide⟩
      · exact ⟨7, rfl, by decide, by decide⟩
      · exact ⟨1 + r, rfl, by omega, by omega⟩
    refine ⟨_, rfl, _, rfl, (by show 3 ≤ sizeLine; decide), fun l2 hl2 => ?_⟩
    refine ⟨p, c, l2, m + 202, _, rfl, P3.same (AL.Same.new hl2), by omega, SqL.of upd_same, (by show 0 < 3; decide), (by show 3 < 1000000000; decide), fun j2 x2 H4 hx2 P4 k4 => ?_⟩
    have kp4 := (kp3.trans (Same.p (AL.Same.new hl2))).trans (k4.p (P3.same (AL.Same.new hl2)))
    obtain ⟨sg, rfl, hs⟩ : ∃ sg : Int, x2 = V.int sg ∧ sg.natAbs = 1 := by
      refine pick_of (P := fun x => ∃ sg : Int, x = V.int sg ∧ sg.natAbs = 1) (fun y hy => ?_) hx2
      simp only [List.mem_cons, List.not_mem_nil, or_false] at hy
      rcases hy with rfl | rfl | rfl
      · exact ⟨1, rfl, rfl⟩
      · exact ⟨1, rfl, rfl⟩
      · exact ⟨-1, rfl, rfl⟩
    have hn30 : n < 10 ^ 30 := Nat.lt_of_lt_of_le hn (Nat.pow_le_pow_right (by decide) hk)
    have n2 : n < 2 ^ 1000 := Nat.lt_of_lt_of_le hn30 (by decide +kernel)
    have b2 : b < 2 ^ 1000 := Nat.lt_of_lt_of_le hb (by decide +kernel)
    have ab : (sg * (n : Int)).natAbs = n := by rw [Int.natAbs_mul, hs, Nat.one_mul, Int.natAbs_natCast]
    have a12 : (sg * (n : Int)).natAbs < 2 ^ 12001 := by rw [ab]; exact Nat.lt_of_lt_of_le n2 (Nat.pow_le_pow_right (by decide) (by decide))
    have b12 : ((b : Nat) : Int).natAbs < 2 ^ 12001 := by rw [Int.natAbs_natCast]; exact Nat.lt_of_lt_of_le b2 (Nat.pow_le_pow_right (by decide) (by decide))
    obtain ⟨o1, o2, o3⟩ := mid_div a12 b12
    refine ⟨_, rfl, _, _, rfl, rfl, wide_mul (a := 4) (b := 1000) (by rw [hs]; decide) (by rw [Int.natAbs_natCast]; exact n2) (by decide) (by decide) (by decide), _, rfl, _, _, rfl, o2, o3, o1, by omega, fun u hu => ?_⟩
    rw [lowI_pos]
    refine q u _ _ _ ⟨low_nrm _ hb0, ?_, ?_⟩ upd_same ((P4.same (AL.Same.new hu)).mono (by omega)) (kp4.trans (Same.p (AL.Same.new hu)))
    · exact Nat.lt_of_le_of_lt (nrm_le _ _).1 (by rw [ab]; exact hn30)
    · exact Nat.lt_of_le_of_lt (nrm_le _ _).2 hb
abbrev st_law_passed : Stmt := top 36
theorem sc_law_passed : FnScope ["_law_pen_here", "_law_ratio_here", "_law_way", "_law_by"] ["_law_pen_here", "_law_ratio_here"] (defScope st_law_passed) := ⟨rfl, rfl, rfl, by decide +kernel, rfl, by decide +kernel, by decide +kernel⟩
theorem ok_law_passed (B : Blt mg)  {f_law_draw : Addr} {fd_law_draw : FuncData} (D_law_draw : DefAt K mg "_law_draw" st_law_draw ["_law_pen_here", "_law_many"] f_law_draw fd_law_draw) {f_law_passed : Addr} {fd_law_passed : FuncData} (D_law_passed : DefAt K mg "_law_passed" st_law_passed ["_law_pen_here", "_law_ratio_here"] f_law_passed fd_law_passed) : FnOk P w K mg base CX0 2 f_law_passed fd_law_passed ["_law_pen_here", "_law_ratio_here"] (spPassI K) := by
  have OK_law_draw : FnOk P w K mg base CX0 1 f_law_draw fd_law_draw ["_law_pen_here", "_law_many"] spDraw := ok_law_draw B  D_law_draw
  refine D_law_passed.F.ok sc_law_passed (fun vs H Q E h => ?_) (fun cdv A outer s H vs Q E hr h => ?_)
  · obtain ⟨p, c, t, m, a, b, rfl, _⟩ := h; rfl
  · have hu := hu_of hr
    refine ⟨_, (pss_cons (ps_set (i := 2) sc_law_passed.nd rfl (Or.inl rfl) (pe_call OK_law_draw (hr.mono (by decide)) rfl D_law_draw.m D_law_draw.F.kp D_law_draw.b .nil pass0 (pa_cons (pv 0) (pa_cons pe_int pa_nil))))
    (Evl.pss_cut (ps_if (PW.pt (pw_and (pt_cmpR op_eq (pv 2) pe_int (nomark _)) (pw_and1 (pt_cmpR op_eq (pe_ix ix_tup (pv 1) pe_int (fun _ _ => rfl)) pe_int (nomark _))))) (pss_one (ps_ret (pe_ix ix_tup (pv 1) pe_int (fun _ _ => rfl)))) pss_nil)
    (pss_cons (ps_if (pt_cmpR op_eq (pv 2) pe_int (nomark _)) (pss_cons (ps_set (i := 3) sc_law_passed.nd rfl (Or.inl rfl) (pe_op op_add pe_int (pe_call OK_law_draw (hr.mono (by decide)) rfl D_law_draw.m D_law_draw.F.kp D_law_draw.b .nil pass0 (pa_cons (pv 0) (pa_cons pe_int pa_nil)))))
    (pss_one (ps_ret (pe_tup (pa_cons (pe_op op_mulW (pe_ix ix_tup (pv 1) pe_int (fun _ _ => rfl)) (pv 3)) (pa_cons (pe_op op_mulW (pe_ix ix_tup (pv 1) pe_int (fun _ _ => rfl)) (pv 3)) pa_nil)))))) pss_nil)
    (pss_one (ps_ret (pv 1)))))), ?_⟩
    obtain ⟨p, c, t, m, a, b, rfl, P, hm, ht, sn, q⟩ := h
    refine ⟨_, rfl, p, c, m, _, rfl, P, by omega, by decide, by decide, fun way H1 h0 h1 P1 k1 => ?_⟩
    have kp1 := k1.p P
    have ht1 : RatAt H1 t a b := kp1.d.tup ht
    have same : RatV K H1 (.ref t) (some (a * ((1 : Nat) : Int), b * 1)) := by rw [Int.natCast_one, Int.mul_one, Nat.mul_one]; exact .pair ht1 sn.low.1
    refine ⟨fun σ' H' => H' = H1 ∧ σ' = [some (.ref p), some (.ref t), some (.int way), none], ?_, ?_⟩
    · refine ⟨_, rfl, rfl, _, rfl, ?_⟩
      refine ite2 (fun hw => ?_) (fun hw => ?_)
      · refine ⟨_, rfl, t, _, _, _, rfl, rfl, SqT.of ht1, rfl, rfl, _, rfl, ?_⟩
        refine ite2 (fun hone => ?_) (fun hone => ?_)
        · have hone' : b = 1 := vi_eq (j := 1) hone
          refine ⟨_, rfl, t, _, _, _, rfl, rfl, SqT.of ht1, rfl, ?_⟩
          refine q _ 1 H1 (by decide) (by decide) ?_ (P1.mono (by omega)) kp1
          rw [Int.natCast_one, Int.mul_one, Nat.mul_one, hone']
          exact .int _
        · exact ⟨rfl, rfl⟩
      · exact iteF ⟨rfl, rfl⟩
    rintro σ1 H2 ⟨rfl, rfl⟩
    refine ⟨_, rfl, rfl, _, rfl, ?_⟩
    refine ite2 (fun hw => ?_) (fun hw => ?_)
    · refine ⟨_, rfl, p, c, m + 1, _, rfl, P1, by omega, by decide, by decide, fun r H3 h2 h3 P3 k3 => ?_⟩
      obtain ⟨r, rfl⟩ := Int.eq_ofNat_of_zero_le h2
      have kp3 := kp1.trans (k3.p P1)
      have ht3 : RatAt H3 t a b := kp3.d.tup ht
      have e2 : (2 : Int) + (r : Int) = ((2 + r : Nat) : Int) := by omega
      have small : ((2 + r : Nat) : Int).natAbs < 2 ^ 4 := by rw [Int.natAbs_natCast]; show 2 + r < 16; omega
      refine ⟨_, _, rfl, rfl, ?_⟩
      dsimp only
      rw [e2]
      refine ⟨_, rfl, t, _, _, _, rfl, rfl, SqT.of ht3, rfl, _, rfl, _, _, rfl, rfl, wide_mul (a := 1000) (b := 4) sn.sm.1 small (by decide) (by decide) (by decide), _, rfl, t, _, _, _, rfl, rfl, SqT.of ht3, rfl, _, rfl, _, _, rfl, rfl, wide_mul (a := 1000) (b := 4) (by rw [Int.natAbs_natCast]; exact sn.sm.2) small (by decide) (by decide) (by decide), (by show 2 ≤ sizeLine; decide), fun t2 ht2 => ?_⟩
      have n2 := AL.Same.new (o := .tup [.int (a * ((2 + r : Nat) : Int)), .int ((b : Int) * ((2 + r : Nat) : Int))]) ht2
      refine q _ (2 + r) _ (by omega) (by omega) (.pair (Eq.trans upd_same ?_) (Nat.mul_pos sn.low.1 (by omega))) ((P3.same n2).mono (by omega)) (kp3.trans (Same.p n2))
      rw [Int.natCast_mul b]
    · exact ⟨_, rfl, q _ 1 _ (by decide) (by decide) same (P1.mono (by omega)) kp1⟩
abbrev st_law_power : Stmt := top 37
theorem sc_law_power : FnScope ["_law_one", "_law_n", "_law_found", "_law_lap"] ["_law_one", "_law_n"] (defScope st_law_power) := ⟨rfl, rfl, rfl, by decide +kernel, rfl, by decide +kernel, by decide +kernel⟩
theorem ok_law_power (B : Blt mg)  {f_law_gcd : Addr} {fd_law_gcd : FuncData} (D_law_gcd : DefAt K mg "_law_gcd" st_law_gcd ["_law_one", "_law_two"] f_law_gcd fd_law_gcd) {f_law_q : Addr} {fd_law_q : FuncData} (D_law_q : DefAt K mg "_law_q" st_law_q ["_law_top", "_law_bottom"] f_law_q fd_law_q) {f_law_power : Addr} {fd_law_power : FuncData} (D_law_power : DefAt K mg "_law_power" st_law_power ["_law_one", "_law_n"] f_law_power fd_law_power) : FnOk P w K mg base CX0 3 f_law_power fd_law_power ["_law_one", "_law_n"] spPowL := by
  have OK_law_q : FnOk P w K mg base CX0 2 f_law_q fd_law_q ["_law_top", "_law_bottom"] spQG := ok_law_q B  D_law_gcd D_law_q
  refine D_law_power.F.ok sc_law_power (fun vs H Q E h => ?_) (fun cdv A outer s H vs Q E hr h => ?_)
  · obtain ⟨t, a, b, n, rfl, _⟩ := h; rfl
  · have hu := hu_of hr
    refine ⟨_, (pss_cons (ps_set (i := 2) sc_law_power.nd rfl (Or.inl rfl) (pe_tup (pa_cons pe_int (pa_cons pe_int pa_nil))))
    (pss_cons (ps_for PassesOwn.never rfl (pi_range1 rfl B.range_ (pa_cons (pe_callB call_abs (by rfl) B.abs_ (by decide +kernel) (pa_cons (pv 1) pa_nil)) pa_nil)) (pg_name (i := 3) sc_law_power.nd rfl (Or.inl rfl))
      (pss_one (ps_set (i := 2) sc_law_power.nd rfl (Or.inl rfl) (pe_tup (pa_cons (pe_op op_mulW (pe_ix ix_tup (pv 2) pe_int (fun _ _ => rfl)) (pe_ix ix_tup (pv 0) pe_int (fun _ _ => rfl))) (pa_cons (pe_op op_mulW (pe_ix ix_tup (pv 2) pe_int (fun _ _ => rfl)) (pe_ix ix_tup (pv 0) pe_int (fun _ _ => rfl))) pa_nil))))))
    (pss_one (ps_ret (pe_ifExp (pt_cmpR op_ge (pv 1) pe_int (nomark _)) (pv 2) (pe_call OK_law_q (hr.mono (by decide)) rfl D_law_q.m D_law_q.F.kp D_law_q.b .nil pass0 (pa_cons (pe_ix ix_tup (pv 2) pe_int (fun _ _ => rfl)) (pa_cons (pe_ix ix_tup (pv 2) pe_int (fun _ _ => rfl)) pa_nil)))))))), ?_⟩
    obtain ⟨t, a, b, n, rfl, ht, sm, lo, hn, h0, q⟩ := h
    refine ⟨(by show 2 ≤ sizeLine; decide), fun f hf => ?_⟩
    have n1 := AL.Same.new (o := .tup [.int 1, .int 1]) hf
    refine ⟨_, rfl, _, rfl, ?_⟩
    have eabs : (if n < 0 then -n else n) = ((n.natAbs : Nat) : Int) := by split <;> omega
    rw [eabs]
    refine ⟨_, rfl, by omega, by omega, for_range (lo := 0) (n := ((n.natAbs : Int)).toNat) (fun i σ H' => ∃ (f : Addr) (v : Option V), Same H H' ∧ H' f = some (.tup [.int (a ^ i), .int ((b ^ i : Nat) : Int)]) ∧ σ = [some (.ref t), some (.int n), some (.ref f), v]) ⟨f, none, n1, by rw [Int.pow_zero]; exact upd_same, rfl⟩ ?_ ?_⟩
    · rintro i σ H' hi ⟨f, v, s, hf2, rfl⟩
      have hi' : i < 6 := by omega
      have ht' := s _ _ ht
      have fa : (a ^ i).natAbs < 2 ^ 6000 := by rw [Int.natAbs_pow]; exact pow6 sm.1 (by omega)
      have fb : ((b ^ i : Nat) : Int).natAbs < 2 ^ 6000 := by rw [Int.natAbs_natCast]; exact pow6 sm.2 (by omega)
      have sb : ((b : Nat) : Int).natAbs < 2 ^ 1000 := by rw [Int.natAbs_natCast]; exact sm.2
      refine ⟨_, rfl, f, _, _, _, rfl, rfl, SqT.of hf2, rfl, _, rfl, t, _, _, _, rfl, rfl, SqT.of ht', rfl, _, _, rfl, rfl, wide_mul (a := 6000) (b := 1000) fa sm.1 (by decide) (by decide) (by decide),
        _, rfl, f, _, _, _, rfl, rfl, SqT.of hf2, rfl, _, rfl, t, _, _, _, rfl, rfl, SqT.of ht', rfl, _, _, rfl, rfl, wide_mul (a := 6000) (b := 1000) fb sb (by decide) (by decide) (by decide), (by show 2 ≤ sizeLine; decide), fun f2 hf2' => ?_⟩
      refine ⟨f2, some (.int (0 + (i : Int))), s.trans (AL.Same.new hf2'), Eq.trans upd_same ?_, rfl⟩
      rw [Nat.pow_succ, Int.pow_succ, Int.natCast_mul]
    · rintro σ H' ⟨f, v, s, hf2, rfl⟩
      rw [Int.toNat_natCast] at hf2
      refine ⟨_, rfl, _, _, rfl, rfl, _, rfl, ?_⟩
      refine ite2 (fun hp => ?_) (fun hp => ?_)
      · have hp' : ¬ n < 0 := by have := of_decide_eq_true hp; omega
        refine ⟨_, rfl, q f H' s ?_⟩
        unfold pwR
        rw [if_neg hp']
        exact hf2
      · have hneg : n < 0 := by
          rcases Int.lt_or_le n 0 with z | z
          · exact z
          · exact absurd (decide_eq_true z) hp
        have a0 : a ≠ 0 := fun z => h0 ⟨hneg, z⟩
        have fa : (a ^ n.natAbs).natAbs < 2 ^ 6000 := by rw [Int.natAbs_pow]; exact pow6 sm.1 hn
        have fb : ((b ^ n.natAbs : Nat) : Int).natAbs < 2 ^ 6000 := by rw [Int.natAbs_natCast]; exact pow6 sm.2 hn
        have up : ∀ {x : Nat}, x < 2 ^ 6000 → x < 2 ^ 12001 := fun h => Nat.lt_of_lt_of_le h (Nat.pow_le_pow_right (by decide) (by decide))
        obtain ⟨o1, o2, o3⟩ := mid_div (up fb) (up fa)
        refine ⟨_, rfl, f, _, _, _, rfl, rfl, SqT.of hf2, rfl, _, rfl, f, _, _, _, rfl, rfl, SqT.of hf2, rfl, _, _, rfl, o2, o3, o1, Int.pow_ne_zero a0, fun u hu => ?_⟩
        refine q u _ (s.trans (AL.Same.new hu)) (Eq.trans upd_same ?_)
        have e := ovR_eq ((b ^ n.natAbs : Nat) : Int) 1 (a ^ n.natAbs) 1 (by decide) (Int.pow_ne_zero a0)
        rw [Int.natCast_one, Int.mul_one, Int.one_mul] at e
        unfold pwR
        rw [if_pos hneg, e]
abbrev st_law_is_amount : Stmt := top 40
theorem sc_law_is_amount : FnScope ["_law_told", "_law_exponents", "_law_number"] ["_law_told", "_law_exponents", "_law_number"] (defScope st_law_is_amount) := ⟨rfl, rfl, rfl, by decide +kernel, rfl, by decide +kernel, by decide +kernel⟩
theorem ok_law_is_amount (B : Blt mg) {BT BN UL NU BZ CAmount fN fU fZ : Addr} {fdN fdU fdZ : FuncData} (Es : ErA K mg BT BN UL NU BZ CAmount fN fU fZ fdN fdU fdZ) {f_law_is_amount : Addr} {fd_law_is_amount : FuncData} (D_law_is_amount : DefAt K mg "_law_is_amount" st_law_is_amount ["_law_told", "_law_exponents", "_law_number"] f_law_is_amount fd_law_is_amount) : FnOk P w K mg base CX0 1 f_law_is_amount fd_law_is_amount ["_law_told", "_law_exponents", "_law_number"] (spIsAm CAmount) := by
  refine D_law_is_amount.F.ok sc_law_is_amount (fun vs H Q E h => ?_) (fun cdv A outer s H vs Q E hr h => ?_)
  · obtain ⟨z, t', r', es, p, r, rfl, _⟩ := h; rfl
  · have hu := hu_of hr
    refine ⟨_, (pss_one (ps_ret (pe_and (pe_callB call_isi (by rfl) B.isinstance_ (by decide +kernel) (pa_cons (pv 0) (pa_cons (pe_glob (v := .ref CAmount) rfl Es.mA rfl) pa_nil))) (pe_and (pe_cmpR (op_eqD hr.units) (pe_fld (pv 0) rfl) (pv 1) (nomark _)) (pe_one (pe_cmpR (op_eqD hr.units) (pe_fld (pv 0) rfl) (pv 2) (nomark _))))))), ?_⟩
    obtain ⟨z, t', r', es, p, r, rfl, hz, ht, hr, q⟩ := h
    obtain ⟨dx, t, u, ex, et, eu⟩ := hz.ex
    refine ⟨_, rfl, _, _, _, _, _, rfl, ClsV.own _, TyX.base (.ins ex Es.cl Es.c1 Es.c2 Es.c3 Es.c4), Es.k1, true, rfl, ?_⟩
    refine iteT ?_
    refine ⟨_, rfl, z, _, dx, _, _, rfl, ex, Es.cl, Es.nE, flA_e _ _, _, rfl, _, _, dp_ints et, dp_ints ht, shaped_ints _, shaped_ints _, _, rfl, ?_⟩
    rw [eqv_ints, decide_eq_true rfl]
    refine iteT ?_
    refine ⟨_, rfl, z, _, dx, _, _, rfl, ex, Es.cl, Es.nN, flA_n _ _, _, rfl, _, _, dp_ints (rat_ints eu), dp_ints (rat_ints hr), shaped_ints _, shaped_ints _, ?_⟩
    rw [eqv_ints, decide_eq_true rfl]
    exact q
abbrev st_law_some_number : Stmt := top 39
theorem sc_law_some_number : FnScope ["_law_pen_here"] ["_law_pen_here"] (defScope st_law_some_number) := ⟨rfl, rfl, rfl, by decide +kernel, rfl, by decide +kernel, by decide +kernel⟩
theorem ok_law_some_number (B : Blt mg)  {f_law_draw : Addr} {fd_law_draw : FuncData} (D_law_draw : DefAt K mg "_law_draw" st_law_draw ["_law_pen_here", "_law_many"] f_law_draw fd_law_draw) {f_law_pick : Addr} {fd_law_pick : FuncData} (D_law_pick : DefAt K mg "_law_pick" st_law_pick ["_law_pen_here", "_law_some"] f_law_pick fd_law_pick) {f_law_big : Addr} {fd_law_big : FuncData} (D_law_big : DefAt K mg "_law_big" st_law_big ["_law_pen_here", "_law_figures"] f_law_big fd_law_big) {f_law_gcd : Addr} {fd_law_gcd : FuncData} (D_law_gcd : DefAt K mg "_law_gcd" st_law_gcd ["_law_one", "_law_two"] f_law_gcd fd_law_gcd) {f_law_q : Addr} {fd_law_q : FuncData} (D_law_q : DefAt K mg "_law_q" st_law_q ["_law_top", "_law_bottom"] f_law_q fd_law_q) {f_law_ratio : Addr} {fd_law_ratio : FuncData} (D_law_ratio : DefAt K mg "_law_ratio" st_law_ratio ["_law_pen_here", "_law_figures"] f_law_ratio fd_law_ratio) {f_law_some_number : Addr} {fd_law_some_number : FuncData} (D_law_some_number : DefAt K mg "_law_some_number" st_law_some_number ["_law_pen_here"] f_law_some_number fd_law_some_number) : FnOk P w K mg base CX0 5 f_law_some_number fd_law_some_number ["_law_pen_here"] spSome := by
  have OK_law_pick : FnOk P w K mg base CX0 2 f_law_pick fd_law_pick ["_law_pen_here", "_law_some"] (spPick K) := ok_law_pick B  D_law_draw D_law_pick
  have OK_law_ratio : FnOk P w K mg base CX0 4 f_law_ratio fd_law_ratio ["_law_pen_here", "_law_figures"] spRatL := ok_law_ratio B  D_law_draw D_law_pick D_law_big D_law_gcd D_law_q D_law_ratio
  refine D_law_some_number.F.ok sc_law_some_number (fun vs H Q E h => ?_) (fun cdv A outer s H vs Q E hr h => ?_)
  · obtain ⟨p, c, m, rfl, _⟩ := h; rfl
  · have hu := hu_of hr
    refine ⟨_, (pss_one (ps_ret (pe_call OK_law_pick (hr.mono (by decide)) rfl D_law_pick.m D_law_pick.F.kp D_law_pick.b .nil pass0 (pa_cons (pv 0) (pa_cons (pe_lst (pa_cons (pe_tup (pa_cons pe_int (pa_cons pe_int pa_nil))) (pa_cons (pe_call OK_law_ratio (hr.mono (by decide)) rfl D_law_ratio.m D_law_ratio.F.kp D_law_ratio.b .nil pass0 (pa_cons (pv 0) (pa_cons pe_int pa_nil))) (pa_cons (pe_call OK_law_ratio (hr.mono (by decide)) rfl D_law_ratio.m D_law_ratio.F.kp D_law_ratio.b .nil pass0 (pa_cons (pv 0) (pa_cons pe_int pa_nil))) (pa_cons (pe_call OK_law_ratio (hr.mono (by decide)) rfl D_law_ratio.m D_law_ratio.F.kp D_law_ratio.b .nil pass0 (pa_cons (pv 0) (pa_cons pe_int pa_nil))) pa_nil))))) pa_nil))))), ?_⟩
    obtain ⟨p, c, m, rfl, P, hm, q⟩ := h
    refine ⟨_, rfl, (by show 2 ≤ sizeLine; decide), fun t0 ht0 => ?_⟩
    have k0 := Same.p (AL.Same.new (o := .tup [.int 0, .int 1]) ht0)
    have r0 := upd_same (H := H) (a := t0) (o := .tup [.int 0, .int 1])
    have P0 := P.same (AL.Same.new (o := .tup [.int 0, .int 1]) ht0)
    refine ⟨_, rfl, p, c, m, 3, rfl, P0, by omega, by decide, by decide, fun t1 a1 b1 H1 s1 r1 P1 k1 => ?_⟩
    refine ⟨_, rfl, p, c, m + 300, 30, rfl, P1, by omega, by decide, by decide, fun t2 a2 b2 H2 s2 r2 P2 k2 => ?_⟩
    refine ⟨_, rfl, p, c, m + 600, 1, rfl, P2, by omega, by decide, by decide, fun t3 a3 b3 H3 s3 r3 P3 k3 => ?_⟩
    refine ⟨(by show 4 ≤ sizeLine; decide), fun l hl => ?_⟩
    have nl := AL.Same.new (o := .lst [.ref t0, .ref t1, .ref t2, .ref t3]) hl
    refine ⟨p, c, l, m + 900, _, rfl, P3.same nl, by omega, SqL.of upd_same, (by show 0 < 4; decide), (by show 4 < 1000000000; decide), fun j x H4 hx P4 k4 => ?_⟩
    have k34 := (k3.trans (Same.p nl)).trans (k4.p (P3.same nl))
    have kall := ((k0.trans k1).trans k2).trans k34
    have fin : ∀ t a b, x = V.ref t → SN a b → RatAt H4 t a b → Q x H4 := fun t a b e s r => by
      rw [e]; exact q t a b H4 s r (P4.mono (by omega)) kall
    have hx' : x = .ref t0 ∨ x = .ref t1 ∨ x = .ref t2 ∨ x = .ref t3 := by
      refine pick_of (P := fun x => x = .ref t0 ∨ x = .ref t1 ∨ x = .ref t2 ∨ x = .ref t3) (fun y hy => ?_) hx
      simpa only [List.mem_cons, List.not_mem_nil, or_false] using hy
    rcases hx' with e | e | e | e
    · exact fin t0 0 1 e ⟨low_one 0, by decide, by decide⟩ (((k1.trans k2).trans k34).d.tup r0)
    · exact fin t1 a1 b1 e s1 ((k2.trans k34).d.tup r1)
    · exact fin t2 a2 b2 e s2 (k34.d.tup r2)
    · exact fin t3 a3 b3 e s3 (((Same.p nl).trans (k4.p (P3.same nl))).d.tup r3)
end
end AL
set_option Elab.async false
set_option maxRecDepth 100000
set_option exponentiation.threshold 70000
set_option maxHeartbeats 1000000
namespace AL
open PySem PySem.Spec PyProof.Rows L2 RZ LamX
section
variable {P : Program} {w : World} {K : PySem.W.Frag} {mg : Str → Option Value} {base : Heap}

abbrev st_law_error : Stmt := top 38
theorem sc_law_error : FnScope ["_law_call", "_law_found", "e"] ["_law_call"] (defScope st_law_error) := ⟨rfl, rfl, rfl, by decide +kernel, rfl, by decide +kernel, by decide +kernel⟩
def tryBody : Stmt → List Stmt
  | .Try b _ _ _ _ => b
  | _ => []
/-- data that repr can show -/
structure Shw (d : PyData) : Prop where
  a : d.showable = true
  b : d.hasDict = false
  c : d.depth ≤ 60
  e : d.shown.length ≤ sizeLine
/-- what is wanted of an error that is caught: its tuple -/
def EchE (K : PySem.W.Frag) (BN UL BZ : Addr) (Q : VK) : XK := fun cls d H =>
  (cls = .ref BN ∧ ∃ dd what v dat, d = some dd ∧ H dd = some (errN what v) ∧ Dp K H v dat ∧ Shw dat ∧ ∀ t, H t = none → Q (.ref t) (upd H t (.tup [.str "number", .str what, .str dat.shown]))) ∨
  (cls = .ref UL ∧ ∃ dd t1 t2, d = some dd ∧ H dd = some (errU t1 t2) ∧ ∀ t, H t = none → Q (.ref t) (upd H t (.tup [.str "unlike", .int 0, .ref t1, .ref t2]))) ∨
  (cls = .ref BZ ∧ ∃ dd, d = some dd ∧ H dd = some errZ ∧ ∀ t, H t = none → Q (.ref t) (upd H t (.tup [.str "zero", .int 0])))
/-- _law_error(lambda: ..): tl reads the lambda's body -/
def TErr (K : PySem.W.Frag) (BN UL BZ : Addr) : (XK → Hp → VK → Prop) → Hp → VK → Prop := fun tl H Q =>
  ∀ t0, H t0 = none → tl (EchE K BN UL BZ Q) (upd H t0 (.tup [.str "none"])) fun _ H2 => ∃ v, (some (some (V.ref t0)) : Option (Option V)) = some (some v) ∧ Q v H2
theorem call_reprS {X : Cx} {a : Addr} {oe : Obj} {pn : List (Addr × Obj)} (gd : X.A.guards = some []) (hu : X.A.units + 64 < cLine) : CallR (X.suite a ((a, oe) :: pn)) (.builtin "repr") (rReprV X.K) := call_reprV gd hu
theorem gives_error {X : Cx} {BT BN UL NU BZ CAmount fN fU fZ : Addr} {fdN fdU fdZ : FuncData} (Es : ErA X.K X.mg BT BN UL NU BZ CAmount fN fU fZ fdN fdU fdZ) (B : Blt X.mg) (gd : X.A.guards = some []) {k : Nat} (hr : Room (k + 2) X.A) {g : Addr} {cdg : Value} {q : Str} :
    GivesTo X ["_law_call", "_law_found", "e"] "_law_error" (defScope st_law_error) g cdg (defBody st_law_error) "_law_call" q (TErr X.K BN UL BZ) := by
  intro f c1 s H Q tl act hc h
  have hu2 := (Room.units (Room.deeper hr (envOfC "_law_error" (defScope st_law_error) s.heap.objs.size g cdg)))
  have gd3 : ((cxOf C8.CX0 X.prog X.w X.K X.mg X.base ["_law_call", "_law_found", "e"] "_law_error" (defScope st_law_error) g cdg X.A X.stack s H C8.E0).nox).A.guards = some [] := gd
  have hu3 : ((cxOf C8.CX0 X.prog X.w X.K X.mg X.base ["_law_call", "_law_found", "e"] "_law_error" (defScope st_law_error) g cdg X.A X.stack s H C8.E0).nox).A.units + 64 < cLine := hu2
  have inner : ∀ (W : WX) (pn : List (Addr × Obj)) (xe : Value → Shared → Prop), Takes (((cxOf C8.CX0 X.prog X.w X.K X.mg X.base ["_law_call", "_law_found", "e"] "_law_error" (defScope st_law_error) g cdg X.A X.stack s H C8.E0).nox).tr pn xe) W → PSs (((cxOf C8.CX0 X.prog X.w X.K X.mg X.base ["_law_call", "_law_found", "e"] "_law_error" (defScope st_law_error) g cdg X.A X.stack s H C8.E0).nox).tr pn xe) (tryBody ((defBody st_law_error).getD 1 (.Pass ⟨0, 0, 0, 0⟩))) (fun D σ H => ∃ Ech : XK, (∀ cls d σ2 H2, Ech cls d H2 → W cls d σ2 H2) ∧ σ[0]? = some (some (.ref f)) ∧ H c1 = some (CodeO c1 q) ∧ tl Ech H fun _ H2 => D.nx σ H2) := by
    intro W pn xe tk
    refine ⟨fun pins s2 σ H2 D I z => ?_⟩
    obtain ⟨Ech, hW, z1, z2, z3⟩ := z
    exact (pss_one (ps_expr (act W pn xe Ech _ _ tk hW))).run pins s2 σ H2 D I ⟨z1, z2, z3⟩
  refine ⟨_, (pss_cons (ps_set (i := 1) sc_law_error.nd rfl (Or.inl rfl) (pe_tup (pa_cons pe_str pa_nil)))
    (pss_cons (ps_tryL rfl rfl sc_law_error.nd L2.takes0 (tb := fun W D σ H => ∃ Ech : XK, (∀ cls d σ2 H2, Ech cls d H2 → W cls d σ2 H2) ∧ σ[0]? = some (some (V.ref f)) ∧ H c1 = some (CodeO c1 q) ∧ tl Ech H fun _ H2 => D.nx σ H2) (fun W pn xe tk _ => inner W pn xe tk) (Named.cons (i := 2) ⟨rfl, by decide, .inl Es.eT.m⟩ rfl rfl (fun a oe cls dd pn hz hf => (pss_one (ps_set (i := 1) sc_law_error.nd rfl (Or.inl rfl) (pe_tup (pa_cons pe_str (pa_cons (pe_xf Es.eT.xf (Es.eT.no _ (by decide +kernel)) hz hf (pv 2)) (pa_cons (pe_xf Es.eT.xf (Es.eT.no _ (by decide +kernel)) hz hf (pv 2)) pa_nil))))))) (Named.cons (i := 2) ⟨rfl, by decide, .inl Es.eN.m⟩ rfl rfl (fun a oe cls dd pn hz hf => (pss_one (ps_set (i := 1) sc_law_error.nd rfl (Or.inl rfl) (pe_tup (pa_cons pe_str (pa_cons (pe_xf Es.eN.xf (Es.eN.no _ (by decide +kernel)) hz hf (pv 2)) (pa_cons (pe_callB (call_reprS gd3 hu3) (by rfl) B.repr_ (by decide +kernel) (pa_cons (pe_xf Es.eN.xf (Es.eN.no _ (by decide +kernel)) hz hf (pv 2)) pa_nil)) pa_nil))))))) (Named.cons (i := 2) ⟨rfl, by decide, .inl Es.eP.m⟩ rfl rfl (fun a oe cls dd pn hz hf => (pss_one (ps_set (i := 1) sc_law_error.nd rfl (Or.inl rfl) (pe_tup (pa_cons pe_str (pa_cons (pe_callB (call_reprS gd3 hu3) (by rfl) B.repr_ (by decide +kernel) (pa_cons (pe_xf Es.eP.xf (Es.eP.no _ (by decide +kernel)) hz hf (pv 2)) pa_nil)) pa_nil)))))) (Named.cons (i := 2) ⟨rfl, by decide, .inl Es.eU.m⟩ rfl rfl (fun a oe cls dd pn hz hf => (pss_one (ps_set (i := 1) sc_law_error.nd rfl (Or.inl rfl) (pe_tup (pa_cons pe_str (pa_cons (pe_xf Es.eU.xf (Es.eU.no _ (by decide +kernel)) hz hf (pv 2)) (pa_cons (pe_xf Es.eU.xf (Es.eU.no _ (by decide +kernel)) hz hf (pv 2)) (pa_cons (pe_xf Es.eU.xf (Es.eU.no _ (by decide +kernel)) hz hf (pv 2)) pa_nil)))))))) (Named.cons (i := 2) ⟨rfl, by decide, .inl Es.eZ.m⟩ rfl rfl (fun a oe cls dd pn hz hf => (pss_one (ps_set (i := 1) sc_law_error.nd rfl (Or.inl rfl) (pe_tup (pa_cons pe_str (pa_cons (pe_xf Es.eZ.xf (Es.eZ.no _ (by decide +kernel)) hz hf (pv 2)) pa_nil)))))) .nil))))))
    (pss_one (ps_ret (pv 1))))), ?_⟩
  refine ⟨(by show 1 ≤ sizeLine; decide), fun t0 ht0 => ?_⟩
  have hc0 : c1 ≠ t0 := ne_of_none hc ht0
  refine ⟨EchE X.K BN UL BZ Q, fun cls d σ2 H2 he hlen => ?_, rfl, Eq.trans (upd_ne hc0) hc, h t0 ht0⟩
  match σ2, hlen with
  | [x, y, z], _ =>
  rcases he with ⟨rfl, dd, what, v, dat, rfl, hd, dp, sh, k1⟩ | ⟨rfl, dd, t1, t2, rfl, hd, k1⟩ | ⟨rfl, dd, rfl, hd, k1⟩
  · refine ⟨false, Es.x1, fun z => (by cases z), fun _ => ⟨true, Es.x2, fun _ a ha => ?_, fun z => by cases z⟩⟩
    refine ⟨_, rfl, rfl, rfl, dd, _, .str what, rfl, hd, (by kernel_rfl), _, rfl, rfl, rfl, dd, _, v, rfl, hd, (by kernel_rfl), v, dat, rfl, dp, sh.a, sh.b, sh.c, sh.e, (by show 3 ≤ sizeLine; decide), fun t ht => ⟨_, rfl, k1 t ht⟩⟩
  · refine ⟨false, Es.x3, fun z => (by cases z), fun _ => ⟨false, Es.x4, fun z => (by cases z), fun _ => ⟨false, Es.x5, fun z => (by cases z), fun _ => ⟨true, Es.x6, fun _ a ha => ?_, fun z => by cases z⟩⟩⟩⟩
    refine ⟨_, rfl, rfl, rfl, dd, _, .int 0, rfl, hd, (by kernel_rfl), _, rfl, rfl, rfl, dd, _, .ref t1, rfl, hd, (by kernel_rfl), _, rfl, rfl, rfl, dd, _, .ref t2, rfl, hd, (by kernel_rfl), (by show 4 ≤ sizeLine; decide), fun t ht => ⟨_, rfl, k1 t ht⟩⟩
  · refine ⟨false, Es.x7, fun z => (by cases z), fun _ => ⟨false, Es.x8, fun z => (by cases z), fun _ => ⟨false, Es.x9, fun z => (by cases z), fun _ => ⟨false, Es.x10, fun z => (by cases z), fun _ => ⟨true, Es.x11, fun _ a ha => ?_, fun z => by cases z⟩⟩⟩⟩⟩
    refine ⟨_, rfl, rfl, rfl, dd, _, .int 0, rfl, hd, (by kernel_rfl), (by show 2 ≤ sizeLine; decide), fun t ht => ⟨_, rfl, k1 t ht⟩⟩


/-- a def that is called with a lambda, as it stands behind the top -/
structure LamFn (K : PySem.W.Frag) (mg : Str → Option Value) (x : Str) (st : Stmt) (a : Str) (g : Addr) (cd : Value) : Prop where
  ex : ∃ (oc : Value) (od : Option Addr) (kV doc pm : Value) (an : Option Addr) (ct : Value) (sl : Array (Option Value)), K.lookup g = some ⟨oc, od, .func (PySem.W.fnOf x x (defArgs st) (defBody st) (defScope st) .none kV doc pm an cd ct), sl⟩ ∧ L2.Binds K (PySem.W.fnOf x x (defArgs st) (defBody st) (defScope st) .none kV doc pm an cd ct) [a] []
  c : PySem.W.codeIn K cd x = true
  kp : PySem.W.keepIn K (.ref g) = true
  m : mg x = some (.ref g)
/-- a def that makes lambdas: its code object at c -/
structure DefC (K : PySem.W.Frag) (mg : Str → Option Value) (x : Str) (st : Stmt) (ps : List Str) (f c : Addr) (fd : FuncData) : Prop where
  ex : ∃ (oc : Value) (od : Option Addr) (kV doc pm : Value) (an : Option Addr) (ct : Value) (sl : Array (Option Value)), fd = PySem.W.fnOf x x (defArgs st) (defBody st) (defScope st) .none kV doc pm an (.ref c) ct ∧ K.lookup f = some ⟨oc, od, .func fd, sl⟩ ∧ PySem.W.codeIn K (.ref c) x = true
  kp : PySem.W.keepIn K (.ref f) = true
  m : mg x = some (.ref f)
  b : Binds K fd ps []
structure TbS (base : Heap) (mg : Str → Option Value) (c1 P1 c2 P2 c3 P3 : Addr) : Prop where
  t1 : TabB base mg c1 P1
  t2 : TabB base mg c2 P2
  t3 : TabB base mg c3 P3
  n12 : P1 ≠ P2
  n13 : P1 ≠ P3
  n23 : P2 ≠ P3
def lq (f : Str) : Str := (f ++ ".<locals>.") ++ "<lambda>"
def TT (P1 P2 P3 : Addr) : List (Addr × Str) := [(P1, lq "_law_sums_right"), (P2, lq "_law_products_right"), (P3, lq "law")]
theorem tt1 {base : Heap} {mg : Str → Option Value} {c1 P1 c2 P2 c3 P3 : Addr} (T : TbS base mg c1 P1 c2 P2 c3 P3) : (P1, lq "_law_sums_right") ∈ TT P1 P2 P3 ∧ ∀ p ∈ TT P1 P2 P3, p.1 = P1 → p.2 = lq "_law_sums_right" := by
  refine ⟨by simp [TT], fun p hp e => ?_⟩
  simp only [TT, List.mem_cons, List.not_mem_nil, or_false] at hp
  rcases hp with rfl | rfl | rfl
  · rfl
  · exact (T.n12 e.symm).elim
  · exact (T.n13 e.symm).elim
theorem tt2 {base : Heap} {mg : Str → Option Value} {c1 P1 c2 P2 c3 P3 : Addr} (T : TbS base mg c1 P1 c2 P2 c3 P3) : (P2, lq "_law_products_right") ∈ TT P1 P2 P3 ∧ ∀ p ∈ TT P1 P2 P3, p.1 = P2 → p.2 = lq "_law_products_right" := by
  refine ⟨by simp [TT], fun p hp e => ?_⟩
  simp only [TT, List.mem_cons, List.not_mem_nil, or_false] at hp
  rcases hp with rfl | rfl | rfl
  · exact (T.n12 e).elim
  · rfl
  · exact (T.n23 e.symm).elim
theorem tt3 {base : Heap} {mg : Str → Option Value} {c1 P1 c2 P2 c3 P3 : Addr} (T : TbS base mg c1 P1 c2 P2 c3 P3) : (P3, lq "law") ∈ TT P1 P2 P3 ∧ ∀ p ∈ TT P1 P2 P3, p.1 = P3 → p.2 = lq "law" := by
  refine ⟨by simp [TT], fun p hp e => ?_⟩
  simp only [TT, List.mem_cons, List.not_mem_nil, or_false] at hp
  rcases hp with rfl | rfl | rfl
  · exact (T.n13 e).elim
  · exact (T.n23 e).elim
  · rfl
theorem okGC {P : Program} {w : World} {K : PySem.W.Frag} {mg : Str → Option Value} {base : Heap} {x : Str} {st : Stmt} {f c : Addr} {fd : FuncData} {N ps qs : List Str} {k : Nat} {sp : Sp}
    (F : DefC K mg x st qs f c fd) (S : FnScope N ps (defScope st)) (len : ∀ xs H Q E, sp xs H Q E → xs.length = ps.length)
    (body : ∀ (A : Around) (ol : List Env) (s : Shared) (H : Hp) (xs : List V) (Q : VK) (E : XK), A.guards = some [] → Room k (A.deeper (envOfC x (defScope st) s.heap.objs.size f (.ref c))) →
      sp xs H Q E → ∃ t, PSs (cxOf CX0 P w K mg base N x (defScope st) f (.ref c) A ol s H E).nox (defBody st) t ∧ t { nx := fun _ H' => Q .non H', rt := Q } (L2.start N xs) H) :
    FnG P w K mg base CX0 (k + 1) f fd ps sp := by
  obtain ⟨oc, od, kV, doc, pm, an, ct, sl, efd, look, code⟩ := F.ex
  subst efd
  constructor
  · exact len
  · intro A ol s H ar us xs Q E gd room e0 bd vals wish
    have here : K.In s.heap := e0.mod.kin.keeps fun b o z => (e0.bs b o z).1
    have free : s.heap.NoLimit := e0.mod.nolimit.keeps fun b o z => (e0.bs b o z).1
    have kinds : ∀ y ∈ ps.zip us, (defScope st).names.lookup y.1 = some .local ∨ ((defScope st).names.lookup y.1 = some .cell ∧ ((cellsFrom (s.heap.objs.size + 1) (defScope st).names []).lookup y.1).isSome = true) := by
      rintro ⟨n, v⟩ hy
      cases S.par n (List.of_mem_zip hy).1 with
      | inl q => exact .inl q
      | inr q => exact .inr ⟨q, PySem.W.cellsFrom_some _ _ _ (.inl q)⟩
    refine codeAny_call_function room.depth (here _ _ look) rfl S.co S.gen rfl (PySem.W.codeRec_of here code) (bd _ _ _ _ (wpAny_newFunctionEnv_cells S.kind kinds fun env hv s1 ic => ?_))
    subst hv
    refine ⟨free.keeps ic.toInCall.keep, codeAny_func ?_⟩
    obtain ⟨t, run, rd⟩ := body A ol s H xs Q E gd (room.deeper _) wish
    have I0 := inv_start (CX := CX0) (P := P) (w := w) (cd := .ref c) (E := E) S room.hd e0 (len _ _ _ _ wish) vals ic
    refine wpAny_mono (run.nox.run [] s1 _ H _ I0 rd) (fun fl s2 z => ?_) fun _ _ z => z
    cases fl with
    | brk => obtain ⟨_, _, _, no⟩ := z; exact no.elim
    | cont => obtain ⟨_, _, _, no⟩ := z; exact no.elim
    | next =>
      obtain ⟨σ2, H2, J, q⟩ := z
      exact ⟨V.non, H2, J.os, J.bare, J.base, J.hok, rfl, q⟩
    | ret u =>
      obtain ⟨v, σ2, H2, J, rv, q⟩ := z
      exact ⟨v, H2, J.os, J.bare, J.base, J.hok, rv, q⟩
/-- _law_error(lambda: body) -/
theorem pe_lamE {X : Cx} {T : List (Addr × Str)} {BT BN UL NU BZ CAmount fN fU fZ ge c Pt : Addr} {fdN fdU fdZ : FuncData} (Es : ErA X.K X.mg BT BN UL NU BZ CAmount fN fU fZ fdN fdU fdZ) (B : Blt X.mg) (gd : X.A.guards = some []) {cde : Value} (De : LamFn X.K X.mg "_law_error" st_law_error "_law_call" ge cde)
    {k : Nat} {params : Arguments} {body : Expr} {scope : Scope} {t : XK → TE} {p lpos pos : Pos} (hg : Gl X "_law_error") (TB : TabB X.base X.mg c Pt) (hcode : X.env.code = .ref c) (hm : (Pt, X.env.qual ++ "<lambda>") ∈ T ∧ ∀ p ∈ T, p.1 = Pt → p.2 = X.env.qual ++ "<lambda>") (hr : Room (k + 2) X.A) (L : LamS X.env.scope scope) (hdef : defaultsOf params X.env = ([], []))
    (hbind : ∀ (q : Str) (cl : List (Str × Addr)) (pm cv ctv : Value), bindArgs (PySem.W.kla_fn "<lambda>" q params body scope cl pm cv ctv) ⟨[], []⟩ = pure [])
    (hbody : ∀ (A : Around) (outer : List Env) (s : Shared) (H : Hp) (E : XK) (f c' : Addr), Room k (A.deeper (lamEnv X scope s.heap.objs.size f c')) → PE (lamCx X A outer s H E scope f c') body (t E)) :
    PE X (.Call (.Name "_law_error" p) [.Lambda params body scope lpos] [] pos) (tLam T (TErr X.K BN UL BZ) t) := by
  obtain ⟨oc, od, kV, doc, pm, an, ct, sl, lk, hb⟩ := De.ex
  exact pe_lamcall hg De.m De.kp lk De.c hb sc_law_error rfl (.inl rfl) (gives_error Es B gd hr) TB hcode hm.1 hm.2 hr L hdef hbind hbody

end
end AL
set_option Elab.async false
set_option maxRecDepth 100000
set_option exponentiation.threshold 70000
set_option maxHeartbeats 1000000
namespace AL
open PySem PySem.Spec PyProof.Rows L2 RZ LamX
section
variable {P : Program} {w : World} {K : PySem.W.Frag} {mg : Str → Option Value} {base : Heap}

theorem make_okN {K : PySem.W.Frag} {CA BN t x dx : Addr} {H : Hp} {W : VK} {E : XK} {n : V} {es : List Int} {p a : Int} {q b : Nat} (ht : TupI H t es) (ne : es ≠ []) (le : es.length ≤ 60) (hr : RatV K H n (some (p, q))) (m : Mid p q) (e : nrm p q = (a, b)) (l : Low a b) (m2 : Mid a b)
    (h1 : H x = none) (h2 : H dx = none) (h3 : dx ≠ x) (k : ∀ H', Same H H' → Amt CA H' x es a b → W .non H') : spIniA K CA BN [.ref x, .ref t, n] (upd (upd H dx (.own x)) x (.ins CA dx [])) W E := by
  have s0 : Same H (upd (upd H dx (.own x)) x (.ins CA dx [])) := fun b o e => by
    rw [upd_ne (ne_of_none e h1), upd_ne (ne_of_none e h2)]; exact e
  refine ⟨x, dx, _, _, rfl, upd_same, .inr ⟨t, es, rfl, s0 _ _ ht, ne, le, .inr ⟨p, q, ratV_same hr s0, m, fun r H' kp hx hr' => ?_⟩⟩⟩
  have s1 : Same H H' := fun b o e => kp b o (ne_of_none e h1) (s0 b o e)
  rw [e] at hr'
  exact k H' s1 ⟨⟨dx, t, r, hx, s1 _ _ ht, hr'⟩, ne, le, l, m2⟩
theorem nrm_scale {a : Int} {b k : Nat} (s : SN a b) (hk : 0 < k) : nrm (a * (k : Int)) (b * k) = (a, b) := by
  refine nrm_eq s.low.1 (Nat.mul_pos s.low.1 hk) s.low.2 ?_
  rw [Int.natCast_mul, Int.mul_assoc, Int.mul_comm (b : Int)]
theorem mid_scale {a : Int} {b k : Nat} (s : SN a b) (hk : 0 < k) (h9 : k < 10) : Mid (a * (k : Int)) (b * k) := by
  have k2 : k < 2 ^ 4 := by show k < 16; omega
  refine ⟨Nat.mul_pos s.low.1 hk, ?_, up6 (mul2 1000 4 s.sm.2 k2) (by decide)⟩
  rw [Int.natAbs_mul, Int.natAbs_natCast]
  exact up6 (mul2 1000 4 s.sm.1 k2) (by decide)
/-- a pair of exponents and of a ratio -/
structure PairAt (H : Hp) (o : Addr) (es : List Int) (a : Int) (b : Nat) : Prop where
  ex : ∃ t r, H o = some (.tup [.ref t, .ref r]) ∧ TupI H t es ∧ RatAt H r a b
theorem PairAt.keep {H H' : Hp} {o : Addr} {es : List Int} {a : Int} {b : Nat} (h : PairAt H o es a b) (k : KeepD H H') : PairAt H' o es a b := by
  obtain ⟨t, r, h1, h2, h3⟩ := h.ex
  exact ⟨t, r, k.tup h1, k.tup h2, k.tup h3⟩
theorem Same.ext {H H' : Hp} (s : Same H H') : ExtN H H' := fun b o h _ => s b o h
theorem tabs_same {T : List (Addr × Str)} {H H' : Hp} (t : Tabs T H) (s : Same H H') : Tabs T H' := tabs_p t (Same.p s)
theorem dp_ext {K : PySem.W.Frag} {H H' : Hp} {v : V} {d : PyData} (e : ExtN H H') (h : Dp K H v d) : Dp K H' v d := by
  have rd : ∀ {a : Addr} {u : HO}, (∀ ps, u ≠ .tbl ps) → Rd H a u → Rd H' a u := by
    intro a u nu h
    rcases h with h | ⟨o, h⟩
    · exact .inl (e _ _ h nu)
    · exact .inr ⟨o, e _ _ h (fun ps z => by cases z)⟩
  refine dp_mono (fun a xs z => ?_) (fun a xs z => ?_) d v h
  · rcases z with z | z
    · exact .inl (rd (fun ps z => by cases z) z)
    · exact .inr z
  · rcases z with z | z
    · exact .inl (rd (fun ps z => by cases z) z)
    · exact .inr z
section
variable {K : PySem.W.Frag} {T : List (Addr × Str)} {BN UL BZ : Addr} {tl : XK → Hp → VK → Prop} {H : Hp} {Q : VK} {es fs : List Int} {what : Str} {v : V} {dat : PyData}
theorem lamU (h : ∀ E H1 Q', ExtN H H1 → ThrowU UL H1 es fs E → tl E H1 Q')
    (k : ∀ t3 t1 t2 H3, ExtN H H3 → Tabs T H3 → H3 t3 = some (.tup [.str "unlike", .int 0, .ref t1, .ref t2]) → TupI H3 t1 es → TupI H3 t2 fs → Q (.ref t3) H3) : ∀ H1, ExtN H H1 → Tabs T H1 → TErr K BN UL BZ tl H1 Q := by
  intro H1 e1 T1 t0 ht0
  refine h _ _ _ (e1.trans (Same.ext (AL.Same.new ht0))) ?_
  intro t1 t2 d H2 h1 h2 hd s2
  refine .inr (.inl ⟨rfl, d, t1, t2, rfl, upd_same, fun t3 ht3 => ?_⟩)
  have n1 := AL.Same.new (o := .tup [.str "none"]) ht0
  have n2 := AL.Same.new (o := errU t1 t2) hd
  have n3 := AL.Same.new (o := .tup [.str "unlike", .int 0, .ref t1, .ref t2]) ht3
  have all := ((n1.trans s2).trans n2).trans n3
  exact k t3 t1 t2 _ (e1.trans (Same.ext all)) (tabs_same T1 all) upd_same (n3 _ _ (n2 _ _ h1)) (n3 _ _ (n2 _ _ h2))
theorem lamZ (h : ∀ E H1 Q', ExtN H H1 → (∀ dd, H1 dd = none → E (.ref BZ) (some dd) (upd H1 dd errZ)) → tl E H1 Q')
    (k : ∀ t3 H3, ExtN H H3 → Tabs T H3 → H3 t3 = some (.tup [.str "zero", .int 0]) → Q (.ref t3) H3) : ∀ H1, ExtN H H1 → Tabs T H1 → TErr K BN UL BZ tl H1 Q := by
  intro H1 e1 T1 t0 ht0
  refine h _ _ _ (e1.trans (Same.ext (AL.Same.new ht0))) ?_
  intro d hd
  refine .inr (.inr ⟨rfl, d, rfl, upd_same, fun t3 ht3 => ?_⟩)
  have all := ((AL.Same.new (o := .tup [.str "none"]) ht0).trans (AL.Same.new (o := errZ) hd)).trans (AL.Same.new (o := .tup [.str "zero", .int 0]) ht3)
  exact k t3 _ (e1.trans (Same.ext all)) (tabs_same T1 all) upd_same
theorem lamN (dp : Dp K H v dat) (sh : Shw dat) (h : ∀ E H1 Q', ExtN H H1 → (∀ d H2, H2 d = none → Same H1 H2 → E (.ref BN) (some d) (upd H2 d (errN what v))) → tl E H1 Q')
    (k : ∀ t3 H3, ExtN H H3 → Tabs T H3 → H3 t3 = some (.tup [.str "number", .str what, .str dat.shown]) → Q (.ref t3) H3) : ∀ H1, ExtN H H1 → Tabs T H1 → TErr K BN UL BZ tl H1 Q := by
  intro H1 e1 T1 t0 ht0
  refine h _ _ _ (e1.trans (Same.ext (AL.Same.new ht0))) ?_
  intro d H2 hd s2
  have n1 := AL.Same.new (o := .tup [.str "none"]) ht0
  have n2 := AL.Same.new (o := errN what v) hd
  refine .inl ⟨rfl, d, what, v, dat, rfl, upd_same, dp_ext (e1.trans (Same.ext ((n1.trans s2).trans n2))) dp, sh, fun t3 ht3 => ?_⟩
  have all := ((n1.trans s2).trans n2).trans (AL.Same.new (o := .tup [.str "number", .str what, .str dat.shown]) ht3)
  exact k t3 _ (e1.trans (Same.ext all)) (tabs_same T1 all) upd_same
end
theorem tabs_lst {T : List (Addr × Str)} {H : Hp} {l : Addr} {xs ys : List V} (t : Tabs T H) (h : H l = some (.lst xs)) : Tabs T (upd H l (.lst ys)) := fun p hp => by
  obtain ⟨ps, g1, g2, g3⟩ := t p hp
  have ne : ∀ {b : Addr} {o : HO}, H b = some o → (∀ v, o ≠ .lst v) → upd H l (.lst ys) b = some o := fun {b o} e n => by
    rw [upd_ne (fun w => n xs (by rw [w, h] at e; exact (Option.some.inj e).symm))]; exact e
  refine ⟨ps, ne g1 (fun v z => by cases z), g2, fun pos cv hc => ?_⟩
  obtain ⟨c, e1, e2⟩ := g3 pos cv hc
  exact ⟨c, e1, ne e2 (fun v z => by unfold CodeO at z; cases z)⟩
theorem tup_lst {H : Hp} {l a : Addr} {xs ys zs : List V} (h : H l = some (.lst xs)) (e : H a = some (.tup zs)) : upd H l (.lst ys) a = some (.tup zs) := by
  rw [upd_ne (fun z => by rw [z, h] at e; cases e)]; exact e
theorem bool_len (b : Bool) : (PyData.bool b).shown.length ≤ sizeLine := by cases b <;> decide +kernel
def zeroD : PyData := .tuple [.str "zero", .int 0]
theorem shaped_zero : SeqAt.shaped zeroD = true := by decide +kernel
/-- the due answer of unlike exponents, as data -/
def dueD (es fs : List Int) : PyData := .tuple [.str "unlike", .int 0, .tuple (es.map PyData.int), .tuple (fs.map PyData.int)]
theorem dp_due {K : PySem.W.Frag} {H : Hp} {t t1 t2 : Addr} {es fs : List Int} (h : H t = some (.tup [.str "unlike", .int 0, .ref t1, .ref t2])) (h1 : TupI H t1 es) (h2 : TupI H t2 fs) : Dp K H (.ref t) (dueD es fs) :=
  .tup (SqT.of h) (.cons (.str _) (.cons (.int _) (.cons (dp_ints h1) (.cons (dp_ints h2) .nil))))
theorem shaped_due (es fs : List Int) : SeqAt.shaped (.list [dueD es fs, dueD es fs, dueD es fs]) = true := by
  have c1 := can_ints es
  have c2 := can_ints fs
  unfold SeqAt.shaped dueD
  simp [PyData.canLay0, PyData.canLayAll0, PyData.depth, PyData.depthAll, c1.1, c1.2, c2.1, c2.2]
  decide +kernel
/-- _law_sums_right(pen, one, two), _law_products_right -/
def spRight (T : List (Addr × Str)) : Sp := fun vs H Q _ => ∃ (p c o1 o2 : Addr) (m : Nat) (es fs : List Int) (a1 a2 : Int) (b1 b2 : Nat), vs = [.ref p, .ref o1, .ref o2] ∧ Pen H p c m ∧ m < 700000000 ∧ PairAt H o1 es a1 b1 ∧ PairAt H o2 fs a2 b2 ∧ SN a1 b1 ∧ SN a2 b2 ∧
  es ≠ [] ∧ es.length ≤ 60 ∧ fs.length = es.length ∧ Tabs T H ∧ ∀ H', Pen H' p c (m + 10) → Tabs T H' → KeepD H H' → Q (.bl true) H'

end
end AL
set_option Elab.async false
set_option maxRecDepth 100000
set_option exponentiation.threshold 70000
set_option maxHeartbeats 1000000
namespace AL
open PySem PySem.Spec PyProof.Rows L2 RZ LamX
section
variable {P : Program} {w : World} {K : PySem.W.Frag} {mg : Str → Option Value} {base : Heap}
abbrev st_law_sums_right : Stmt := top 41
theorem sc_law_sums_right : FnScope ["_law_pen_here", "_law_one", "_law_two", "_law_a", "_law_b", "_law_due", "_law_found"] ["_law_pen_here", "_law_one", "_law_two"] (defScope st_law_sums_right) := ⟨rfl, rfl, rfl, by decide +kernel, rfl, by decide +kernel, by decide +kernel⟩
theorem ok_law_sums_right (B : Blt mg) {BT BN UL NU BZ CAmount fN fU fZ : Addr} {fdN fdU fdZ : FuncData} (Es : ErA K mg BT BN UL NU BZ CAmount fN fU fZ fdN fdU fdZ) {c1 P1 c2 P2 c3 P3 ge : Addr} {cde : Value} (TBS : TbS base mg c1 P1 c2 P2 c3 P3) (De : LamFn K mg "_law_error" st_law_error "_law_call" ge cde) {fis_whole : Addr} {fdis_whole : FuncData} (Dis_whole : DefAt K mg "is_whole" stis_whole ["value"] fis_whole fdis_whole) {fare_integers : Addr} {fdare_integers : FuncData} (Dare_integers : DefAt K mg "are_integers" stare_integers ["items"] fare_integers fdare_integers) {flowest : Addr} {fdlowest : FuncData} (Dlowest : DefAt K mg "lowest" stlowest ["top", "bottom"] flowest fdlowest) {fas_ratio : Addr} {fdas_ratio : FuncData} (Das_ratio : DefAt K mg "as_ratio" stas_ratio ["value"] fas_ratio fdas_ratio) {fis_ratio : Addr} {fdis_ratio : FuncData} (Dis_ratio : DefAt K mg "is_ratio" stis_ratio ["value"] fis_ratio fdis_ratio) {fA_init : Addr} {fdA_init : FuncData} (DA_init : IniA K "__init__" "Amount.__init__" stA_init ["self", "exponents", "number"] CAmount fA_init fdA_init) {fcheck_like : Addr} {fdcheck_like : FuncData} (Dcheck_like : DefAt K mg "check_like" stcheck_like ["one", "other"] fcheck_like fdcheck_like) {fratio_sum : Addr} {fdratio_sum : FuncData} (Dratio_sum : DefAt K mg "ratio_sum" stratio_sum ["one", "other"] fratio_sum fdratio_sum) {fA_add : Addr} {fdA_add : FuncData} (DA_add : MetA K "__add__" "Amount.__add__" stA_add ["self", "other"] CAmount fA_add fdA_add) {fA_eq : Addr} {fdA_eq : FuncData} (DA_eq : MetA K "__eq__" "Amount.__eq__" stA_eq ["self", "other"] CAmount fA_eq fdA_eq) {fA_less : Addr} {fdA_less : FuncData} (DA_less : MetA K "less" "Amount.less" stA_less ["self", "other"] CAmount fA_less fdA_less) {fratio_minus : Addr} {fdratio_minus : FuncData} (Dratio_minus : DefAt K mg "ratio_minus" stratio_minus ["one", "other"] fratio_minus fdratio_minus) {fA_sub : Addr} {fdA_sub : FuncData} (DA_sub : MetA K "__sub__" "Amount.__sub__" stA_sub ["self", "other"] CAmount fA_sub fdA_sub) {f_law_is_amount : Addr} {fd_law_is_amount : FuncData} (D_law_is_amount : DefAt K mg "_law_is_amount" st_law_is_amount ["_law_told", "_law_exponents", "_law_number"] f_law_is_amount fd_law_is_amount) {f_law_less : Addr} {fd_law_less : FuncData} (D_law_less : DefAt K mg "_law_less" st_law_less ["_law_one", "_law_two"] f_law_less fd_law_less) {f_law_gcd : Addr} {fd_law_gcd : FuncData} (D_law_gcd : DefAt K mg "_law_gcd" st_law_gcd ["_law_one", "_law_two"] f_law_gcd fd_law_gcd) {f_law_q : Addr} {fd_law_q : FuncData} (D_law_q : DefAt K mg "_law_q" st_law_q ["_law_top", "_law_bottom"] f_law_q fd_law_q) {f_law_minus : Addr} {fd_law_minus : FuncData} (D_law_minus : DefAt K mg "_law_minus" st_law_minus ["_law_one", "_law_two"] f_law_minus fd_law_minus) {f_law_draw : Addr} {fd_law_draw : FuncData} (D_law_draw : DefAt K mg "_law_draw" st_law_draw ["_law_pen_here", "_law_many"] f_law_draw fd_law_draw) {f_law_passed : Addr} {fd_law_passed : FuncData} (D_law_passed : DefAt K mg "_law_passed" st_law_passed ["_law_pen_here", "_law_ratio_here"] f_law_passed fd_law_passed) {f_law_plus : Addr} {fd_law_plus : FuncData} (D_law_plus : DefAt K mg "_law_plus" st_law_plus ["_law_one", "_law_two"] f_law_plus fd_law_plus) {f_law_sums_right : Addr} {fd_law_sums_right : FuncData} (D_law_sums_right : DefC K mg "_law_sums_right" st_law_sums_right ["_law_pen_here", "_law_one", "_law_two"] f_law_sums_right c1 fd_law_sums_right) : FnG P w K mg base CX0 24 f_law_sums_right fd_law_sums_right ["_law_pen_here", "_law_one", "_law_two"] (spRight (TT P1 P2 P3)) := by
  have OKA_add : FnOk P w K mg base (L2.CX P w) 9 fA_add fdA_add ["self", "other"] (spSumA CAmount UL sumR) := okA_add B Es Dis_whole Dare_integers Dlowest Das_ratio Dis_ratio DA_init Dcheck_like Dratio_sum DA_add
  have OKA_eq : FnOk P w K mg base (L2.CX P w) 3 fA_eq fdA_eq ["self", "other"] (spEqA K CAmount) := okA_eq B Es DA_eq
  have OKA_init : FnOk P w K mg base (L2.CX P w) 6 fA_init fdA_init ["self", "exponents", "number"] (spIniA K CAmount BN) := okA_init B Es Dis_whole Dare_integers Dlowest Das_ratio Dis_ratio DA_init
  have OKA_less : FnOk P w K mg base (L2.CX P w) 6 fA_less fdA_less ["self", "other"] (spLessA CAmount UL) := okA_less B Es Dcheck_like DA_less
  have OKA_sub : FnOk P w K mg base (L2.CX P w) 9 fA_sub fdA_sub ["self", "other"] (spSumA CAmount UL difR) := okA_sub B Es Dis_whole Dare_integers Dlowest Das_ratio Dis_ratio DA_init Dcheck_like Dratio_sum Dratio_minus DA_sub
  have OK_law_is_amount : FnOk P w K mg base CX0 1 f_law_is_amount fd_law_is_amount ["_law_told", "_law_exponents", "_law_number"] (spIsAm CAmount) := ok_law_is_amount B Es D_law_is_amount
  have OK_law_less : FnOk P w K mg base CX0 1 f_law_less fd_law_less ["_law_one", "_law_two"] spLessL := ok_law_less B  D_law_less
  have OK_law_minus : FnOk P w K mg base CX0 3 f_law_minus fd_law_minus ["_law_one", "_law_two"] (spTwo difR) := ok_law_minus B  D_law_gcd D_law_q D_law_minus
  have OK_law_passed : FnOk P w K mg base CX0 2 f_law_passed fd_law_passed ["_law_pen_here", "_law_ratio_here"] (spPassI K) := ok_law_passed B  D_law_draw D_law_passed
  have OK_law_plus : FnOk P w K mg base CX0 3 f_law_plus fd_law_plus ["_law_one", "_law_two"] (spTwo sumR) := ok_law_plus B  D_law_gcd D_law_q D_law_plus
  refine okGC D_law_sums_right sc_law_sums_right (fun vs H Q E h => ?_) (fun A outer s H vs Q E gd hr h => ?_)
  · obtain ⟨p, c, o1, o2, m, es, fs, a1, a2, b1, b2, rfl, _⟩ := h; rfl
  · have hu := hu_of hr
    refine ⟨_, (pss_cons (ps_asg (pe_tup (pa_cons (pe_make DA_init.M OKA_init (hr.mono (by decide)) rfl Es.mA DA_init.b .nil passL (pa_cons (pe_ix ix_tup (pv 1) pe_int (fun _ _ => rfl)) (pa_cons (pe_call OK_law_passed (hr.mono (by decide)) rfl D_law_passed.m D_law_passed.F.kp D_law_passed.b .nil pass0 (pa_cons (pv 0) (pa_cons (pe_ix ix_tup (pv 1) pe_int (fun _ _ => rfl)) pa_nil))) pa_nil))) (pa_cons (pe_make DA_init.M OKA_init (hr.mono (by decide)) rfl Es.mA DA_init.b .nil passL (pa_cons (pe_ix ix_tup (pv 2) pe_int (fun _ _ => rfl)) (pa_cons (pe_call OK_law_passed (hr.mono (by decide)) rfl D_law_passed.m D_law_passed.F.kp D_law_passed.b .nil pass0 (pa_cons (pv 0) (pa_cons (pe_ix ix_tup (pv 2) pe_int (fun _ _ => rfl)) pa_nil))) pa_nil))) pa_nil))) (pg_tup rfl (pgs_cons (pg_name (i := 3) sc_law_sums_right.nd rfl (Or.inr rfl)) (pgs_cons (pg_name (i := 4) sc_law_sums_right.nd rfl (Or.inr rfl)) pgs_nil))))
    (pss_cons (ps_if (pt_cmpR (op_neD hr.units) (pe_ix ix_tup (pv 1) pe_int (fun _ _ => rfl)) (pe_ix ix_tup (pv 2) pe_int (fun _ _ => rfl)) (nomark _)) (pss_cons (ps_set (i := 5) sc_law_sums_right.nd rfl (Or.inl rfl) (pe_tup (pa_cons pe_str (pa_cons pe_int (pa_cons (pe_ix ix_tup (pv 1) pe_int (fun _ _ => rfl)) (pa_cons (pe_ix ix_tup (pv 2) pe_int (fun _ _ => rfl)) pa_nil))))))
    (pss_cons (ps_set (i := 6) sc_law_sums_right.nd rfl (Or.inl rfl) (pe_lst (pa_cons (pe_lamE (T := TT P1 P2 P3) (k := 16) (t := fun E => tOp (rOwn2 CAmount (spSumA CAmount UL sumR) E) (tVar 3) (tVar 4)) Es B gd De rfl TBS.t1 rfl (tt1 TBS) (hr.mono (by decide)) (lamS_by (by show lamSB (defScope st_law_sums_right) _ = true; decide +kernel)) rfl (fun _ _ _ _ _ => rfl) (fun A2 ol2 s2 H2 E2 f2 cx2 hr2 => (pe_op (op_own2 Es.sf DA_add.M OKA_add (hr2.mono (by decide)) DA_add.b (passes_call (takes_of rfl rfl rfl rfl) (fun _ _ _ _ h => h))) (pv 3) (pv 4)))) pa_nil)))
    (pss_cons (ps_expr (pe_bm PySem.F.plainAttrs_list PySem.F.slot_list_append PySem.F.type_list_append mt_append (pv 6) (pa_cons (pe_lamE (T := TT P1 P2 P3) (k := 16) (t := fun E => tOp (rOwn2 CAmount (spSumA CAmount UL difR) E) (tVar 3) (tVar 4)) Es B gd De rfl TBS.t1 rfl (tt1 TBS) (hr.mono (by decide)) (lamS_by (by show lamSB (defScope st_law_sums_right) _ = true; decide +kernel)) rfl (fun _ _ _ _ _ => rfl) (fun A2 ol2 s2 H2 E2 f2 cx2 hr2 => (pe_op (op_own2 Es.sf DA_sub.M OKA_sub (hr2.mono (by decide)) DA_sub.b (passes_call (takes_of rfl rfl rfl rfl) (fun _ _ _ _ h => h))) (pv 3) (pv 4)))) pa_nil)))
    (pss_cons (ps_expr (pe_bm PySem.F.plainAttrs_list PySem.F.slot_list_append PySem.F.type_list_append mt_append (pv 6) (pa_cons (pe_lamE (T := TT P1 P2 P3) (k := 16) (t := fun E => tMeth CAmount "less" (spLessA CAmount UL) [] E (tVar 3) (tCons (tVar 4) tNil)) Es B gd De rfl TBS.t1 rfl (tt1 TBS) (hr.mono (by decide)) (lamS_by (by show lamSB (defScope st_law_sums_right) _ = true; decide +kernel)) rfl (fun _ _ _ _ _ => rfl) (fun A2 ol2 s2 H2 E2 f2 cx2 hr2 => (pe_meth (pv 3) Es.cl DA_less.M OKA_less (hr2.mono (by decide)) DA_less.b .nil (passes_call (takes_of rfl rfl rfl rfl) (fun _ _ _ _ h => h)) (pa_cons (pv 4) pa_nil)))) pa_nil)))
    (pss_one (ps_ret (pe_and (pe_cmpR (op_eqD hr.units) (pv 6) (pe_op op_rep (pe_lst (pa_cons (pv 5) pa_nil)) pe_int) (nomark _)) (pe_one (pe_not (pe_cmpR (op_ownE DA_eq.M OKA_eq (hr.mono (by decide)) DA_eq.b passL) (pv 3) (pv 4) (nomark _))))))))))) pss_nil)
    (pss_cons (ps_if (pt_not (pt_val (pe_call OK_law_is_amount (hr.mono (by decide)) rfl D_law_is_amount.m D_law_is_amount.F.kp D_law_is_amount.b .nil pass0 (pa_cons (pe_op (op_own2 Es.sf DA_add.M OKA_add (hr.mono (by decide)) DA_add.b passL) (pv 3) (pv 4)) (pa_cons (pe_ix ix_tup (pv 1) pe_int (fun _ _ => rfl)) (pa_cons (pe_call OK_law_plus (hr.mono (by decide)) rfl D_law_plus.m D_law_plus.F.kp D_law_plus.b .nil pass0 (pa_cons (pe_ix ix_tup (pv 1) pe_int (fun _ _ => rfl)) (pa_cons (pe_ix ix_tup (pv 2) pe_int (fun _ _ => rfl)) pa_nil))) pa_nil)))))) (pss_one (ps_ret pe_bl)) pss_nil)
    (pss_cons (ps_if (pt_not (pt_val (pe_call OK_law_is_amount (hr.mono (by decide)) rfl D_law_is_amount.m D_law_is_amount.F.kp D_law_is_amount.b .nil pass0 (pa_cons (pe_op (op_own2 Es.sf DA_sub.M OKA_sub (hr.mono (by decide)) DA_sub.b passL) (pv 3) (pv 4)) (pa_cons (pe_ix ix_tup (pv 1) pe_int (fun _ _ => rfl)) (pa_cons (pe_call OK_law_minus (hr.mono (by decide)) rfl D_law_minus.m D_law_minus.F.kp D_law_minus.b .nil pass0 (pa_cons (pe_ix ix_tup (pv 1) pe_int (fun _ _ => rfl)) (pa_cons (pe_ix ix_tup (pv 2) pe_int (fun _ _ => rfl)) pa_nil))) pa_nil)))))) (pss_one (ps_ret pe_bl)) pss_nil)
    (pss_cons (ps_if (pt_cmpR op_ne (pe_callB (call_reprV gd hr.units) (by rfl) B.repr_ (by decide +kernel) (pa_cons (pe_meth (pv 3) Es.cl DA_less.M OKA_less (hr.mono (by decide)) DA_less.b .nil passL (pa_cons (pv 4) pa_nil)) pa_nil)) (pe_callB (call_reprV gd hr.units) (by rfl) B.repr_ (by decide +kernel) (pa_cons (pe_call OK_law_less (hr.mono (by decide)) rfl D_law_less.m D_law_less.F.kp D_law_less.b .nil pass0 (pa_cons (pe_ix ix_tup (pv 1) pe_int (fun _ _ => rfl)) (pa_cons (pe_ix ix_tup (pv 2) pe_int (fun _ _ => rfl)) pa_nil))) pa_nil)) (nomark _)) (pss_one (ps_ret pe_bl)) pss_nil)
    (pss_one (ps_ret (pe_cmpR op_eq (pe_cmpR (op_ownE DA_eq.M OKA_eq (hr.mono (by decide)) DA_eq.b passL) (pv 3) (pv 4) (nomark _)) (pe_cmpR (op_eqD hr.units) (pe_ix ix_tup (pv 1) pe_int (fun _ _ => rfl)) (pe_ix ix_tup (pv 2) pe_int (fun _ _ => rfl)) (nomark _)) (nomark _))))))))), ?_⟩
    obtain ⟨p, c, o1, o2, m, es, fs, a1, a2, b1, b2, rfl, P, hm, p1, p2, s1, s2, ne, le, hl, tbs, q⟩ := h
    obtain ⟨t1, r1, ho1, ht1, hr1⟩ := p1.ex
    refine ⟨_, rfl, o1, _, _, _, rfl, rfl, SqT.of ho1, rfl, _, rfl, _, rfl, o1, _, _, _, rfl, rfl, SqT.of ho1, rfl, p, c, r1, m, a1, b1, rfl, P, by omega, hr1, s1, fun v1 k1 H1 hk0 hk9 rv1 Pn1 kp1 => ?_⟩
    intro x dx hx1 hx2 hx3
    refine make_okN (kp1.d.tup ht1) ne le rv1 (mid_scale s1 hk0 hk9) (nrm_scale s1 hk0) s1.low s1.mid hx1 hx2 hx3 fun H2 n2 ax => ⟨rfl, ?_⟩
    have kp2 := kp1.trans (Same.p n2)
    obtain ⟨t2, r2, ho2, ht2, hr2'⟩ := (p2.keep kp2.d).ex
    have Pn2 := Pn1.same n2
    refine ⟨_, rfl, o2, _, _, _, rfl, rfl, SqT.of ho2, rfl, _, rfl, _, rfl, o2, _, _, _, rfl, rfl, SqT.of ho2, rfl, p, c, r2, m + 2, a2, b2, rfl, Pn2, by omega, hr2', s2, fun v2 k2 H3 hk0' hk9' rv2 Pn3 kp3 => ?_⟩
    intro y dy hy1 hy2 hy3
    refine make_okN (kp3.d.tup ht2) (fun z => ne (List.eq_nil_of_length_eq_zero (by rw [← hl, z]; rfl))) (by omega) rv2 (mid_scale s2 hk0' hk9') (nrm_scale s2 hk0') s2.low s2.mid hy1 hy2 hy3 fun H4 n4 ay => ⟨rfl, ?_⟩
    
    refine ⟨(by show 2 ≤ sizeLine; decide), fun tt htt => ?_⟩
    refine ⟨tt, _, rfl, SqT.of upd_same, rfl, _, _, rfl, _, _, rfl, rfl, ?_⟩
    have n5 := AL.Same.new (o := .tup [.ref x, .ref y]) htt
    have k25 := (kp3.trans (Same.p n4)).trans (Same.p n5)
    have kp5 := kp2.trans k25
    have P5 := (Pn3.same n4).same n5
    have tb5 := tabs_p tbs kp5
    have ax5 := ax.keep k25.d
    have ay5 := ay.keep (Same.d n5)
    have ho1' := kp5.d.tup ho1
    have ht1' : TupI _ t1 es := kp5.d.tup ht1
    have hr1' : RatAt _ r1 a1 b1 := kp5.d.tup hr1
    have ho2' := k25.d.tup ho2
    have ht2' : TupI _ t2 fs := k25.d.tup ht2
    have hr2'' : RatAt _ r2 a2 b2 := k25.d.tup hr2'
    generalize hH5 : upd H4 tt (.tup [.ref x, .ref y]) = H5 at *
    
    refine ⟨_, rfl, o1, _, _, _, rfl, rfl, SqT.of ho1', rfl, _, rfl, o2, _, _, _, rfl, rfl, SqT.of ho2', rfl, _, _, dp_ints ht1', dp_ints ht2', shaped_ints _, shaped_ints _, _, rfl, ?_⟩
    rw [eqv_ints]
    by_cases he : es = fs
    · rw [decide_eq_true he]
      refine iteF ?_
      subst he
      have ho15 := ho1'
      have ho25 := ho2'
      have ht15 := ht1'
      have hr15 := hr1'
      have hr25 := hr2''
    
      refine ⟨_, rfl, _, rfl, x, y, rfl, rfl, ax5.ins, ay5.ins, x, y, es, es, a1, b1, a2, b2, rfl, ax5, ay5, s1.sm, s2.sm, fun _ za HAa nA azA => ⟨.inl ⟨za, rfl⟩, ?_⟩, fun ne => (ne rfl).elim⟩
      refine ⟨_, rfl, o1, _, _, _, rfl, rfl, SqT.of (nA _ _ ho15), rfl, _, rfl, o1, _, _, _, rfl, rfl, SqT.of (nA _ _ ho15), rfl, _, rfl, o2, _, _, _, rfl, rfl, SqT.of (nA _ _ ho25), rfl, r1, r2, a1, a2, b1, b2, rfl, nA _ _ hr15, nA _ _ hr25, s1.mid, s2.mid, fun u hu => ?_⟩
      have mA := AL.Same.new (o := .tup [.int (sumR a1 b1 a2 b2).1, .int ((sumR a1 b1 a2 b2).2 : Int)]) hu
      refine ⟨za, t1, u, es, _, _, rfl, azA.keep (Same.d mA), mA _ _ (nA _ _ ht15), upd_same, _, rfl, ?_⟩
      refine iteF ?_
      have sNa := nA.trans mA
      have axNa := ax5.keep (Same.d sNa)
      have ayNa := ay5.keep (Same.d sNa)
      have ho1Na := sNa _ _ ho15
      have ho2Na := sNa _ _ ho25
      have ht1Na : TupI _ t1 es := sNa _ _ ht15
      have hr1Na : RatAt _ r1 a1 b1 := sNa _ _ hr15
      have hr2Na : RatAt _ r2 a2 b2 := sNa _ _ hr25
      generalize upd HAa u (.tup [.int (sumR a1 b1 a2 b2).1, .int ((sumR a1 b1 a2 b2).2 : Int)]) = HNa at *
      clear mA azA nA hu
    
      refine ⟨_, rfl, _, rfl, x, y, rfl, rfl, axNa.ins, ayNa.ins, x, y, es, es, a1, b1, a2, b2, rfl, axNa, ayNa, s1.sm, s2.sm, fun _ zb HAb nA azA => ⟨.inl ⟨zb, rfl⟩, ?_⟩, fun ne => (ne rfl).elim⟩
      refine ⟨_, rfl, o1, _, _, _, rfl, rfl, SqT.of (nA _ _ ho1Na), rfl, _, rfl, o1, _, _, _, rfl, rfl, SqT.of (nA _ _ ho1Na), rfl, _, rfl, o2, _, _, _, rfl, rfl, SqT.of (nA _ _ ho2Na), rfl, r1, r2, a1, a2, b1, b2, rfl, nA _ _ hr1Na, nA _ _ hr2Na, s1.mid, s2.mid, fun u hu => ?_⟩
      have mA := AL.Same.new (o := .tup [.int (difR a1 b1 a2 b2).1, .int ((difR a1 b1 a2 b2).2 : Int)]) hu
      refine ⟨zb, t1, u, es, _, _, rfl, azA.keep (Same.d mA), mA _ _ (nA _ _ ht1Na), upd_same, _, rfl, ?_⟩
      refine iteF ?_
      have sNb := nA.trans mA
      have axNb := axNa.keep (Same.d sNb)
      have ayNb := ayNa.keep (Same.d sNb)
      have ho1Nb := sNb _ _ ho1Na
      have ho2Nb := sNb _ _ ho2Na
      have ht1Nb : TupI _ t1 es := sNb _ _ ht1Na
      have hr1Nb : RatAt _ r1 a1 b1 := sNb _ _ hr1Na
      have hr2Nb : RatAt _ r2 a2 b2 := sNb _ _ hr2Na
      generalize upd HAb u (.tup [.int (difR a1 b1 a2 b2).1, .int ((difR a1 b1 a2 b2).2 : Int)]) = HNb at *
      clear mA azA nA hu
    
      have ss := sNa.trans sNb
      obtain ⟨dx4, tx4, rx4, hins4, _⟩ := axNb.ex
      refine ⟨_, rfl, x, dx4, _, rfl, hins4, flA_no _ _ (by decide +kernel) (by decide +kernel), _, rfl, x, y, es, es, a1, b1, a2, b2, rfl, axNb, ayNb, fun _ => ?_, fun ne => (ne rfl).elim⟩
      refine ⟨_, .bool _, rfl, .bl _, rfl, rfl, (by show 0 ≤ 60; decide), bool_len _, _, rfl, o1, _, _, _, rfl, rfl, SqT.of ho1Nb, rfl, _, rfl, o2, _, _, _, rfl, rfl, SqT.of ho2Nb, rfl, r1, r2, a1, a2, b1, b2, rfl, hr1Nb, hr2Nb, s1.mid, s2.mid, ?_⟩
      refine ⟨_, .bool _, rfl, .bl _, rfl, rfl, (by show 0 ≤ 60; decide), bool_len _, rfl, _, rfl, ?_⟩
      refine iteNS rfl ?_
      obtain ⟨dy4, ty4, ry4, hinsy, _⟩ := ayNb.ex
      refine ⟨_, rfl, _, rfl, x, .ref CAmount, rfl, axNb.ins, TyX.base (.ins hinsy Es.cl Es.c1 Es.c2 Es.c3 Es.c4), Es.f3, x, _, es, a1, b1, rfl, axNb, .inl ⟨y, es, a2, b2, rfl, ayNb, .inr ⟨_, rfl⟩, ?_⟩⟩
      refine ⟨_, rfl, o1, _, _, _, rfl, rfl, SqT.of ho1Nb, rfl, _, rfl, o2, _, _, _, rfl, rfl, SqT.of ho2Nb, rfl, _, _, dp_ints (rat_ints hr1Nb), dp_ints (rat_ints hr2Nb), shaped_ints _, shaped_ints _, ?_⟩
      rw [eqv_ints]
      refine ⟨rfl, ?_⟩
      have eb : (decide (es = es) && decide (a1 = a2 ∧ b1 = b2)) = decide ([a1, (b1 : Int)] = [a2, (b2 : Int)]) := by
        rw [decide_eq_true rfl, Bool.true_and]
        by_cases z : a1 = a2 ∧ b1 = b2
        · rw [decide_eq_true z]; exact (decide_eq_true (by rw [z.1, z.2])).symm
        · rw [decide_eq_false z]; exact (decide_eq_false (fun w => z ⟨by injection w, by injection w with _ w; injection w with w; omega⟩)).symm
      rw [eb, decide_eq_true rfl]
      exact q _ (((P5.same ss)).mono (by omega)) (tabs_same tb5 ss) (kp5.d.trans (Same.d ss))
    · rw [decide_eq_false he]
      refine iteT ?_
      refine ⟨_, rfl, o1, _, _, _, rfl, rfl, SqT.of ho1', rfl, _, rfl, o2, _, _, _, rfl, rfl, SqT.of ho2', rfl, (by show 4 ≤ sizeLine; decide), fun td htd => ?_⟩
      have n6 := AL.Same.new (o := .tup [.str "unlike", .int 0, .ref t1, .ref t2]) htd
      have hdue := upd_same (H := H5) (a := td) (o := .tup [.str "unlike", .int 0, .ref t1, .ref t2])
      have ht16 : TupI _ t1 es := n6 _ _ ht1'
      have ht26 : TupI _ t2 fs := n6 _ _ ht2'
      have ax6 := ax5.keep (Same.d n6)
      have ay6 := ay5.keep (Same.d n6)
      have tb6 := tabs_same tb5 n6
      have P6 := P5.same n6
      have k6 := kp5.d.trans (Same.d n6)
      generalize hH6 : upd H5 td (.tup [.str "unlike", .int 0, .ref t1, .ref t2]) = H6 at *
      refine ⟨tb6, lamU (es := es) (fs := fs) (fun E H1 Q' e1 th => ?_) (fun f1 u1 w1 H7 e7 T7 hf1 hu1 hw1 => ?_)⟩
      · refine ⟨_, rfl, _, rfl, x, y, rfl, rfl, (ax6.keep (ext_d e1)).ins, (ay6.keep (ext_d e1)).ins, x, y, es, fs, a1, b1, a2, b2, rfl, ax6.keep (ext_d e1), ay6.keep (ext_d e1), s1.sm, s2.sm, fun e => (he e).elim, fun _ => th⟩
      have ax7 := ax6.keep (ext_d e7)
      have ay7 := ay6.keep (ext_d e7)
      refine ⟨(by show 1 ≤ sizeLine; decide), fun l hl => ?_⟩
      have n8 := AL.Same.new (o := .lst [.ref f1]) hl
      have hl8 := upd_same (H := H7) (a := l) (o := .lst [.ref f1])
      have ax8 := ax7.keep (Same.d n8)
      have ay8 := ay7.keep (Same.d n8)
      have tb8 := tabs_same T7 n8
      have e8 := e7.trans (Same.ext n8)
      have hf18 := n8 _ _ hf1
      have hu18 : TupI _ u1 es := n8 _ _ hu1
      have hw18 : TupI _ w1 fs := n8 _ _ hw1
      generalize hH8 : upd H7 l (.lst [.ref f1]) = H8 at *
      refine ⟨_, rfl, .inl ⟨rfl, _, SqL.of hl8⟩, tb8, lamU (es := es) (fs := fs) (fun E H1 Q' e1 th => ?_) (fun f2 u2 w2 H9 e9 T9 hf2 hu2 hw2 => ?_)⟩
      · refine ⟨_, rfl, _, rfl, x, y, rfl, rfl, (ax8.keep (ext_d e1)).ins, (ay8.keep (ext_d e1)).ins, x, y, es, fs, a1, b1, a2, b2, rfl, ax8.keep (ext_d e1), ay8.keep (ext_d e1), s1.sm, s2.sm, fun e => (he e).elim, fun _ => th⟩
      have tup9 : ∀ {a : Addr} {xs : List V}, H8 a = some (.tup xs) → H9 a = some (.tup xs) := fun h => (ext_d e9).tup h
      have hl9 : H9 l = some (.lst [.ref f1]) := (ext_d e9).lst hl8
      refine ⟨l, _, _, rfl, rfl, hl9, (by show 1 < sizeLine; decide), ?_⟩
      have hdif : ∀ b o, H6 b = some o → (∀ ps, o ≠ .tbl ps) → b ≠ l := fun b o h n z => by
        have w := e7 b o h n
        rw [z, hl] at w
        cases w
      have e9' := e8.trans e9
      have e10 : ExtN H6 (upd H9 l (.lst ([.ref f1] ++ [.ref f2]))) := fun b o h n => by rw [upd_ne (hdif b o h n)]; exact e9' b o h n
      have hl10 := upd_same (H := H9) (a := l) (o := .lst ([.ref f1] ++ [.ref f2]))
      have hf110 := tup_lst (ys := [.ref f1] ++ [.ref f2]) hl9 (tup9 hf18)
      have hu110 : TupI _ u1 es := tup_lst (ys := [.ref f1] ++ [.ref f2]) hl9 (tup9 hu18)
      have hw110 : TupI _ w1 fs := tup_lst (ys := [.ref f1] ++ [.ref f2]) hl9 (tup9 hw18)
      have hf210 := tup_lst (ys := [.ref f1] ++ [.ref f2]) hl9 hf2
      have hu210 : TupI _ u2 es := tup_lst (ys := [.ref f1] ++ [.ref f2]) hl9 hu2
      have hw210 : TupI _ w2 fs := tup_lst (ys := [.ref f1] ++ [.ref f2]) hl9 hw2
      have tb10 := tabs_lst (ys := [.ref f1] ++ [.ref f2]) T9 hl9
      generalize hH10 : upd H9 l (.lst ([.ref f1] ++ [.ref f2])) = H10 at *
      have ax10 := ax6.keep (ext_d e10)
      have ay10 := ay6.keep (ext_d e10)
      refine ⟨_, rfl, .inl ⟨rfl, _, SqL.of hl10⟩, tb10, lamU (es := es) (fs := fs) (fun E H1 Q' e1 th => ?_) (fun f3 u3 w3 H11 e11 T11 hf3 hu3 hw3 => ?_)⟩
      · obtain ⟨dz, tz, rz, hins, _⟩ := (ax10.keep (ext_d e1)).ex
        exact ⟨_, rfl, x, dz, _, rfl, hins, flA_no _ _ (by decide +kernel) (by decide +kernel), _, rfl, x, y, es, fs, a1, b1, a2, b2, rfl, ax10.keep (ext_d e1), ay10.keep (ext_d e1), fun e => (he e).elim, fun _ => th⟩
      have tup11 : ∀ {a : Addr} {xs : List V}, H10 a = some (.tup xs) → H11 a = some (.tup xs) := fun h => (ext_d e11).tup h
      have hl11 : H11 l = some (.lst [.ref f1, .ref f2]) := (ext_d e11).lst hl10
      refine ⟨l, _, _, rfl, rfl, hl11, (by show 2 < sizeLine; decide), ?_⟩
      have e11' := e10.trans e11
      have e12 : ExtN H6 (upd H11 l (.lst ([.ref f1, .ref f2] ++ [.ref f3]))) := fun b o h n => by rw [upd_ne (hdif b o h n)]; exact e11' b o h n
      have hl12 := upd_same (H := H11) (a := l) (o := .lst ([.ref f1, .ref f2] ++ [.ref f3]))
      have up12 : ∀ {a : Addr} {zs : List V}, H11 a = some (.tup zs) → upd H11 l (.lst ([.ref f1, .ref f2] ++ [.ref f3])) a = some (.tup zs) := fun h => tup_lst hl11 h
      have d1 : Dp K (upd H11 l (.lst ([.ref f1, .ref f2] ++ [.ref f3]))) (.ref f1) (dueD es fs) := dp_due (up12 (tup11 hf110)) (up12 (tup11 hu110)) (up12 (tup11 hw110))
      have d2 : Dp K (upd H11 l (.lst ([.ref f1, .ref f2] ++ [.ref f3]))) (.ref f2) (dueD es fs) := dp_due (up12 (tup11 hf210)) (up12 (tup11 hu210)) (up12 (tup11 hw210))
      have d3 : Dp K (upd H11 l (.lst ([.ref f1, .ref f2] ++ [.ref f3]))) (.ref f3) (dueD es fs) := dp_due (up12 hf3) (up12 hu3) (up12 hw3)
      have dd : Dp K (upd H11 l (.lst ([.ref f1, .ref f2] ++ [.ref f3]))) (.ref td) (dueD es fs) := dp_due ((ext_d e12).tup hdue) ((ext_d e12).tup ht16) ((ext_d e12).tup ht26)
      have tb12 := tabs_lst (ys := [.ref f1, .ref f2] ++ [.ref f3]) T11 hl11
      generalize hH12 : upd H11 l (.lst ([.ref f1, .ref f2] ++ [.ref f3])) = H12 at *
      have dl : Dp K H12 (.ref l) (.list [dueD es fs, dueD es fs, dueD es fs]) := .lst (SqL.of hl12) (.cons d1 (.cons d2 (.cons d3 .nil)))
      refine ⟨_, rfl, _, rfl, (by show 1 ≤ sizeLine; decide), fun l2 hl2 => ⟨l2, 3, _, rfl, rfl, upd_same, by decide, by decide, (by show 1 * 3 ≤ sizeLine; decide), fun l3 hl3 => ?_⟩⟩
      have m1 := AL.Same.new (o := .lst [.ref td]) hl2
      have m2 := AL.Same.new (o := .lst (List.replicate 3 [V.ref td]).flatten) hl3
      have m12 := m1.trans m2
      have dl3 : Dp K (upd (upd H12 l2 (.lst [.ref td])) l3 (.lst (List.replicate 3 [V.ref td]).flatten)) (.ref l3) (.list [dueD es fs, dueD es fs, dueD es fs]) := .lst (SqL.of upd_same) (.cons (dp_same m12 dd) (.cons (dp_same m12 dd) (.cons (dp_same m12 dd) .nil)))
      refine ⟨_, _, dp_same m12 dl, dl3, shaped_due es fs, shaped_due es fs, _, rfl, ?_⟩
      rw [SeqAt.eqv_refl _ (SeqAt.canLay_of_shaped (shaped_due es fs))]
      refine iteT ?_
      have ax14 := (ax6.keep (ext_d e12)).keep (Same.d m12)
      have ay14 := (ay6.keep (ext_d e12)).keep (Same.d m12)
      have e14 := e12.trans (Same.ext m12)
      obtain ⟨dy4, ty4, ry4, hins4, _⟩ := ay14.ex
      refine ⟨_, rfl, _, rfl, x, .ref CAmount, rfl, ax14.ins, TyX.base (.ins hins4 Es.cl Es.c1 Es.c2 Es.c3 Es.c4), Es.f3, x, _, es, a1, b1, rfl, ax14, .inl ⟨y, fs, a2, b2, rfl, ay14, .inr ⟨_, rfl⟩, ?_⟩⟩
      rw [decide_eq_false he]
      refine ⟨false, rfl, q _ ?_ ?_ ?_⟩
      · exact (pen_ext P6 e14).mono (by omega)
      · exact tabs_same tb12 m12
      · exact k6.trans (ext_d e14)
end
end AL
set_option Elab.async false
set_option maxRecDepth 100000
set_option maxHeartbeats 1000000
/-! What the law passes for exponents, numbers and powers that are none. -/
namespace AL
open PySem L2
inductive OddV (H : Hp) : V → PyData → Prop
  | non : OddV H .non .none
  | int : OddV H (.int 3) (.int 3)
  | nil {t : Addr} (h : H t = some (.tup [])) : OddV H (.ref t) (.tuple [])
  | one {t : Addr} (h : H t = some (.lst [.int 1])) : OddV H (.ref t) (.list [.int 1])
  | two {t : Addr} (h : H t = some (.tup [.str "1", .int 2])) : OddV H (.ref t) (.tuple [.str "1", .int 2])
  | tru {t : Addr} (h : H t = some (.tup [.bl true])) : OddV H (.ref t) (.tuple [.bool true])
  | par {t u : Addr} (h : H t = some (.tup [.ref u])) (k : H u = some (.tup [.int 1, .int 1])) : OddV H (.ref t) (.tuple [.tuple [.int 1, .int 1]])
  | str : OddV H (.str "1") (.str "1")
theorem OddV.keep {H H' : Hp} {v : V} {d : PyData} (h : OddV H v d) (k : KeepD H H') : OddV H' v d := by
  cases h with
  | non => exact .non
  | int => exact .int
  | nil h => exact .nil (k.tup h)
  | one h => exact .one (k.lst h)
  | two h => exact .two (k.tup h)
  | tru h => exact .tru (k.tup h)
  | par h g => exact .par (k.tup h) (k.tup g)
  | str => exact .str
theorem OddV.dp {K : PySem.W.Frag} {H : Hp} {v : V} {d : PyData} (h : OddV H v d) : Dp K H v d := by
  cases h with
  | non => exact .non
  | int => exact .int 3
  | nil h => exact .tup (SqT.of h) .nil
  | one h => exact .lst (SqL.of h) (.cons (.int _) .nil)
  | two h => exact .tup (SqT.of h) (.cons (.str _) (.cons (.int _) .nil))
  | tru h => exact .tup (SqT.of h) (.cons (.bl _) .nil)
  | par h g => exact .tup (SqT.of h) (.cons (.tup (SqT.of g) (.cons (.int _) (.cons (.int _) .nil))) .nil)
  | str => exact .str _
theorem OddV.shw {H : Hp} {v : V} {d : PyData} (h : OddV H v d) : Shw d := by
  cases h <;> exact ⟨by decide +kernel, by decide +kernel, by decide +kernel, by decide +kernel⟩
theorem OddV.msg {H : Hp} {v : V} {d : PyData} (h : OddV H v d) : SeqAt.shaped (.tuple [.str "number", .str "exponents", .str d.shown]) = true := by
  cases h <;> decide +kernel
theorem OddV.bad {K : PySem.W.Frag} {H : Hp} {v : V} {d : PyData} (h : OddV H v d) : BadExp K H v := by
  cases h with
  | non => exact .other (TyX.base .non) rfl
  | int => exact .other (TyX.base (.int 3)) rfl
  | nil h => exact .empty h
  | one h => exact .other (TyX.base (.lst h)) rfl
  | two h =>
    refine .item (fun x => (flatW x).getD false) h (by simp) (by show 2 ≤ 100; decide) (flat_all fun x hx => ?_) rfl
    simp only [List.mem_cons, List.not_mem_nil, or_false] at hx
    rcases hx with rfl | rfl <;> rfl
  | tru h =>
    refine .item (fun x => (flatW x).getD false) h (by simp) (by show 1 ≤ 100; decide) (flat_all fun x hx => ?_) rfl
    simp only [List.mem_cons, List.not_mem_nil, or_false] at hx
    rcases hx with rfl
    rfl
  | @par t u h g =>
    refine .item (fun _ => false) h (by simp) (by show 1 ≤ 100; decide) (fun H' s x hx => ?_) rfl
    simp only [List.mem_cons, List.not_mem_nil, or_false] at hx
    rcases hx with rfl
    exact ⟨_, false, false, TyX.base (.tup (s _ _ g)), rfl, rfl, rfl⟩
  | str => exact .other (TyX.base (.str _)) rfl
inductive MoreV (H : Hp) : V → PyData → Prop
  | non : MoreV H .non .none
  | str : MoreV H (.str "1") (.str "1")
  | zer {t : Addr} (h : H t = some (.tup [.int 1, .int 0])) : MoreV H (.ref t) (.tuple [.int 1, .int 0])
  | neg {t : Addr} (h : H t = some (.tup [.int 1, .int (-2)])) : MoreV H (.ref t) (.tuple [.int 1, .int (-2)])
  | lst {t : Addr} (h : H t = some (.lst [.int 1, .int 2])) : MoreV H (.ref t) (.list [.int 1, .int 2])
  | tru : MoreV H (.bl true) (.bool true)
  | tri {t : Addr} (h : H t = some (.tup [.int 1, .int 2, .int 3])) : MoreV H (.ref t) (.tuple [.int 1, .int 2, .int 3])
theorem MoreV.keep {H H' : Hp} {v : V} {d : PyData} (h : MoreV H v d) (k : KeepD H H') : MoreV H' v d := by
  cases h with
  | non => exact .non
  | str => exact .str
  | zer h => exact .zer (k.tup h)
  | neg h => exact .neg (k.tup h)
  | lst h => exact .lst (k.lst h)
  | tru => exact .tru
  | tri h => exact .tri (k.tup h)
theorem MoreV.dp {K : PySem.W.Frag} {H : Hp} {v : V} {d : PyData} (h : MoreV H v d) : Dp K H v d := by
  cases h with
  | non => exact .non
  | str => exact .str _
  | zer h => exact .tup (SqT.of h) (.cons (.int _) (.cons (.int _) .nil))
  | neg h => exact .tup (SqT.of h) (.cons (.int _) (.cons (.int _) .nil))
  | lst h => exact .lst (SqL.of h) (.cons (.int _) (.cons (.int _) .nil))
  | tru => exact .bl _
  | tri h => exact .tup (SqT.of h) (.cons (.int _) (.cons (.int _) (.cons (.int _) .nil)))
theorem MoreV.shw {H : Hp} {v : V} {d : PyData} (h : MoreV H v d) : Shw d := by
  cases h <;> exact ⟨by decide +kernel, by decide +kernel, by decide +kernel, by decide +kernel⟩
theorem MoreV.msg {H : Hp} {v : V} {d : PyData} (h : MoreV H v d) : SeqAt.shaped (.tuple [.str "number", .str "number", .str d.shown]) = true := by
  cases h <;> decide +kernel
theorem MoreV.bad {K : PySem.W.Frag} {H : Hp} {v : V} {d : PyData} (h : MoreV H v d) : RatV K H v none := by
  cases h with
  | non => exact .other (TyX.base .non) rfl rfl rfl rfl
  | str => exact .other (TyX.base (.str _)) rfl rfl rfl rfl
  | zer h => exact .sign h (by decide)
  | neg h => exact .sign h (by decide)
  | lst h => exact .other (TyX.base (.lst h)) rfl rfl rfl rfl
  | tru => exact .other (TyX.base (.bl _)) rfl rfl rfl rfl
  | tri h => exact .long h (by decide)
inductive WrV (H : Hp) : V → PyData → Prop
  | non : WrV H .non .none
  | par {t : Addr} (h : H t = some (.tup [.int 1, .int 1])) : WrV H (.ref t) (.tuple [.int 1, .int 1])
  | str : WrV H (.str "2") (.str "2")
  | tru : WrV H (.bl true) (.bool true)
  | lst {t : Addr} (h : H t = some (.lst [.int 1])) : WrV H (.ref t) (.list [.int 1])
theorem WrV.keep {H H' : Hp} {v : V} {d : PyData} (h : WrV H v d) (k : KeepD H H') : WrV H' v d := by
  cases h with
  | non => exact .non
  | par h => exact .par (k.tup h)
  | str => exact .str
  | tru => exact .tru
  | lst h => exact .lst (k.lst h)
theorem WrV.dp {K : PySem.W.Frag} {H : Hp} {v : V} {d : PyData} (h : WrV H v d) : Dp K H v d := by
  cases h with
  | non => exact .non
  | par h => exact .tup (SqT.of h) (.cons (.int _) (.cons (.int _) .nil))
  | str => exact .str _
  | tru => exact .bl _
  | lst h => exact .lst (SqL.of h) (.cons (.int _) .nil)
theorem WrV.shw {H : Hp} {v : V} {d : PyData} (h : WrV H v d) : Shw d := by
  cases h <;> exact ⟨by decide +kernel, by decide +kernel, by decide +kernel, by decide +kernel⟩
theorem WrV.msg {H : Hp} {v : V} {d : PyData} (h : WrV H v d) : SeqAt.shaped (.tuple [.str "number", .str "power", .str d.shown]) = true := by
  cases h <;> decide +kernel
theorem WrV.bad {K : PySem.W.Frag} {H : Hp} {v : V} {d : PyData} (h : WrV H v d) : ∃ u b c, TyX K H v u ∧ PySem.W.kitOne K u (.type "int") = some b ∧ PySem.W.kitOne K u (.type "bool") = some c ∧ (b && !c) = false := by
  cases h with
  | non => exact ⟨_, false, false, TyX.base .non, rfl, rfl, rfl⟩
  | par h => exact ⟨_, false, false, TyX.base (.tup h), rfl, rfl, rfl⟩
  | str => exact ⟨_, false, false, TyX.base (.str _), rfl, rfl, rfl⟩
  | tru => exact ⟨_, true, true, TyX.base (.bl _), rfl, rfl, rfl⟩
  | lst h => exact ⟨_, false, false, TyX.base (.lst h), rfl, rfl, rfl⟩
end AL
set_option Elab.async false
set_option maxRecDepth 100000
set_option exponentiation.threshold 70000
set_option maxHeartbeats 1000000
namespace AL
open PySem PySem.Spec PyProof.Rows L2 RZ LamX
section
variable {P : Program} {w : World} {K : PySem.W.Frag} {mg : Str → Option Value} {base : Heap}
abbrev st_law_products_right : Stmt := top 42
theorem sc_law_products_right : FnScope ["_law_pen_here", "_law_one", "_law_two", "_law_a", "_law_b", "_law_both", "_law_x", "_law_y", "_law_gap", "_law_n", "_law_raised", "_law_item"] ["_law_pen_here", "_law_one", "_law_two"] (defScope st_law_products_right) := ⟨rfl, rfl, rfl, by decide +kernel, rfl, by decide +kernel, by decide +kernel⟩
theorem ok_law_products_right (B : Blt mg) {BT BN UL NU BZ CAmount fN fU fZ : Addr} {fdN fdU fdZ : FuncData} (Es : ErA K mg BT BN UL NU BZ CAmount fN fU fZ fdN fdU fdZ) {c1 P1 c2 P2 c3 P3 ge : Addr} {cde : Value} (TBS : TbS base mg c1 P1 c2 P2 c3 P3) (De : LamFn K mg "_law_error" st_law_error "_law_call" ge cde) {fis_whole : Addr} {fdis_whole : FuncData} (Dis_whole : DefAt K mg "is_whole" stis_whole ["value"] fis_whole fdis_whole) {fare_integers : Addr} {fdare_integers : FuncData} (Dare_integers : DefAt K mg "are_integers" stare_integers ["items"] fare_integers fdare_integers) {flowest : Addr} {fdlowest : FuncData} (Dlowest : DefAt K mg "lowest" stlowest ["top", "bottom"] flowest fdlowest) {fas_ratio : Addr} {fdas_ratio : FuncData} (Das_ratio : DefAt K mg "as_ratio" stas_ratio ["value"] fas_ratio fdas_ratio) {fis_ratio : Addr} {fdis_ratio : FuncData} (Dis_ratio : DefAt K mg "is_ratio" stis_ratio ["value"] fis_ratio fdis_ratio) {fA_init : Addr} {fdA_init : FuncData} (DA_init : IniA K "__init__" "Amount.__init__" stA_init ["self", "exponents", "number"] CAmount fA_init fdA_init) {fratio_product : Addr} {fdratio_product : FuncData} (Dratio_product : DefAt K mg "ratio_product" stratio_product ["one", "other"] fratio_product fdratio_product) {fA_mul : Addr} {fdA_mul : FuncData} (DA_mul : MetA K "__mul__" "Amount.__mul__" stA_mul ["self", "other"] CAmount fA_mul fdA_mul) {fA_neg : Addr} {fdA_neg : FuncData} (DA_neg : MetA K "__neg__" "Amount.__neg__" stA_neg ["self"] CAmount fA_neg fdA_neg) {fratio_over : Addr} {fdratio_over : FuncData} (Dratio_over : DefAt K mg "ratio_over" stratio_over ["one", "other"] fratio_over fdratio_over) {fA_over : Addr} {fdA_over : FuncData} (DA_over : MetA K "over" "Amount.over" stA_over ["self", "other"] CAmount fA_over fdA_over) {fwhole_power : Addr} {fdwhole_power : FuncData} (Dwhole_power : DefAt K mg "whole_power" stwhole_power ["base", "n"] fwhole_power fdwhole_power) {fratio_power : Addr} {fdratio_power : FuncData} (Dratio_power : DefAt K mg "ratio_power" stratio_power ["ratio", "n"] fratio_power fdratio_power) {fA_power : Addr} {fdA_power : FuncData} (DA_power : MetA K "power" "Amount.power" stA_power ["self", "n"] CAmount fA_power fdA_power) {f_law_draw : Addr} {fd_law_draw : FuncData} (D_law_draw : DefAt K mg "_law_draw" st_law_draw ["_law_pen_here", "_law_many"] f_law_draw fd_law_draw) {f_law_is_amount : Addr} {fd_law_is_amount : FuncData} (D_law_is_amount : DefAt K mg "_law_is_amount" st_law_is_amount ["_law_told", "_law_exponents", "_law_number"] f_law_is_amount fd_law_is_amount) {f_law_gcd : Addr} {fd_law_gcd : FuncData} (D_law_gcd : DefAt K mg "_law_gcd" st_law_gcd ["_law_one", "_law_two"] f_law_gcd fd_law_gcd) {f_law_q : Addr} {fd_law_q : FuncData} (D_law_q : DefAt K mg "_law_q" st_law_q ["_law_top", "_law_bottom"] f_law_q fd_law_q) {f_law_over : Addr} {fd_law_over : FuncData} (D_law_over : DefAt K mg "_law_over" st_law_over ["_law_one", "_law_two"] f_law_over fd_law_over) {f_law_passed : Addr} {fd_law_passed : FuncData} (D_law_passed : DefAt K mg "_law_passed" st_law_passed ["_law_pen_here", "_law_ratio_here"] f_law_passed fd_law_passed) {f_law_power : Addr} {fd_law_power : FuncData} (D_law_power : DefAt K mg "_law_power" st_law_power ["_law_one", "_law_n"] f_law_power fd_law_power) {f_law_times : Addr} {fd_law_times : FuncData} (D_law_times : DefAt K mg "_law_times" st_law_times ["_law_one", "_law_two"] f_law_times fd_law_times) {f_law_products_right : Addr} {fd_law_products_right : FuncData} (D_law_products_right : DefC K mg "_law_products_right" st_law_products_right ["_law_pen_here", "_law_one", "_law_two"] f_law_products_right c2 fd_law_products_right) : FnG P w K mg base CX0 24 f_law_products_right fd_law_products_right ["_law_pen_here", "_law_one", "_law_two"] (spRight (TT P1 P2 P3)) := by
  have OKA_init : FnOk P w K mg base (L2.CX P w) 6 fA_init fdA_init ["self", "exponents", "number"] (spIniA K CAmount BN) := okA_init B Es Dis_whole Dare_integers Dlowest Das_ratio Dis_ratio DA_init
  have OKA_mul : FnOk P w K mg base (L2.CX P w) 9 fA_mul fdA_mul ["self", "other"] (spMulA CAmount) := okA_mul B Es Dis_whole Dare_integers Dlowest Das_ratio Dis_ratio DA_init Dratio_product DA_mul
  have OKA_neg : FnOk P w K mg base (L2.CX P w) 9 fA_neg fdA_neg ["self"] (spNegA CAmount) := okA_neg B Es Dis_whole Dare_integers Dlowest Das_ratio Dis_ratio DA_init DA_neg
  have OKA_over : FnOk P w K mg base (L2.CX P w) 9 fA_over fdA_over ["self", "other"] (spOverA CAmount BZ) := okA_over B Es Dis_whole Dare_integers Dlowest Das_ratio Dis_ratio DA_init Dratio_over DA_over
  have OKA_power : FnOk P w K mg base (L2.CX P w) 9 fA_power fdA_power ["self", "n"] (spPowA K CAmount BN BZ) := okA_power B Es Dis_whole Dare_integers Dlowest Das_ratio Dis_ratio DA_init Dwhole_power Dratio_power DA_power
  have OK_law_draw : FnOk P w K mg base CX0 1 f_law_draw fd_law_draw ["_law_pen_here", "_law_many"] spDraw := ok_law_draw B  D_law_draw
  have OK_law_is_amount : FnOk P w K mg base CX0 1 f_law_is_amount fd_law_is_amount ["_law_told", "_law_exponents", "_law_number"] (spIsAm CAmount) := ok_law_is_amount B Es D_law_is_amount
  have OK_law_over : FnOk P w K mg base CX0 3 f_law_over fd_law_over ["_law_one", "_law_two"] spTwoO := ok_law_over B  D_law_gcd D_law_q D_law_over
  have OK_law_passed : FnOk P w K mg base CX0 2 f_law_passed fd_law_passed ["_law_pen_here", "_law_ratio_here"] (spPassI K) := ok_law_passed B  D_law_draw D_law_passed
  have OK_law_power : FnOk P w K mg base CX0 3 f_law_power fd_law_power ["_law_one", "_law_n"] spPowL := ok_law_power B  D_law_gcd D_law_q D_law_power
  have OK_law_times : FnOk P w K mg base CX0 3 f_law_times fd_law_times ["_law_one", "_law_two"] (spTwo mulR) := ok_law_times B  D_law_gcd D_law_q D_law_times
  refine okGC D_law_products_right sc_law_products_right (fun vs H Q E h => ?_) (fun A outer s H vs Q E gd hr h => ?_)
  · obtain ⟨p, c, o1, o2, m, es, fs, a1, a2, b1, b2, rfl, _⟩ := h; rfl
  · have hu := hu_of hr
    refine ⟨_, (pss_cons (ps_asg (pe_tup (pa_cons (pe_make DA_init.M OKA_init (hr.mono (by decide)) rfl Es.mA DA_init.b .nil passL (pa_cons (pe_ix ix_tup (pv 1) pe_int (fun _ _ => rfl)) (pa_cons (pe_call OK_law_passed (hr.mono (by decide)) rfl D_law_passed.m D_law_passed.F.kp D_law_passed.b .nil pass0 (pa_cons (pv 0) (pa_cons (pe_ix ix_tup (pv 1) pe_int (fun _ _ => rfl)) pa_nil))) pa_nil))) (pa_cons (pe_make DA_init.M OKA_init (hr.mono (by decide)) rfl Es.mA DA_init.b .nil passL (pa_cons (pe_ix ix_tup (pv 2) pe_int (fun _ _ => rfl)) (pa_cons (pe_call OK_law_passed (hr.mono (by decide)) rfl D_law_passed.m D_law_passed.F.kp D_law_passed.b .nil pass0 (pa_cons (pv 0) (pa_cons (pe_ix ix_tup (pv 2) pe_int (fun _ _ => rfl)) pa_nil))) pa_nil))) pa_nil))) (pg_tup rfl (pgs_cons (pg_name (i := 3) sc_law_products_right.nd rfl (Or.inr rfl)) (pgs_cons (pg_name (i := 4) sc_law_products_right.nd rfl (Or.inr rfl)) pgs_nil))))
    (pss_cons (ps_set (i := 5) sc_law_products_right.nd rfl (Or.inl rfl) (pe_callTy call_tuple_of (by rfl) B.tuple_ (by decide +kernel) (pa_cons (pe_lc (own := [("_law_x", 6), ("_law_y", 7)]) (g := gTup K 2 (gCons (gName 6) (gCons (gName 7) gNil))) (tt := tYes) rfl sc_law_products_right.nd (pi_zipA (by rfl) B.zip_ (pa_cons (pe_ix ix_tup (pv 1) pe_int (fun _ _ => rfl)) (pa_cons (pe_ix ix_tup (pv 2) pe_int (fun _ _ => rfl)) pa_nil))) (blkOk_by (own := [("_law_x", 6), ("_law_y", 7)]) (N := ["_law_pen_here", "_law_one", "_law_two", "_law_a", "_law_b", "_law_both", "_law_x", "_law_y", "_law_gap", "_law_n", "_law_raised", "_law_item"]) (sc := defScope st_law_products_right) (by decide +kernel)) (fun _ _ _ _ _ => (pg_tup rfl (pgs_cons (pg_name (i := 6) sc_law_products_right.nd rfl (Or.inl rfl)) (pgs_cons (pg_name (i := 7) sc_law_products_right.nd rfl (Or.inl rfl)) pgs_nil)))) (fun _ _ _ _ _ => pts_nil) (fun _ _ _ _ _ => (pe_op op_add (pv 6) (pv 7)))) pa_nil)))
    (pss_cons (ps_set (i := 8) sc_law_products_right.nd rfl (Or.inl rfl) (pe_callTy call_tuple_of (by rfl) B.tuple_ (by decide +kernel) (pa_cons (pe_lc (own := [("_law_x", 6), ("_law_y", 7)]) (g := gTup K 2 (gCons (gName 6) (gCons (gName 7) gNil))) (tt := tYes) rfl sc_law_products_right.nd (pi_zipA (by rfl) B.zip_ (pa_cons (pe_ix ix_tup (pv 1) pe_int (fun _ _ => rfl)) (pa_cons (pe_ix ix_tup (pv 2) pe_int (fun _ _ => rfl)) pa_nil))) (blkOk_by (own := [("_law_x", 6), ("_law_y", 7)]) (N := ["_law_pen_here", "_law_one", "_law_two", "_law_a", "_law_b", "_law_both", "_law_x", "_law_y", "_law_gap", "_law_n", "_law_raised", "_law_item"]) (sc := defScope st_law_products_right) (by decide +kernel)) (fun _ _ _ _ _ => (pg_tup rfl (pgs_cons (pg_name (i := 6) sc_law_products_right.nd rfl (Or.inl rfl)) (pgs_cons (pg_name (i := 7) sc_law_products_right.nd rfl (Or.inl rfl)) pgs_nil)))) (fun _ _ _ _ _ => pts_nil) (fun _ _ _ _ _ => (pe_op op_sub (pv 6) (pv 7)))) pa_nil)))
    (pss_cons (ps_if (pt_not (pt_val (pe_call OK_law_is_amount (hr.mono (by decide)) rfl D_law_is_amount.m D_law_is_amount.F.kp D_law_is_amount.b .nil pass0 (pa_cons (pe_op (op_own2 Es.sf DA_mul.M OKA_mul (hr.mono (by decide)) DA_mul.b passL) (pv 3) (pv 4)) (pa_cons (pv 5) (pa_cons (pe_call OK_law_times (hr.mono (by decide)) rfl D_law_times.m D_law_times.F.kp D_law_times.b .nil pass0 (pa_cons (pe_ix ix_tup (pv 1) pe_int (fun _ _ => rfl)) (pa_cons (pe_ix ix_tup (pv 2) pe_int (fun _ _ => rfl)) pa_nil))) pa_nil)))))) (pss_one (ps_ret pe_bl)) pss_nil)
    (pss_cons (ps_if (pt_not (pt_val (pe_call OK_law_is_amount (hr.mono (by decide)) rfl D_law_is_amount.m D_law_is_amount.F.kp D_law_is_amount.b .nil pass0 (pa_cons (pe_un (un_own DA_neg.M OKA_neg (hr.mono (by decide)) DA_neg.b passL) (pv 3)) (pa_cons (pe_ix ix_tup (pv 1) pe_int (fun _ _ => rfl)) (pa_cons (pe_tup (pa_cons (pe_un un_neg (pe_ix ix_tup (pe_ix ix_tup (pv 1) pe_int (fun _ _ => rfl)) pe_int (fun _ _ => rfl))) (pa_cons (pe_ix ix_tup (pe_ix ix_tup (pv 1) pe_int (fun _ _ => rfl)) pe_int (fun _ _ => rfl)) pa_nil))) pa_nil)))))) (pss_one (ps_ret pe_bl)) pss_nil)
    (Evl.pss_cut (ps_if (pt_cmpR op_eq (pe_ix ix_tup (pe_ix ix_tup (pv 2) pe_int (fun _ _ => rfl)) pe_int (fun _ _ => rfl)) pe_int (nomark _)) (pss_one (ps_if (pt_cmpR (op_neD hr.units) (pe_lamE (T := TT P1 P2 P3) (k := 16) (t := fun E => tMeth CAmount "over" (spOverA CAmount BZ) [] E (tVar 3) (tCons (tVar 4) tNil)) Es B gd De rfl TBS.t2 rfl (tt2 TBS) (hr.mono (by decide)) (lamS_by (by show lamSB (defScope st_law_products_right) _ = true; decide +kernel)) rfl (fun _ _ _ _ _ => rfl) (fun A2 ol2 s2 H2 E2 f2 cx2 hr2 => (pe_meth (pv 3) Es.cl DA_over.M OKA_over (hr2.mono (by decide)) DA_over.b .nil (passes_call (takes_of rfl rfl rfl rfl) (fun _ _ _ _ h => h)) (pa_cons (pv 4) pa_nil)))) (pe_tup (pa_cons pe_str (pa_cons pe_int pa_nil))) (nomark _)) (pss_one (ps_ret pe_bl)) pss_nil)) (pss_one (ps_if (pt_not (pt_val (pe_call OK_law_is_amount (hr.mono (by decide)) rfl D_law_is_amount.m D_law_is_amount.F.kp D_law_is_amount.b .nil pass0 (pa_cons (pe_meth (pv 3) Es.cl DA_over.M OKA_over (hr.mono (by decide)) DA_over.b .nil passL (pa_cons (pv 4) pa_nil)) (pa_cons (pv 8) (pa_cons (pe_call OK_law_over (hr.mono (by decide)) rfl D_law_over.m D_law_over.F.kp D_law_over.b .nil pass0 (pa_cons (pe_ix ix_tup (pv 1) pe_int (fun _ _ => rfl)) (pa_cons (pe_ix ix_tup (pv 2) pe_int (fun _ _ => rfl)) pa_nil))) pa_nil)))))) (pss_one (ps_ret pe_bl)) pss_nil)))
    (pss_cons (ps_set (i := 9) sc_law_products_right.nd rfl (Or.inr rfl) (pe_op op_sub (pe_call OK_law_draw (hr.mono (by decide)) rfl D_law_draw.m D_law_draw.F.kp D_law_draw.b .nil pass0 (pa_cons (pv 0) (pa_cons pe_int pa_nil))) pe_int))
    (Evl.pss_cut (ps_if (PW.pt (pw_and (pt_cmpR op_lt (pv 9) pe_int (nomark _)) (pw_and1 (pt_cmpR op_eq (pe_ix ix_tup (pe_ix ix_tup (pv 1) pe_int (fun _ _ => rfl)) pe_int (fun _ _ => rfl)) pe_int (nomark _))))) (pss_one (ps_ret (pe_cmpR (op_eqD hr.units) (pe_lamE (T := TT P1 P2 P3) (k := 16) (t := fun E => tMeth CAmount "power" (spPowA K CAmount BN BZ) [] E (tVar 3) (tCons (tVar 9) tNil)) Es B gd De rfl TBS.t2 rfl (tt2 TBS) (hr.mono (by decide)) (lamS_by (by show lamSB (defScope st_law_products_right) _ = true; decide +kernel)) rfl (fun _ _ _ _ _ => rfl) (fun A2 ol2 s2 H2 E2 f2 cx2 hr2 => (pe_meth (pv 3) Es.cl DA_power.M OKA_power (hr2.mono (by decide)) DA_power.b .nil (passes_call (takes_of rfl rfl rfl rfl) (fun _ _ _ _ h => h)) (pa_cons (pv 9) pa_nil)))) (pe_tup (pa_cons pe_str (pa_cons pe_int pa_nil))) (nomark _)))) pss_nil)
    (pss_cons (ps_set (i := 10) sc_law_products_right.nd rfl (Or.inl rfl) (pe_callTy call_tuple_of (by rfl) B.tuple_ (by decide +kernel) (pa_cons (pe_lc (own := [("_law_item", 11)]) (g := gName 11) (tt := tYes) rfl sc_law_products_right.nd (pi_tup (pe_ix ix_tup (pv 1) pe_int (fun _ _ => rfl))) (blkOk_by (own := [("_law_item", 11)]) (N := ["_law_pen_here", "_law_one", "_law_two", "_law_a", "_law_b", "_law_both", "_law_x", "_law_y", "_law_gap", "_law_n", "_law_raised", "_law_item"]) (sc := defScope st_law_products_right) (by decide +kernel)) (fun _ _ _ _ _ => pg_name (i := 11) sc_law_products_right.nd rfl (Or.inl rfl)) (fun _ _ _ _ _ => pts_nil) (fun _ _ _ _ _ => (pe_op op_mul (pv 9) (pv 11)))) pa_nil)))
    (pss_one (ps_ret (pe_and (pe_call OK_law_is_amount (hr.mono (by decide)) rfl D_law_is_amount.m D_law_is_amount.F.kp D_law_is_amount.b .nil pass0 (pa_cons (pe_meth (pv 3) Es.cl DA_power.M OKA_power (hr.mono (by decide)) DA_power.b .nil passL (pa_cons (pv 9) pa_nil)) (pa_cons (pv 10) (pa_cons (pe_call OK_law_power (hr.mono (by decide)) rfl D_law_power.m D_law_power.F.kp D_law_power.b .nil pass0 (pa_cons (pe_ix ix_tup (pv 1) pe_int (fun _ _ => rfl)) (pa_cons (pv 9) pa_nil))) pa_nil)))) (pe_one (pe_call OK_law_is_amount (hr.mono (by decide)) rfl D_law_is_amount.m D_law_is_amount.F.kp D_law_is_amount.b .nil pass0 (pa_cons (pv 3) (pa_cons (pe_ix ix_tup (pv 1) pe_int (fun _ _ => rfl)) (pa_cons (pe_ix ix_tup (pv 1) pe_int (fun _ _ => rfl)) pa_nil))))))))))))))))), ?_⟩
    obtain ⟨p, c, o1, o2, m, es, fs, a1, a2, b1, b2, rfl, P, hm, p1, p2, s1, s2, ne, le, hl, tbs, q⟩ := h
    obtain ⟨t1, r1, ho1, ht1, hr1⟩ := p1.ex
    refine ⟨_, rfl, o1, _, _, _, rfl, rfl, SqT.of ho1, rfl, _, rfl, _, rfl, o1, _, _, _, rfl, rfl, SqT.of ho1, rfl, p, c, r1, m, a1, b1, rfl, P, by omega, hr1, s1, fun v1 k1 H1 hk0 hk9 rv1 Pn1 kp1 => ?_⟩
    intro x dx hx1 hx2 hx3
    refine make_okN (kp1.d.tup ht1) ne le rv1 (mid_scale s1 hk0 hk9) (nrm_scale s1 hk0) s1.low s1.mid hx1 hx2 hx3 fun H2 n2 ax => ⟨rfl, ?_⟩
    have kp2 := kp1.trans (Same.p n2)
    obtain ⟨t2, r2, ho2, ht2, hr2'⟩ := (p2.keep kp2.d).ex
    have Pn2 := Pn1.same n2
    refine ⟨_, rfl, o2, _, _, _, rfl, rfl, SqT.of ho2, rfl, _, rfl, _, rfl, o2, _, _, _, rfl, rfl, SqT.of ho2, rfl, p, c, r2, m + 2, a2, b2, rfl, Pn2, by omega, hr2', s2, fun v2 k2 H3 hk0' hk9' rv2 Pn3 kp3 => ?_⟩
    intro y dy hy1 hy2 hy3
    refine make_okN (kp3.d.tup ht2) (fun z => ne (List.eq_nil_of_length_eq_zero (by rw [← hl, z]; rfl))) (by omega) rv2 (mid_scale s2 hk0' hk9') (nrm_scale s2 hk0') s2.low s2.mid hy1 hy2 hy3 fun H4 n4 ay => ⟨rfl, ?_⟩
    
    refine ⟨(by show 2 ≤ sizeLine; decide), fun tt htt => ?_⟩
    refine ⟨tt, _, rfl, SqT.of upd_same, rfl, _, _, rfl, _, _, rfl, rfl, ?_⟩
    have n5 := AL.Same.new (o := .tup [.ref x, .ref y]) htt
    have k25 := (kp3.trans (Same.p n4)).trans (Same.p n5)
    have kp5 := kp2.trans k25
    have P5 := (Pn3.same n4).same n5
    have tb5 := tabs_p tbs kp5
    have ax5 := ax.keep k25.d
    have ay5 := ay.keep (Same.d n5)
    have ho1' := kp5.d.tup ho1
    have ht1' : TupI _ t1 es := kp5.d.tup ht1
    have hr1' : RatAt _ r1 a1 b1 := kp5.d.tup hr1
    have ho2' := k25.d.tup ho2
    have ht2' : TupI _ t2 fs := k25.d.tup ht2
    have hr2'' : RatAt _ r2 a2 b2 := k25.d.tup hr2'
    generalize hH5 : upd H4 tt (.tup [.ref x, .ref y]) = H5 at *
    
    have ho15 := ho1'
    have ho25 := ho2'
    have ht15 := ht1'
    have ht25 := ht2'
    have hr15 := hr1'
    have hr25 := hr2''
    have le60 : es.length ≤ 60 := le
    refine ⟨_, rfl, o1, _, _, _, rfl, rfl, SqT.of ho15, rfl, _, rfl, o2, _, _, _, rfl, rfl, SqT.of ho25, rfl, _, _, _, _, rfl, .inr ⟨SqT.of ht15, SqT.of ht25, fun D hD => ?_⟩⟩
    refine lc_it (walk_zipT (K := K) (a := t1) (b := t2) (xs := es.map V.int) (ys := fs.map V.int) (n := es.length) (by rw [List.length_map, List.length_map]; omega)) (fun i H' => Same H5 H' ∧ H' D = some (.lst (((List.zipWith (· + ·) es fs).take i).map V.int))) ⟨AL.Same.new hD, upd_same⟩ (fun i H' _ hh => ⟨SqT.of (hh.1 _ _ ht15), SqT.of (hh.1 _ _ ht25)⟩) ?_ ?_
    · rintro i x H0 H1 hi ⟨s0, hd⟩ ⟨T0, v1, v2, rfl, hT, rfl, e1, e2⟩
      obtain ⟨z1, k1, rfl⟩ := map_int e1
      obtain ⟨z2, k2, rfl⟩ := map_int e2
      have hDT : D ≠ T0 := fun z => by rw [z, hT] at hd; cases hd
      have sT : Same H5 (upd H0 T0 (.tup [.int z1, .int z2])) := s0.trans (AL.Same.new hT)
      refine ⟨T0, _, rfl, SqT.of upd_same, rfl, _, _, rfl, _, _, rfl, rfl, rfl, ?_⟩
      refine ⟨_, rfl, _, rfl, _, _, rfl, rfl, _, Eq.trans (upd_ne hDT) hd, ?_, AL.Same.updn sT hD, ?_⟩
      · rw [List.length_map, List.length_take]
        exact Nat.lt_of_le_of_lt (by omega : _ ≤ 100) (by decide)
      · rw [upd_same, List.take_add_one, List.getElem?_zipWith, k1, k2]
        simp
    
    · rintro HB ⟨sB, hdB⟩
      rw [List.take_of_length_le (by rw [List.length_zipWith]; omega)] at hdB
      refine ⟨D, _, rfl, .inl ⟨SqL.of hdB, fun tb htb => ?_⟩⟩
      have nB := AL.Same.new (o := .tup ((List.zipWith (· + ·) es fs).map V.int)) htb
      have s56 := sB.trans nB
      have hb6 : TupI _ tb (List.zipWith (· + ·) es fs) := upd_same (H := HB) (a := tb) (o := .tup ((List.zipWith (· + ·) es fs).map V.int))
      generalize hH6 : upd HB tb (.tup ((List.zipWith (· + ·) es fs).map V.int)) = H6 at *
      have ho16 := s56 _ _ ho15
      have ho26 := s56 _ _ ho25
      have ht16 : TupI _ t1 es := s56 _ _ ht15
      have ht26 : TupI _ t2 fs := s56 _ _ ht25
      have hr16 : RatAt _ r1 a1 b1 := s56 _ _ hr15
      have hr26 : RatAt _ r2 a2 b2 := s56 _ _ hr25
      have ax6 := ax5.keep (Same.d s56)
      have ay6 := ay5.keep (Same.d s56)
      refine ⟨_, rfl, o1, _, _, _, rfl, rfl, SqT.of ho16, rfl, _, rfl, o2, _, _, _, rfl, rfl, SqT.of ho26, rfl,   _, _, _, _, rfl, .inr ⟨SqT.of ht16, SqT.of ht26, fun D hD => ?_⟩⟩
      refine lc_it (walk_zipT (K := K) (a := t1) (b := t2) (xs := es.map V.int) (ys := fs.map V.int) (n := es.length) (by rw [List.length_map, List.length_map]; omega)) (fun i H' => Same H6 H' ∧ H' D = some (.lst (((List.zipWith (· - ·) es fs).take i).map V.int))) ⟨AL.Same.new hD, upd_same⟩ (fun i H' _ hh => ⟨SqT.of (hh.1 _ _ ht16), SqT.of (hh.1 _ _ ht26)⟩) ?_ ?_
      · rintro i x H0 H1 hi ⟨s0, hd⟩ ⟨T0, v1, v2, rfl, hT, rfl, e1, e2⟩
        obtain ⟨z1, k1, rfl⟩ := map_int e1
        obtain ⟨z2, k2, rfl⟩ := map_int e2
        have hDT : D ≠ T0 := fun z => by rw [z, hT] at hd; cases hd
        have sT : Same H6 (upd H0 T0 (.tup [.int z1, .int z2])) := s0.trans (AL.Same.new hT)
        refine ⟨T0, _, rfl, SqT.of upd_same, rfl, _, _, rfl, _, _, rfl, rfl, rfl, ?_⟩
        refine ⟨_, rfl, _, rfl, _, _, rfl, rfl, _, Eq.trans (upd_ne hDT) hd, ?_, AL.Same.updn sT hD, ?_⟩
        · rw [List.length_map, List.length_take]
          exact Nat.lt_of_le_of_lt (by omega : _ ≤ 100) (by decide)
        · rw [upd_same, List.take_add_one, List.getElem?_zipWith, k1, k2]
          simp
    
      · rintro HC ⟨sC, hdC⟩
        rw [List.take_of_length_le (by rw [List.length_zipWith]; omega)] at hdC
        refine ⟨D, _, rfl, .inl ⟨SqL.of hdC, fun tg htg => ?_⟩⟩
        have nC := AL.Same.new (o := .tup ((List.zipWith (· - ·) es fs).map V.int)) htg
        have s67 := sC.trans nC
        have hg7 : TupI _ tg (List.zipWith (· - ·) es fs) := upd_same (H := HC) (a := tg) (o := .tup ((List.zipWith (· - ·) es fs).map V.int))
        generalize hH7 : upd HC tg (.tup ((List.zipWith (· - ·) es fs).map V.int)) = H7 at *
        have ho17 := s67 _ _ ho16
        have ho27 := s67 _ _ ho26
        have ht17 : TupI _ t1 es := s67 _ _ ht16
        have ht27 : TupI _ t2 fs := s67 _ _ ht26
        have hr17 : RatAt _ r1 a1 b1 := s67 _ _ hr16
        have hr27 : RatAt _ r2 a2 b2 := s67 _ _ hr26
        have ax7 := ax6.keep (Same.d s67)
        have ay7 := ay6.keep (Same.d s67)
        have hb7 : TupI _ tb (List.zipWith (· + ·) es fs) := s67 _ _ hb6
    
        -- the product
        refine ⟨_, rfl, _, rfl, x, y, rfl, rfl, ax7.ins, ay7.ins, x, y, es, fs, a1, b1, a2, b2, rfl, ax7, ay7, s1.sm, s2.sm, hl.symm, fun z8 H8 s78 az8 => ⟨.inl ⟨z8, rfl⟩, ?_⟩⟩
        have ho18 := s78 _ _ ho17
        have ho28 := s78 _ _ ho27
        have ht18 : TupI _ t1 es := s78 _ _ ht17
        have ht28 : TupI _ t2 fs := s78 _ _ ht27
        have hr18 : RatAt _ r1 a1 b1 := s78 _ _ hr17
        have hr28 : RatAt _ r2 a2 b2 := s78 _ _ hr27
        have ax8 := ax7.keep (Same.d s78)
        have ay8 := ay7.keep (Same.d s78)
        have hb8 : TupI _ tb (List.zipWith (· + ·) es fs) := s78 _ _ hb7
        have hg8 : TupI _ tg (List.zipWith (· - ·) es fs) := s78 _ _ hg7
    
        refine ⟨_, rfl, _, rfl, o1, _, _, _, rfl, rfl, SqT.of ho18, rfl, _, rfl, o2, _, _, _, rfl, rfl, SqT.of ho28, rfl, r1, r2, a1, a2, b1, b2, rfl, hr18, hr28, s1.mid, s2.mid, fun u9 hu9 => ?_⟩
        have s89 := AL.Same.new (o := .tup [.int (mulR a1 b1 a2 b2).1, .int ((mulR a1 b1 a2 b2).2 : Int)]) hu9
        have q9 := upd_same (H := H8) (a := u9) (o := .tup [.int (mulR a1 b1 a2 b2).1, .int ((mulR a1 b1 a2 b2).2 : Int)])
        generalize hH9 : upd H8 u9 (.tup [.int (mulR a1 b1 a2 b2).1, .int ((mulR a1 b1 a2 b2).2 : Int)]) = H9 at *
        have ho19 := s89 _ _ ho18
        have ho29 := s89 _ _ ho28
        have ht19 : TupI _ t1 es := s89 _ _ ht18
        have ht29 : TupI _ t2 fs := s89 _ _ ht28
        have hr19 : RatAt _ r1 a1 b1 := s89 _ _ hr18
        have hr29 : RatAt _ r2 a2 b2 := s89 _ _ hr28
        have ax9 := ax8.keep (Same.d s89)
        have ay9 := ay8.keep (Same.d s89)
        have hb9 : TupI _ tb (List.zipWith (· + ·) es fs) := s89 _ _ hb8
        have hg9 : TupI _ tg (List.zipWith (· - ·) es fs) := s89 _ _ hg8
    
        refine ⟨z8, tb, u9, _, _, _, rfl, az8.keep (Same.d s89), hb9, q9, _, rfl, ?_⟩
        refine iteF ?_
        -- the opposite
        refine ⟨_, rfl, x, rfl, ax9.ins, x, es, a1, b1, rfl, ax9, fun zA HA s9A azA => ?_⟩
        have ho1A := s9A _ _ ho19
        have ho2A := s9A _ _ ho29
        have ht1A : TupI _ t1 es := s9A _ _ ht19
        have ht2A : TupI _ t2 fs := s9A _ _ ht29
        have hr1A : RatAt _ r1 a1 b1 := s9A _ _ hr19
        have hr2A : RatAt _ r2 a2 b2 := s9A _ _ hr29
        have axA := ax9.keep (Same.d s9A)
        have ayA := ay9.keep (Same.d s9A)
        have hbA : TupI _ tb (List.zipWith (· + ·) es fs) := s9A _ _ hb9
        have hgA : TupI _ tg (List.zipWith (· - ·) es fs) := s9A _ _ hg9
    
        refine ⟨_, rfl, o1, _, _, _, rfl, rfl, SqT.of ho1A, rfl, _, rfl, o1, _, _, _, rfl, rfl, SqT.of ho1A, rfl, r1, _, _, _, rfl, rfl, SqT.of hr1A, rfl, _, rfl, _, rfl, o1, _, _, _, rfl, rfl, SqT.of ho1A, rfl, r1, _, _, _, rfl, rfl, SqT.of hr1A, rfl, (by show 2 ≤ sizeLine; decide), fun uB huB => ?_⟩
        have sAB := AL.Same.new (o := .tup [.int (-a1), .int (b1 : Int)]) huB
        have qB := upd_same (H := HA) (a := uB) (o := .tup [.int (-a1), .int (b1 : Int)])
        generalize hHB2 : upd HA uB (.tup [.int (-a1), .int (b1 : Int)]) = HB2 at *
        have ho1B := sAB _ _ ho1A
        have ho2B := sAB _ _ ho2A
        have ht1B : TupI _ t1 es := sAB _ _ ht1A
        have ht2B : TupI _ t2 fs := sAB _ _ ht2A
        have hr1B : RatAt _ r1 a1 b1 := sAB _ _ hr1A
        have hr2B : RatAt _ r2 a2 b2 := sAB _ _ hr2A
        have axB := axA.keep (Same.d sAB)
        have ayB := ayA.keep (Same.d sAB)
        have hbB : TupI _ tb (List.zipWith (· + ·) es fs) := sAB _ _ hbA
        have hgB : TupI _ tg (List.zipWith (· - ·) es fs) := sAB _ _ hgA
    
        refine ⟨zA, t1, uB, _, _, _, rfl, azA.keep (Same.d sAB), ht1B, qB, _, rfl, ?_⟩
        refine iteF ?_
        have s5B := ((((s56.trans s67).trans s78).trans s89).trans s9A).trans sAB
        have tbB := tabs_same tb5 s5B
        have gt1 := hg9
        refine ⟨fun σ' H' => σ' = [some (.ref p), some (.ref o1), some (.ref o2), some (.ref x), some (.ref y), some (.ref tb), none, none, some (.ref tg), none, none, none] ∧ ExtN HB2 H' ∧ Tabs (TT P1 P2 P3) H', ?_, ?_⟩
        · refine ⟨_, rfl, o2, _, _, _, rfl, rfl, SqT.of ho2B, rfl, r2, _, _, _, rfl, rfl, SqT.of hr2B, rfl, rfl, _, rfl, ?_⟩
          refine ite2 (fun h0 => ?_) (fun h0 => ?_)
          · have hz : a2 = 0 := by have w := of_decide_eq_true h0; injection w
            refine ⟨tbB, lamZ (fun E H1 Q' e1 th => ?_) (fun f1 HC eC TC hf1 => ?_)⟩
            · obtain ⟨dz, tz, rz, hins, _⟩ := (axB.keep (ext_d e1)).ex
              exact ⟨_, rfl, x, dz, _, rfl, hins, flA_no _ _ (by decide +kernel) (by decide +kernel), _, rfl, x, y, es, fs, a1, b1, a2, b2, rfl, axB.keep (ext_d e1), ayB.keep (ext_d e1), s1.sm, s2.sm, hl.symm, fun _ dd hd => th dd hd, fun hc => (hc hz).elim⟩
            refine ⟨(by show 2 ≤ sizeLine; decide), fun uD huD => ?_⟩
            have nD := AL.Same.new (o := .tup [.str "zero", .int 0]) huD
            refine ⟨zeroD, zeroD, .tup (SqT.of (nD _ _ hf1)) (.cons (.str _) (.cons (.int _) .nil)), .tup (SqT.of upd_same) (.cons (.str _) (.cons (.int _) .nil)), shaped_zero, shaped_zero, _, rfl, ?_⟩
            rw [SeqAt.eqv_refl _ (SeqAt.canLay_of_shaped shaped_zero)]
            refine iteF ?_
            exact ⟨rfl, eC.trans (Same.ext nD), tabs_same TC nD⟩
          · have hz : a2 ≠ 0 := fun w => h0 (by rw [w]; exact decide_eq_true rfl)
            obtain ⟨dz, tz, rz, hins, _⟩ := axB.ex
            refine ⟨_, rfl, x, dz, _, rfl, hins, flA_no _ _ (by decide +kernel) (by decide +kernel), _, rfl, x, y, es, fs, a1, b1, a2, b2, rfl, axB, ayB, s1.sm, s2.sm, hl.symm, fun hc => (hz hc).elim, fun hc zC HC sBC azC => ?_⟩
            refine ⟨_, rfl, _, rfl, o1, _, _, _, rfl, rfl, SqT.of (sBC _ _ ho1B), rfl, _, rfl, o2, _, _, _, rfl, rfl, SqT.of (sBC _ _ ho2B), rfl, r1, r2, a1, a2, b1, b2, rfl, sBC _ _ hr1B, sBC _ _ hr2B, s1.mid, s2.mid, hc, fun uD huD => ?_⟩
            have nD := AL.Same.new (o := .tup [.int (ovR a1 b1 a2 b2).1, .int ((ovR a1 b1 a2 b2).2 : Int)]) huD
            refine ⟨zC, tg, uD, _, _, _, rfl, azC.keep (Same.d nD), nD _ _ (sBC _ _ hgB), upd_same, _, rfl, ?_⟩
            refine iteF ?_
            exact ⟨rfl, Same.ext (sBC.trans nD), tabs_same (tabs_same tbB sBC) nD⟩
        rintro σ1 HC ⟨rfl, eC, tbC⟩
        have kC := ext_d eC
        have ho1C := (kC).tup ho1B
        have ho2C := (kC).tup ho2B
        have ht1C : TupI _ t1 es := (kC).tup ht1B
        have ht2C : TupI _ t2 fs := (kC).tup ht2B
        have hr1C : RatAt _ r1 a1 b1 := (kC).tup hr1B
        have hr2C : RatAt _ r2 a2 b2 := (kC).tup hr2B
        have axC := axB.keep (kC)
        have ayC := ayB.keep (kC)
        have hbC : TupI _ tb (List.zipWith (· + ·) es fs) := (kC).tup hbB
        have hgC : TupI _ tg (List.zipWith (· - ·) es fs) := (kC).tup hgB
        have PC : Pen HC p c (m + 4) := pen_ext (P5.same s5B) eC
        refine ⟨_, rfl, p, c, m + 4, _, rfl, PC, by omega, by decide, by decide, fun rr HD h0 h1 PD kD => ?_⟩
        have kpD := (kD.p PC).d
        have ho1D := (kpD).tup ho1C
        have ho2D := (kpD).tup ho2C
        have ht1D : TupI _ t1 es := (kpD).tup ht1C
        have ht2D : TupI _ t2 fs := (kpD).tup ht2C
        have hr1D : RatAt _ r1 a1 b1 := (kpD).tup hr1C
        have hr2D : RatAt _ r2 a2 b2 := (kpD).tup hr2C
        have axD := axC.keep (kpD)
        have ayD := ayC.keep (kpD)
        have hbD : TupI _ tb (List.zipWith (· + ·) es fs) := (kpD).tup hbC
        have hgD : TupI _ tg (List.zipWith (· - ·) es fs) := (kpD).tup hgC
        have tbD := tabs_p tbC (kD.p PC)
        refine ⟨_, _, rfl, rfl, ?_⟩
        dsimp only
        have hn6 : (rr - 6).natAbs ≤ 6 := by omega
        generalize hn : rr - 6 = n at *
        refine ⟨fun σ' H' => σ' = [some (.ref p), some (.ref o1), some (.ref o2), some (.ref x), some (.ref y), some (.ref tb), none, none, some (.ref tg), some (.int n), none, none] ∧ H' = HD ∧ ¬ (n < 0 ∧ a1 = 0), ?_, ?_⟩
        · refine ⟨_, rfl, _, _, rfl, rfl, _, rfl, ?_⟩
          refine ite2 (fun h2 => ?_) (fun h2 => ?_)
          · refine ⟨_, rfl, o1, _, _, _, rfl, rfl, SqT.of ho1D, rfl, r1, _, _, _, rfl, rfl, SqT.of hr1D, rfl, rfl, _, rfl, ?_⟩
            refine ite2 (fun h3 => ?_) (fun h3 => ?_)
            · have hz : n < 0 ∧ a1 = 0 := ⟨of_decide_eq_true h2, by have w := of_decide_eq_true h3; injection w⟩
              refine ⟨tbD, lamZ (fun E H1 Q' e1 th => ?_) (fun f1 HE eE TE hf1 => ?_)⟩
              · obtain ⟨dz, tz, rz, hins, _⟩ := (axD.keep (ext_d e1)).ex
                exact ⟨_, rfl, x, dz, _, rfl, hins, flA_no _ _ (by decide +kernel) (by decide +kernel), _, rfl, x, .int n, es, a1, b1, rfl, axD.keep (ext_d e1), s1.sm, .inr ⟨n, rfl, hn6, fun _ dd hd => th dd hd, fun hno => (hno hz).elim⟩⟩
              refine ⟨(by show 2 ≤ sizeLine; decide), fun uD huD => ?_⟩
              have nD := AL.Same.new (o := .tup [.str "zero", .int 0]) huD
              refine ⟨zeroD, zeroD, .tup (SqT.of (nD _ _ hf1)) (.cons (.str _) (.cons (.int _) .nil)), .tup (SqT.of upd_same) (.cons (.str _) (.cons (.int _) .nil)), shaped_zero, shaped_zero, ?_⟩
              rw [SeqAt.eqv_refl _ (SeqAt.canLay_of_shaped shaped_zero)]
              have e2 := eE.trans (Same.ext nD)
              exact q _ ((pen_ext PD e2).mono (by omega)) (tabs_same TE nD) ((((kp5.d.trans (Same.d s5B)).trans kC).trans kpD).trans (ext_d e2))
            · exact ⟨rfl, rfl, fun w => h3 (by rw [w.2]; exact decide_eq_true rfl)⟩
          · exact iteF ⟨rfl, rfl, fun w => h2 (decide_eq_true w.1)⟩
        rintro σ2 HE ⟨rfl, rfl, hno⟩
        refine ⟨_, rfl, o1, _, _, _, rfl, rfl, SqT.of ho1D, rfl, t1, rfl, ⟨_, SqT.of ht1D⟩, fun D hD => ?_⟩
        refine lc_tup (K := K) (a := t1) (xs := es.map V.int) (fun i H' => Same HE H' ∧ H' D = some (.lst (((es.map (n * ·)).take i).map V.int))) ⟨AL.Same.new hD, upd_same⟩ (fun i H' _ hh => SqT.of (hh.1 _ _ ht1D)) ?_ ?_
        · rintro i w H' hw ⟨s0, hd⟩
          obtain ⟨z1, k1, rfl⟩ := map_int hw
          have hi : i < es.length := (List.getElem?_eq_some_iff.mp k1).1
          refine ⟨rfl, ?_⟩
          refine ⟨_, rfl, _, rfl, _, _, rfl, rfl, .inl ⟨by omega, by omega⟩, _, hd, ?_, AL.Same.updn s0 hD, ?_⟩
          · rw [List.length_map, List.length_take, List.length_map]
            exact Nat.lt_of_le_of_lt (by omega : _ ≤ 100) (by decide)
          · rw [upd_same, List.take_add_one, List.getElem?_map, k1]
            simp
        · rintro HF ⟨sF, hdF⟩
          rw [List.take_of_length_le (by rw [List.length_map, List.length_map]; exact Nat.le_refl _)] at hdF
          refine ⟨D, _, rfl, .inl ⟨SqL.of hdF, fun tr htr => ?_⟩⟩
          have nF := AL.Same.new (o := .tup ((es.map (n * ·)).map V.int)) htr
          have hr0 : TupI _ tr (es.map (n * ·)) := upd_same (H := HF) (a := tr) (o := .tup ((es.map (n * ·)).map V.int))
          have sG := sF.trans nF
          generalize hHG : upd HF tr (.tup ((es.map (n * ·)).map V.int)) = HG at *
          have ho1G := sG _ _ ho1D
          have ho2G := sG _ _ ho2D
          have ht1G : TupI _ t1 es := sG _ _ ht1D
          have ht2G : TupI _ t2 fs := sG _ _ ht2D
          have hr1G : RatAt _ r1 a1 b1 := sG _ _ hr1D
          have hr2G : RatAt _ r2 a2 b2 := sG _ _ hr2D
          have axG := axD.keep (Same.d sG)
          have ayG := ayD.keep (Same.d sG)
          obtain ⟨dz, tz, rz, hins, _⟩ := axG.ex
          refine ⟨_, rfl, x, dz, _, rfl, hins, flA_no _ _ (by decide +kernel) (by decide +kernel), _, rfl, x, .int n, es, a1, b1, rfl, axG, s1.sm, .inr ⟨n, rfl, hn6, fun hz => (hno hz).elim, fun _ zI HI sGI azI => ?_⟩⟩
          refine ⟨_, rfl, _, rfl, o1, _, _, _, rfl, rfl, SqT.of (sGI _ _ ho1G), rfl, _, rfl, r1, a1, b1, n, rfl, sGI _ _ hr1G, s1.sm, s1.low, hn6, hno, fun uJ HJ sIJ hJ => ?_⟩
          refine ⟨zI, tr, uJ, _, _, _, rfl, azI.keep (Same.d sIJ), sIJ _ _ (sGI _ _ hr0), hJ, _, rfl, ?_⟩
          refine iteT ?_
          have sGJ := sGI.trans sIJ
          refine ⟨_, rfl, _, rfl, o1, _, _, _, rfl, rfl, SqT.of (sGJ _ _ ho1G), rfl, _, rfl, o1, _, _, _, rfl, rfl, SqT.of (sGJ _ _ ho1G), rfl, x, t1, r1, _, _, _, rfl, axG.keep (Same.d sGJ), sGJ _ _ ht1G, sGJ _ _ hr1G, ?_⟩
          have sEJ := sG.trans sGJ
          exact q _ ((PD.same sEJ).mono (by omega)) (tabs_same tbD sEJ) ((((kp5.d.trans (Same.d s5B)).trans kC).trans kpD).trans (Same.d sEJ))
end
end AL
set_option Elab.async false
set_option maxRecDepth 100000
set_option exponentiation.threshold 70000
set_option maxHeartbeats 1000000
namespace AL
open PySem PySem.Spec PyProof.Rows L2 RZ LamX
section
variable {P : Program} {w : World} {K : PySem.W.Frag} {mg : Str → Option Value} {base : Heap}

def spLawC (K : PySem.W.Frag) (cs : List (Addr × Addr)) : Sp := fun vs H Q _ => ∃ (a : Addr) (ns : List Int), vs = [.ref a] ∧ SqL K H a (ns.map V.int) ∧ (∀ p ∈ cs, H p.2 = some (.tbl #[])) ∧ ∀ H', Q (.bl true) H'
theorem zeros : ∀ es : List Int, (List.replicate es.length [V.int 0]).flatten = (es.map (0 * ·)).map V.int
  | [] => rfl
  | i :: es => by
    have ih := zeros es
    rw [List.length_cons, List.replicate_succ, List.flatten_cons, ih, List.map_cons, List.map_cons, Int.zero_mul]
    rfl
theorem made_same {H : Hp} {x dx : Addr} {o : HO} (h1 : H x = none) (h2 : H dx = none) : Same H (upd (upd H dx (.own x)) x o) := fun b u e => by
  rw [upd_ne (ne_of_none e h1), upd_ne (ne_of_none e h2)]; exact e
theorem pen_lst {H : Hp} {p c l : Addr} {m : Nat} {xs ys : List V} (P : Pen H p c m) (h : H l = some (.lst xs)) (hc : c ≠ l) : Pen (upd H l (.lst ys)) p c m :=
  P.keep (fun o e => by
    obtain ⟨kv, z⟩ := P.dict
    rw [upd_ne (fun w => by rw [w, h] at z; cases z)]; exact e) fun o e => by rw [upd_ne hc]; exact e
theorem keepD_lst {H0 H : Hp} {l : Addr} {ys : List V} (k : KeepD H0 H) (h : H0 l = none) : KeepD H0 (upd H l (.lst ys)) := fun b o e n t => by
  rw [upd_ne (ne_of_none e h)]; exact k b o e n t
theorem pen_cells_ne {H : Hp} {p c l : Addr} {m : Nat} (P : Pen H p c m) (h : H l = none) : c ≠ l := fun z => by
  obtain ⟨ns, i, d, n, f, h1, h2, _⟩ := P.ex
  rw [z, h] at h2; cases h2

abbrev stlaw : Stmt := top 43
theorem sclaw : FnScope ["_law_script", "_law_pen_here", "_law_many", "_law_lap", "_law_one", "_law_k", "_law_two", "_law_odd", "_law_more", "_law_zero", "_law_wrong"] ["_law_script"] (defScope stlaw) := ⟨rfl, rfl, rfl, by decide +kernel, rfl, by decide +kernel, by decide +kernel⟩
theorem oklaw (B : Blt mg) {BT BN UL NU BZ CAmount fN fU fZ : Addr} {fdN fdU fdZ : FuncData} (Es : ErA K mg BT BN UL NU BZ CAmount fN fU fZ fdN fdU fdZ) {c1 P1 c2 P2 c3 P3 ge : Addr} {cde : Value} (TBS : TbS base mg c1 P1 c2 P2 c3 P3) (De : LamFn K mg "_law_error" st_law_error "_law_call" ge cde) {fA_eq : Addr} {fdA_eq : FuncData} (DA_eq : MetA K "__eq__" "Amount.__eq__" stA_eq ["self", "other"] CAmount fA_eq fdA_eq) {fis_whole : Addr} {fdis_whole : FuncData} (Dis_whole : DefAt K mg "is_whole" stis_whole ["value"] fis_whole fdis_whole) {fare_integers : Addr} {fdare_integers : FuncData} (Dare_integers : DefAt K mg "are_integers" stare_integers ["items"] fare_integers fdare_integers) {flowest : Addr} {fdlowest : FuncData} (Dlowest : DefAt K mg "lowest" stlowest ["top", "bottom"] flowest fdlowest) {fas_ratio : Addr} {fdas_ratio : FuncData} (Das_ratio : DefAt K mg "as_ratio" stas_ratio ["value"] fas_ratio fdas_ratio) {fis_ratio : Addr} {fdis_ratio : FuncData} (Dis_ratio : DefAt K mg "is_ratio" stis_ratio ["value"] fis_ratio fdis_ratio) {fA_init : Addr} {fdA_init : FuncData} (DA_init : IniA K "__init__" "Amount.__init__" stA_init ["self", "exponents", "number"] CAmount fA_init fdA_init) {fwhole_power : Addr} {fdwhole_power : FuncData} (Dwhole_power : DefAt K mg "whole_power" stwhole_power ["base", "n"] fwhole_power fdwhole_power) {fratio_power : Addr} {fdratio_power : FuncData} (Dratio_power : DefAt K mg "ratio_power" stratio_power ["ratio", "n"] fratio_power fdratio_power) {fA_power : Addr} {fdA_power : FuncData} (DA_power : MetA K "power" "Amount.power" stA_power ["self", "n"] CAmount fA_power fdA_power) {f_law_draw : Addr} {fd_law_draw : FuncData} (D_law_draw : DefAt K mg "_law_draw" st_law_draw ["_law_pen_here", "_law_many"] f_law_draw fd_law_draw) {f_law_is_amount : Addr} {fd_law_is_amount : FuncData} (D_law_is_amount : DefAt K mg "_law_is_amount" st_law_is_amount ["_law_told", "_law_exponents", "_law_number"] f_law_is_amount fd_law_is_amount) {f_law_pen : Addr} {fd_law_pen : FuncData} (D_law_pen : DefAt K mg "_law_pen" st_law_pen ["_law_script"] f_law_pen fd_law_pen) {f_law_pick : Addr} {fd_law_pick : FuncData} (D_law_pick : DefAt K mg "_law_pick" st_law_pick ["_law_pen_here", "_law_some"] f_law_pick fd_law_pick) {fratio_product : Addr} {fdratio_product : FuncData} (Dratio_product : DefAt K mg "ratio_product" stratio_product ["one", "other"] fratio_product fdratio_product) {fA_mul : Addr} {fdA_mul : FuncData} (DA_mul : MetA K "__mul__" "Amount.__mul__" stA_mul ["self", "other"] CAmount fA_mul fdA_mul) {fA_neg : Addr} {fdA_neg : FuncData} (DA_neg : MetA K "__neg__" "Amount.__neg__" stA_neg ["self"] CAmount fA_neg fdA_neg) {fratio_over : Addr} {fdratio_over : FuncData} (Dratio_over : DefAt K mg "ratio_over" stratio_over ["one", "other"] fratio_over fdratio_over) {fA_over : Addr} {fdA_over : FuncData} (DA_over : MetA K "over" "Amount.over" stA_over ["self", "other"] CAmount fA_over fdA_over) {f_law_gcd : Addr} {fd_law_gcd : FuncData} (D_law_gcd : DefAt K mg "_law_gcd" st_law_gcd ["_law_one", "_law_two"] f_law_gcd fd_law_gcd) {f_law_q : Addr} {fd_law_q : FuncData} (D_law_q : DefAt K mg "_law_q" st_law_q ["_law_top", "_law_bottom"] f_law_q fd_law_q) {f_law_over : Addr} {fd_law_over : FuncData} (D_law_over : DefAt K mg "_law_over" st_law_over ["_law_one", "_law_two"] f_law_over fd_law_over) {f_law_passed : Addr} {fd_law_passed : FuncData} (D_law_passed : DefAt K mg "_law_passed" st_law_passed ["_law_pen_here", "_law_ratio_here"] f_law_passed fd_law_passed) {f_law_power : Addr} {fd_law_power : FuncData} (D_law_power : DefAt K mg "_law_power" st_law_power ["_law_one", "_law_n"] f_law_power fd_law_power) {f_law_times : Addr} {fd_law_times : FuncData} (D_law_times : DefAt K mg "_law_times" st_law_times ["_law_one", "_law_two"] f_law_times fd_law_times) {f_law_products_right : Addr} {fd_law_products_right : FuncData} (D_law_products_right : DefC K mg "_law_products_right" st_law_products_right ["_law_pen_here", "_law_one", "_law_two"] f_law_products_right c2 fd_law_products_right) {f_law_big : Addr} {fd_law_big : FuncData} (D_law_big : DefAt K mg "_law_big" st_law_big ["_law_pen_here", "_law_figures"] f_law_big fd_law_big) {f_law_ratio : Addr} {fd_law_ratio : FuncData} (D_law_ratio : DefAt K mg "_law_ratio" st_law_ratio ["_law_pen_here", "_law_figures"] f_law_ratio fd_law_ratio) {f_law_some_number : Addr} {fd_law_some_number : FuncData} (D_law_some_number : DefAt K mg "_law_some_number" st_law_some_number ["_law_pen_here"] f_law_some_number fd_law_some_number) {fcheck_like : Addr} {fdcheck_like : FuncData} (Dcheck_like : DefAt K mg "check_like" stcheck_like ["one", "other"] fcheck_like fdcheck_like) {fratio_sum : Addr} {fdratio_sum : FuncData} (Dratio_sum : DefAt K mg "ratio_sum" stratio_sum ["one", "other"] fratio_sum fdratio_sum) {fA_add : Addr} {fdA_add : FuncData} (DA_add : MetA K "__add__" "Amount.__add__" stA_add ["self", "other"] CAmount fA_add fdA_add) {fA_less : Addr} {fdA_less : FuncData} (DA_less : MetA K "less" "Amount.less" stA_less ["self", "other"] CAmount fA_less fdA_less) {fratio_minus : Addr} {fdratio_minus : FuncData} (Dratio_minus : DefAt K mg "ratio_minus" stratio_minus ["one", "other"] fratio_minus fdratio_minus) {fA_sub : Addr} {fdA_sub : FuncData} (DA_sub : MetA K "__sub__" "Amount.__sub__" stA_sub ["self", "other"] CAmount fA_sub fdA_sub) {f_law_less : Addr} {fd_law_less : FuncData} (D_law_less : DefAt K mg "_law_less" st_law_less ["_law_one", "_law_two"] f_law_less fd_law_less) {f_law_minus : Addr} {fd_law_minus : FuncData} (D_law_minus : DefAt K mg "_law_minus" st_law_minus ["_law_one", "_law_two"] f_law_minus fd_law_minus) {f_law_plus : Addr} {fd_law_plus : FuncData} (D_law_plus : DefAt K mg "_law_plus" st_law_plus ["_law_one", "_law_two"] f_law_plus fd_law_plus) {f_law_sums_right : Addr} {fd_law_sums_right : FuncData} (D_law_sums_right : DefC K mg "_law_sums_right" st_law_sums_right ["_law_pen_here", "_law_one", "_law_two"] f_law_sums_right c1 fd_law_sums_right) {flaw : Addr} {fdlaw : FuncData} (Dlaw : DefC K mg "law" stlaw ["_law_script"] flaw c3 fdlaw) : FnG P w K mg base CX0 39 flaw fdlaw ["_law_script"] (spLawC K [(c1, P1), (c2, P2), (c3, P3)]) := by
  have OKA_eq : FnOk P w K mg base (L2.CX P w) 3 fA_eq fdA_eq ["self", "other"] (spEqA K CAmount) := okA_eq B Es DA_eq
  have OKA_init : FnOk P w K mg base (L2.CX P w) 6 fA_init fdA_init ["self", "exponents", "number"] (spIniA K CAmount BN) := okA_init B Es Dis_whole Dare_integers Dlowest Das_ratio Dis_ratio DA_init
  have OKA_power : FnOk P w K mg base (L2.CX P w) 9 fA_power fdA_power ["self", "n"] (spPowA K CAmount BN BZ) := okA_power B Es Dis_whole Dare_integers Dlowest Das_ratio Dis_ratio DA_init Dwhole_power Dratio_power DA_power
  have OK_law_draw : FnOk P w K mg base CX0 1 f_law_draw fd_law_draw ["_law_pen_here", "_law_many"] spDraw := ok_law_draw B  D_law_draw
  have OK_law_is_amount : FnOk P w K mg base CX0 1 f_law_is_amount fd_law_is_amount ["_law_told", "_law_exponents", "_law_number"] (spIsAm CAmount) := ok_law_is_amount B Es D_law_is_amount
  have OK_law_pen : FnOk P w K mg base CX0 1 f_law_pen fd_law_pen ["_law_script"] (spPen K) := ok_law_pen B  D_law_pen
  have OK_law_pick : FnOk P w K mg base CX0 2 f_law_pick fd_law_pick ["_law_pen_here", "_law_some"] (spPick K) := ok_law_pick B  D_law_draw D_law_pick
  have OK_law_products_right : FnG P w K mg base CX0 24 f_law_products_right fd_law_products_right ["_law_pen_here", "_law_one", "_law_two"] (spRight (TT P1 P2 P3)) := ok_law_products_right B Es TBS De Dis_whole Dare_integers Dlowest Das_ratio Dis_ratio DA_init Dratio_product DA_mul DA_neg Dratio_over DA_over Dwhole_power Dratio_power DA_power D_law_draw D_law_is_amount D_law_gcd D_law_q D_law_over D_law_passed D_law_power D_law_times D_law_products_right
  have OK_law_some_number : FnOk P w K mg base CX0 5 f_law_some_number fd_law_some_number ["_law_pen_here"] spSome := ok_law_some_number B  D_law_draw D_law_pick D_law_big D_law_gcd D_law_q D_law_ratio D_law_some_number
  have OK_law_sums_right : FnG P w K mg base CX0 24 f_law_sums_right fd_law_sums_right ["_law_pen_here", "_law_one", "_law_two"] (spRight (TT P1 P2 P3)) := ok_law_sums_right B Es TBS De Dis_whole Dare_integers Dlowest Das_ratio Dis_ratio DA_init Dcheck_like Dratio_sum DA_add DA_eq DA_less Dratio_minus DA_sub D_law_is_amount D_law_less D_law_gcd D_law_q D_law_minus D_law_draw D_law_passed D_law_plus D_law_sums_right
  refine okGC Dlaw sclaw (fun vs H Q E h => ?_) (fun A outer s H vs Q E gd hr h => ?_)
  · obtain ⟨a, ns, rfl, _⟩ := h; rfl
  · have hu := hu_of hr
    refine ⟨_, (pss_cons (ps_set (i := 1) sclaw.nd rfl (Or.inr rfl) (pe_call OK_law_pen (hr.mono (by decide)) rfl D_law_pen.m D_law_pen.F.kp D_law_pen.b .nil pass0 (pa_cons (pv 0) pa_nil)))
    (pss_cons (ps_set (i := 2) sclaw.nd rfl (Or.inl rfl) (pe_op op_add pe_int (pe_call OK_law_draw (hr.mono (by decide)) rfl D_law_draw.m D_law_draw.F.kp D_law_draw.b .nil pass0 (pa_cons (pv 1) (pa_cons pe_int pa_nil)))))
    (pss_cons (ps_for PassesOwn.never rfl (pi_range1 rfl B.range_ (pa_cons pe_int pa_nil)) (pg_name (i := 3) sclaw.nd rfl (Or.inl rfl))
      (pss_cons (ps_set (i := 4) sclaw.nd rfl (Or.inr rfl) (pe_tup (pa_cons (pe_callTy call_tuple_of (by rfl) B.tuple_ (by decide +kernel) (pa_cons (pe_lc (own := [("_law_k", 5)]) (g := gName 5) (tt := tYes) rfl sclaw.nd (pi_range1 rfl B.range_ (pa_cons (pv 2) pa_nil)) (blkOk_by (own := [("_law_k", 5)]) (N := ["_law_script", "_law_pen_here", "_law_many", "_law_lap", "_law_one", "_law_k", "_law_two", "_law_odd", "_law_more", "_law_zero", "_law_wrong"]) (sc := defScope stlaw) (by decide +kernel)) (fun _ _ _ _ _ => pg_name (i := 5) sclaw.nd rfl (Or.inl rfl)) (fun _ _ _ _ _ => pts_nil) (fun _ _ _ _ _ => (pe_op op_sub (pe_call OK_law_draw (hr.mono (by decide)) rfl D_law_draw.m D_law_draw.F.kp D_law_draw.b .nil pass0 (pa_cons (pv 1) (pa_cons pe_int pa_nil))) pe_int))) pa_nil)) (pa_cons (pe_call OK_law_some_number (hr.mono (by decide)) rfl D_law_some_number.m D_law_some_number.F.kp D_law_some_number.b .nil pass0 (pa_cons (pv 1) pa_nil)) pa_nil))))
    (pss_cons (ps_set (i := 6) sclaw.nd rfl (Or.inl rfl) (pe_tup (pa_cons (pe_callTy call_tuple_of (by rfl) B.tuple_ (by decide +kernel) (pa_cons (pe_lc (own := [("_law_k", 5)]) (g := gName 5) (tt := tYes) rfl sclaw.nd (pi_range1 rfl B.range_ (pa_cons (pv 2) pa_nil)) (blkOk_by (own := [("_law_k", 5)]) (N := ["_law_script", "_law_pen_here", "_law_many", "_law_lap", "_law_one", "_law_k", "_law_two", "_law_odd", "_law_more", "_law_zero", "_law_wrong"]) (sc := defScope stlaw) (by decide +kernel)) (fun _ _ _ _ _ => pg_name (i := 5) sclaw.nd rfl (Or.inl rfl)) (fun _ _ _ _ _ => pts_nil) (fun _ _ _ _ _ => (pe_op op_sub (pe_call OK_law_draw (hr.mono (by decide)) rfl D_law_draw.m D_law_draw.F.kp D_law_draw.b .nil pass0 (pa_cons (pv 1) (pa_cons pe_int pa_nil))) pe_int))) pa_nil)) (pa_cons (pe_call OK_law_pick (hr.mono (by decide)) rfl D_law_pick.m D_law_pick.F.kp D_law_pick.b .nil pass0 (pa_cons (pv 1) (pa_cons (pe_lst (pa_cons (pe_ix ix_tup (pv 4) pe_int (fun _ _ => rfl)) (pa_cons (pe_call OK_law_some_number (hr.mono (by decide)) rfl D_law_some_number.m D_law_some_number.F.kp D_law_some_number.b .nil pass0 (pa_cons (pv 1) pa_nil)) pa_nil))) pa_nil))) pa_nil))))
    (Evl.pss_cut (ps_if (pt_cmpR op_gt (pe_call OK_law_draw (hr.mono (by decide)) rfl D_law_draw.m D_law_draw.F.kp D_law_draw.b .nil pass0 (pa_cons (pv 1) (pa_cons pe_int pa_nil))) pe_int (nomark _)) (pss_one (ps_set (i := 6) sclaw.nd rfl (Or.inl rfl) (pe_tup (pa_cons (pe_ix ix_tup (pv 4) pe_int (fun _ _ => rfl)) (pa_cons (pe_ix ix_tup (pv 6) pe_int (fun _ _ => rfl)) pa_nil))))) pss_nil)
    (pss_cons (ps_if (PW.pt (pw_or (pt_not (pt_val (pe_callG OK_law_sums_right gd (hr.mono (by decide)) rfl D_law_sums_right.m D_law_sums_right.kp D_law_sums_right.b pass0 (pa_cons (pv 1) (pa_cons (pv 4) (pa_cons (pv 6) pa_nil)))))) (pw_or1 (pt_not (pt_val (pe_callG OK_law_products_right gd (hr.mono (by decide)) rfl D_law_products_right.m D_law_products_right.kp D_law_products_right.b pass0 (pa_cons (pv 1) (pa_cons (pv 4) (pa_cons (pv 6) pa_nil))))))))) (pss_one (ps_ret pe_bl)) pss_nil)
    (pss_cons (ps_set (i := 7) sclaw.nd rfl (Or.inr rfl) (pe_call OK_law_pick (hr.mono (by decide)) rfl D_law_pick.m D_law_pick.F.kp D_law_pick.b .nil pass0 (pa_cons (pv 1) (pa_cons (pe_lst (pa_cons pe_non (pa_cons pe_int (pa_cons (pe_tup pa_nil) (pa_cons (pe_lst (pa_cons pe_int pa_nil)) (pa_cons (pe_tup (pa_cons pe_str (pa_cons pe_int pa_nil))) (pa_cons (pe_tup (pa_cons pe_bl pa_nil)) (pa_cons (pe_tup (pa_cons (pe_tup (pa_cons pe_int (pa_cons pe_int pa_nil))) pa_nil)) (pa_cons pe_str pa_nil))))))))) pa_nil))))
    (pss_cons (ps_set (i := 8) sclaw.nd rfl (Or.inr rfl) (pe_call OK_law_pick (hr.mono (by decide)) rfl D_law_pick.m D_law_pick.F.kp D_law_pick.b .nil pass0 (pa_cons (pv 1) (pa_cons (pe_lst (pa_cons pe_non (pa_cons pe_str (pa_cons (pe_tup (pa_cons pe_int (pa_cons pe_int pa_nil))) (pa_cons (pe_tup (pa_cons pe_int (pa_cons (pe_un un_neg pe_int) pa_nil))) (pa_cons (pe_lst (pa_cons pe_int (pa_cons pe_int pa_nil))) (pa_cons pe_bl (pa_cons (pe_tup (pa_cons pe_int (pa_cons pe_int (pa_cons pe_int pa_nil)))) pa_nil)))))))) pa_nil))))
    (pss_cons (ps_if (pt_cmpR (op_neD hr.units) (pe_lamE (T := TT P1 P2 P3) (k := 16) (t := fun E => tMake CAmount (spIniA K CAmount BN) [] E (tCons (tVar 7) (tCons (tVar 8) tNil))) Es B gd De rfl TBS.t3 rfl (tt3 TBS) (hr.mono (by decide)) (lamS_by (by show lamSB (defScope stlaw) _ = true; decide +kernel)) rfl (fun _ _ _ _ _ => rfl) (fun A2 ol2 s2 H2 E2 f2 cx2 hr2 => (pe_make DA_init.M OKA_init (hr2.mono (by decide)) rfl Es.mA DA_init.b .nil (passes_call (takes_of rfl rfl rfl rfl) (fun _ _ _ _ h => h)) (pa_cons (pv 7) (pa_cons (pv 8) pa_nil))))) (pe_tup (pa_cons pe_str (pa_cons pe_str (pa_cons (pe_callB (call_reprV gd hr.units) (by rfl) B.repr_ (by decide +kernel) (pa_cons (pv 7) pa_nil)) pa_nil)))) (nomark _)) (pss_one (ps_ret pe_bl)) pss_nil)
    (pss_cons (ps_if (pt_cmpR (op_neD hr.units) (pe_lamE (T := TT P1 P2 P3) (k := 16) (t := fun E => tMake CAmount (spIniA K CAmount BN) [] E (tCons (tOp (rIxT K) (tVar 4) (tC (.int 0))) (tCons (tVar 8) tNil))) Es B gd De rfl TBS.t3 rfl (tt3 TBS) (hr.mono (by decide)) (lamS_by (by show lamSB (defScope stlaw) _ = true; decide +kernel)) rfl (fun _ _ _ _ _ => rfl) (fun A2 ol2 s2 H2 E2 f2 cx2 hr2 => (pe_make DA_init.M OKA_init (hr2.mono (by decide)) rfl Es.mA DA_init.b .nil (passes_call (takes_of rfl rfl rfl rfl) (fun _ _ _ _ h => h)) (pa_cons (pe_ix ix_tup (pv 4) pe_int (fun _ _ => rfl)) (pa_cons (pv 8) pa_nil))))) (pe_tup (pa_cons pe_str (pa_cons pe_str (pa_cons (pe_callB (call_reprV gd hr.units) (by rfl) B.repr_ (by decide +kernel) (pa_cons (pv 8) pa_nil)) pa_nil)))) (nomark _)) (pss_one (ps_ret pe_bl)) pss_nil)
    (pss_cons (ps_asg (pe_tup (pa_cons (pe_make DA_init.M OKA_init (hr.mono (by decide)) rfl Es.mA DA_init.b .nil passL (pa_cons (pe_ix ix_tup (pv 4) pe_int (fun _ _ => rfl)) (pa_cons pe_int pa_nil))) (pa_cons (pe_call OK_law_pick (hr.mono (by decide)) rfl D_law_pick.m D_law_pick.F.kp D_law_pick.b .nil pass0 (pa_cons (pv 1) (pa_cons (pe_lst (pa_cons pe_non (pa_cons (pe_tup (pa_cons pe_int (pa_cons pe_int pa_nil))) (pa_cons pe_str (pa_cons pe_bl (pa_cons (pe_lst (pa_cons pe_int pa_nil)) pa_nil)))))) pa_nil))) pa_nil))) (pg_tup rfl (pgs_cons (pg_name (i := 9) sclaw.nd rfl (Or.inr rfl)) (pgs_cons (pg_name (i := 10) sclaw.nd rfl (Or.inr rfl)) pgs_nil))))
    (pss_cons (ps_if (pt_cmpR (op_neD hr.units) (pe_lamE (T := TT P1 P2 P3) (k := 16) (t := fun E => tMeth CAmount "power" (spPowA K CAmount BN BZ) [] E (tVar 9) (tCons (tVar 10) tNil)) Es B gd De rfl TBS.t3 rfl (tt3 TBS) (hr.mono (by decide)) (lamS_by (by show lamSB (defScope stlaw) _ = true; decide +kernel)) rfl (fun _ _ _ _ _ => rfl) (fun A2 ol2 s2 H2 E2 f2 cx2 hr2 => (pe_meth (pv 9) Es.cl DA_power.M OKA_power (hr2.mono (by decide)) DA_power.b .nil (passes_call (takes_of rfl rfl rfl rfl) (fun _ _ _ _ h => h)) (pa_cons (pv 10) pa_nil)))) (pe_tup (pa_cons pe_str (pa_cons pe_str (pa_cons (pe_callB (call_reprV gd hr.units) (by rfl) B.repr_ (by decide +kernel) (pa_cons (pv 10) pa_nil)) pa_nil)))) (nomark _)) (pss_one (ps_ret pe_bl)) pss_nil)
    (pss_one (ps_if (PW.pt (pw_or (pt_not (pt_val (pe_call OK_law_is_amount (hr.mono (by decide)) rfl D_law_is_amount.m D_law_is_amount.F.kp D_law_is_amount.b .nil pass0 (pa_cons (pe_meth (pv 9) Es.cl DA_power.M OKA_power (hr.mono (by decide)) DA_power.b .nil passL (pa_cons pe_int pa_nil)) (pa_cons (pe_op op_repU (pe_tup (pa_cons pe_int pa_nil)) (pv 2)) (pa_cons (pe_tup (pa_cons pe_int (pa_cons pe_int pa_nil))) pa_nil)))))) (pw_or (pt_cmpR (op_ownE DA_eq.M OKA_eq (hr.mono (by decide)) DA_eq.b passL) (pv 9) (pe_fld (pv 9) rfl) (nomark _)) (pw_or1 (pt_cmpR (op_ownE DA_eq.M OKA_eq (hr.mono (by decide)) DA_eq.b passL) (pv 9) pe_int (nomark _)))))) (pss_one (ps_ret pe_bl)) pss_nil)))))))))))))
    (pss_one (ps_ret pe_bl))))), ?_⟩
    obtain ⟨a, ns, rfl, hS, tbs, q⟩ := h
    have tb0 : Tabs (TT P1 P2 P3) H := by
      intro pp hp
      simp only [TT, List.mem_cons, List.not_mem_nil, or_false] at hp
      rcases hp with rfl | rfl | rfl
      · exact TabS.nil (tbs (c1, P1) (by simp))
      · exact TabS.nil (tbs (c2, P2) (by simp))
      · exact TabS.nil (tbs (c3, P3) (by simp))
    refine ⟨_, rfl, a, ns, rfl, hS, fun p c H0 hp hc hpc P0 s0 => ?_⟩
    have tbH0 := tabs_same tb0 s0
    refine ⟨_, rfl, p, c, 0, _, rfl, P0, by decide, by decide, by decide, fun r HA h0 h1 PA kA => ?_⟩
    have tbA := tabs_p tbH0 (kA.p P0)
    refine ⟨_, _, rfl, rfl, ?_⟩
    obtain ⟨w, hw⟩ := Int.eq_ofNat_of_zero_le (show 0 ≤ 1 + r by omega)
    dsimp only
    rw [hw]
    have w1 : 1 ≤ w := by omega
    have w6 : w ≤ 6 := by omega
    refine ⟨4, rfl, by decide, by decide, for_range (n := 4) (fun i σ H' => ∃ v3 v4 v6 v7 v8 v9 v10 : Option V, σ = [some (.ref a), some (.ref p), some (.int (w : Int)), v3, v4, none, v6, v7, v8, v9, v10] ∧ Pen H' p c (1 + i * 10000) ∧ Tabs (TT P1 P2 P3) H') ⟨none, none, none, none, none, none, none, rfl, PA, tbA⟩ ?_ ?_⟩
    · rintro i σ HB hi ⟨v3, v4, v6, v7, v8, v9, v10, rfl, PB, tbHB⟩
      have hm : 1 + i * 10000 ≤ 40000 := by omega
      generalize hmm : 1 + i * 10000 = m at *
      refine ⟨_, rfl, _, rfl, by omega, by omega, fun D1 hD1 => ?_⟩
      refine lc_range (lo := 0) (n := ((w : Int)).toNat) (fun i H' => Pen H' p c (m + i) ∧ KeepD HB H' ∧ Tabs (TT P1 P2 P3) H' ∧ ∃ zs : List Int, zs.length = i ∧ H' D1 = some (.lst (zs.map V.int))) ⟨(PB.same (AL.Same.new hD1)).mono (by omega), Same.d (AL.Same.new hD1), tabs_same tbHB (AL.Same.new hD1), [], rfl, upd_same⟩ ?_ ?_
      · rintro i H' hi ⟨PN, kN, tN, zs, hz1, hd⟩
        have hi' : i < w := by omega
        refine ⟨rfl, ?_⟩
        refine ⟨_, rfl, p, c, m + i, _, rfl, PN, by omega, by decide, by decide, fun r H2 h0 h1 P2N k2N => ?_⟩
        have kp := k2N.p PN
        have hd2 := kp.d.lst hd
        have cne : c ≠ D1 := pen_cells_ne PB hD1
        refine ⟨_, _, rfl, rfl, _, hd2, ?_, pen_lst P2N hd2 cne, keepD_lst (kN.trans kp.d) hD1, tabs_lst (tabs_p tN kp) hd2, zs ++ [r - 9], ?_, ?_⟩
        · rw [List.length_map, hz1]; exact Nat.lt_of_lt_of_le (by omega : i < 7) (by decide)
        · rw [List.length_append, hz1]; rfl
        · rw [upd_same, List.map_append]; rfl
      · rintro HN01 ⟨PN, kN, tN, es1, hz1, hd⟩
        have hw : ((w : Int)).toNat = w := by omega
        rw [hw] at PN hz1
        refine ⟨D1, _, rfl, .inl ⟨SqL.of hd, fun t1 htN => ?_⟩⟩
        have nN := AL.Same.new (o := .tup (es1.map V.int)) htN
        have ht1 : TupI _ t1 es1 := upd_same (H := HN01) (a := t1) (o := .tup (es1.map V.int))
        have PN11 := PN.same nN
        have kN11 := kN.trans (Same.d nN)
        have tN11 := tabs_same tN nN
        generalize upd HN01 t1 (.tup (es1.map V.int)) = HN11 at *
    
        refine ⟨_, rfl, p, c, m + w, rfl, PN11, by omega, fun r1 a1 b1 HC sn1 hr1 PC kC => ?_⟩
        have tbC := tabs_p tN11 kC
        have ht1C : TupI HC t1 es1 := kC.d.tup ht1
        refine ⟨(by show 2 ≤ sizeLine; decide), fun o1 ho1 => ?_⟩
        have nD := AL.Same.new (o := .tup [.ref t1, .ref r1]) ho1
        have pr1 : PairAt (upd HC o1 (.tup [.ref t1, .ref r1])) o1 es1 a1 b1 := ⟨t1, r1, upd_same, nD _ _ ht1C, nD _ _ hr1⟩
        have PD := PC.same nD
        have tbHD := tabs_same tbC nD
        generalize upd HC o1 (.tup [.ref t1, .ref r1]) = HD at *
        refine ⟨_, rfl, _, rfl, by omega, by omega, fun D2 hD2 => ?_⟩
        refine lc_range (lo := 0) (n := ((w : Int)).toNat) (fun i H' => Pen H' p c (m + w + 1000 + i) ∧ KeepD HD H' ∧ Tabs (TT P1 P2 P3) H' ∧ ∃ zs : List Int, zs.length = i ∧ H' D2 = some (.lst (zs.map V.int))) ⟨(PD.same (AL.Same.new hD2)).mono (by omega), Same.d (AL.Same.new hD2), tabs_same tbHD (AL.Same.new hD2), [], rfl, upd_same⟩ ?_ ?_
        · rintro i H' hi ⟨PN, kN, tN, zs, hz2, hd⟩
          have hi' : i < w := by omega
          refine ⟨rfl, ?_⟩
          refine ⟨_, rfl, p, c, m + w + 1000 + i, _, rfl, PN, by omega, by decide, by decide, fun r H2 h0 h1 P2N k2N => ?_⟩
          have kp := k2N.p PN
          have hd2 := kp.d.lst hd
          have cne : c ≠ D2 := pen_cells_ne PD hD2
          refine ⟨_, _, rfl, rfl, _, hd2, ?_, pen_lst P2N hd2 cne, keepD_lst (kN.trans kp.d) hD2, tabs_lst (tabs_p tN kp) hd2, zs ++ [r - 9], ?_, ?_⟩
          · rw [List.length_map, hz2]; exact Nat.lt_of_lt_of_le (by omega : i < 7) (by decide)
          · rw [List.length_append, hz2]; rfl
          · rw [upd_same, List.map_append]; rfl
        · rintro HN02 ⟨PN, kN, tN, es2, hz2, hd⟩
          have hw : ((w : Int)).toNat = w := by omega
          rw [hw] at PN hz2
          refine ⟨D2, _, rfl, .inl ⟨SqL.of hd, fun t2 htN => ?_⟩⟩
          have nN := AL.Same.new (o := .tup (es2.map V.int)) htN
          have ht2 : TupI _ t2 es2 := upd_same (H := HN02) (a := t2) (o := .tup (es2.map V.int))
          have PN12 := PN.same nN
          have kN12 := kN.trans (Same.d nN)
          have tN12 := tabs_same tN nN
          generalize upd HN02 t2 (.tup (es2.map V.int)) = HN12 at *
    
          obtain ⟨u1, g1, hu0, hu1, hu2⟩ := (pr1.keep kN12).ex
          refine ⟨_, rfl, _, rfl, o1, _, _, _, rfl, rfl, SqT.of hu0, rfl, _, rfl, p, c, m + w + 1000 + w, rfl, PN12, by omega, fun r3 a3 b3 HE sn3 hr3 PE kE => ?_⟩
          refine ⟨(by show 2 ≤ sizeLine; decide), fun l hl => ?_⟩
          have nl := AL.Same.new (o := .lst [.ref g1, .ref r3]) hl
          refine ⟨p, c, l, m + w + 1000 + w + 1000, _, rfl, PE.same nl, by omega, SqL.of upd_same, (by show 0 < 2; decide), (by show 2 < 1000000000; decide), fun j x HF hx PF kF => ?_⟩
          have kEF := (Same.p nl).trans (kF.p (PE.same nl))
          have kNF := kE.trans kEF
          obtain ⟨g2, a2, b2, rfl, hg2, sn2⟩ : ∃ g2 a2 b2, x = V.ref g2 ∧ RatAt HF g2 a2 b2 ∧ SN a2 b2 := by
            refine pick_of (P := fun x => ∃ g2 a2 b2, x = V.ref g2 ∧ RatAt HF g2 a2 b2 ∧ SN a2 b2) (fun y hy => ?_) hx
            simp only [List.mem_cons, List.not_mem_nil, or_false] at hy
            rcases hy with rfl | rfl
            · exact ⟨g1, a1, b1, rfl, kNF.d.tup hu2, sn1⟩
            · exact ⟨r3, a3, b3, rfl, kEF.d.tup hr3, sn3⟩
          refine ⟨(by show 2 ≤ sizeLine; decide), fun o2 ho2 => ?_⟩
          have nG := AL.Same.new (o := .tup [.ref t2, .ref g2]) ho2
          have pr2 : PairAt (upd HF o2 (.tup [.ref t2, .ref g2])) o2 es2 a2 b2 := ⟨t2, g2, upd_same, nG _ _ (kNF.d.tup ht2), nG _ _ hg2⟩
          have pr1G := ((pr1.keep kN12).keep kNF.d).keep (Same.d nG)
          have PG := (PF.same nG).mono (show _ ≤ m + 4000 by omega)
          have tbG := tabs_same (tabs_p tN12 kNF) nG
          generalize upd HF o2 (.tup [.ref t2, .ref g2]) = HG at *
          refine ⟨fun σ' H' => ∃ (o2 : Addr) (fs : List Int) (a2 : Int) (b2 : Nat), σ' = [some (.ref a), some (.ref p), some (.int (w : Int)), some (.int (0 + (i : Int))), some (.ref o1), none, some (.ref o2), v7, v8, v9, v10] ∧ fs.length = w ∧ PairAt H' o1 es1 a1 b1 ∧ PairAt H' o2 fs a2 b2 ∧ SN a2 b2 ∧ Pen H' p c (m + 4001) ∧ Tabs (TT P1 P2 P3) H', ?_, ?_⟩
          · refine ⟨_, rfl, p, c, m + 4000, _, rfl, PG, by omega, by decide, by decide, fun r4 HH h04 h14 PH kH => ?_⟩
            have kGH := kH.p PG
            have pr1H := pr1G.keep kGH.d
            have pr2H := pr2.keep kGH.d
            have tbHH := tabs_p tbG kGH
            refine ⟨_, _, rfl, rfl, _, rfl, ?_⟩
            refine ite2 (fun h4 => ?_) (fun h4 => ?_)
            · obtain ⟨u5, g5, e51, e52, e53⟩ := pr1H.ex
              obtain ⟨u6, g6, e61, e62, e63⟩ := pr2H.ex
              refine ⟨_, rfl, o1, _, _, _, rfl, rfl, SqT.of e51, rfl, _, rfl, o2, _, _, _, rfl, rfl, SqT.of e61, rfl, (by show 2 ≤ sizeLine; decide), fun o3 ho3 => ?_⟩
              have n3 := AL.Same.new (o := .tup [.ref u5, .ref g6]) ho3
              exact ⟨o3, es1, a2, b2, rfl, hz1, pr1H.keep (Same.d n3), ⟨u5, g6, upd_same, n3 _ _ e52, n3 _ _ e63⟩, sn2, PH.same n3, tabs_same tbHH n3⟩
            · exact ⟨o2, es2, a2, b2, rfl, hz2, pr1H, pr2H, sn2, PH, tbHH⟩
          rintro σ1 HI ⟨o2, fs, a2, b2, rfl, hl2, pr1I, pr2I, sn2, PI, tbI⟩
          have ne1 : es1 ≠ [] := fun z => by rw [z] at hz1; have : 0 = w := hz1; omega
          have le1 : es1.length ≤ 60 := by omega
          refine ⟨_, rfl, _, rfl, _, rfl, p, c, o1, o2, m + 4001, es1, fs, a1, a2, b1, b2, rfl, PI, by omega, pr1I, pr2I, sn1, sn2, ne1, le1, by omega, tbI, fun HJ PJ tbJ kJ => ⟨_, rfl, ?_⟩⟩
          refine iteF ?_
          refine ⟨_, rfl, _, rfl, _, rfl, p, c, o1, o2, m + 4001 + 10, es1, fs, a1, a2, b1, b2, rfl, PJ, by omega, pr1I.keep kJ, pr2I.keep kJ, sn1, sn2, ne1, le1, by omega, tbJ, fun HK PK tbK kK => ⟨_, rfl, ?_⟩⟩
          refine iteF ?_
          have pr1K := (pr1I.keep kJ).keep kK
          -- what is no exponents
          refine ⟨_, rfl, (by show 0 ≤ sizeLine; decide), fun y1 hy1 => ⟨(by show 1 ≤ sizeLine; decide), fun y2 hy2 => ⟨(by show 2 ≤ sizeLine; decide), fun y3 hy3 => ⟨(by show 1 ≤ sizeLine; decide), fun y4 hy4 => ⟨(by show 2 ≤ sizeLine; decide), fun y5 hy5 => ⟨(by show 1 ≤ sizeLine; decide), fun y6 hy6 => ⟨(by show 8 ≤ sizeLine; decide), fun l1 hl1 => ?_⟩⟩⟩⟩⟩⟩⟩
          have n1 := AL.Same.new (o := .tup []) hy1
          have n2 := AL.Same.new (o := .lst [.int 1]) hy2
          have n3 := AL.Same.new (o := .tup [.str "1", .int 2]) hy3
          have n4 := AL.Same.new (o := .tup [.bl true]) hy4
          have n5 := AL.Same.new (o := .tup [.int 1, .int 1]) hy5
          have n6 := AL.Same.new (o := .tup [.ref y5]) hy6
          have n7 := AL.Same.new (o := .lst [.non, .int 3, .ref y1, .ref y2, .ref y3, .ref y4, .ref y6, .str "1"]) hl1
          have a67 := n6.trans n7
          have a57 := n5.trans a67
          have a47 := n4.trans a57
          have a37 := n3.trans a47
          have a27 := n2.trans a37
          have a17 := n1.trans a27
          have PK2 := PK.same a17
          refine ⟨p, c, l1, m + 4001 + 10 + 10, _, rfl, PK2, by omega, SqL.of upd_same, (by show 0 < 8; decide), (by show 8 < 1000000000; decide), fun j1 vo HM hvo PM kM => ?_⟩
          have kLM := (kM.p PK2).d
          obtain ⟨dO, odd⟩ : ∃ d, OddV HM vo d := by
            refine pick_of (P := fun v => ∃ d, OddV HM v d) (fun y hy => ?_) hvo
            simp only [List.mem_cons, List.not_mem_nil, or_false] at hy
            rcases hy with rfl | rfl | rfl | rfl | rfl | rfl | rfl | rfl
            · exact ⟨_, .non⟩
            · exact ⟨_, .int⟩
            · exact ⟨_, .nil (kLM.tup (a27 _ _ upd_same))⟩
            · exact ⟨_, .one (kLM.lst (a37 _ _ upd_same))⟩
            · exact ⟨_, .two (kLM.tup (a47 _ _ upd_same))⟩
            · exact ⟨_, .tru (kLM.tup (a57 _ _ upd_same))⟩
            · exact ⟨_, .par (kLM.tup (n7 _ _ upd_same)) (kLM.tup (a67 _ _ upd_same))⟩
            · exact ⟨_, .str⟩
          have kKM := (Same.d a17).trans kLM
          have tbM := tabs_p (tabs_same tbK a17) (kM.p PK2)
          have pr1M := pr1K.keep kKM
          clear hvo kLM n1 n2 n3 n4 n5 n6 n7 a67 a57 a47 a37 a27 a17 PK2 hy1 hy2 hy3 hy4 hy5 hy6 hl1 kKM kM
          -- what is no number
          refine ⟨_, rfl, (by show 2 ≤ sizeLine; decide), fun y1 hy1 => ⟨_, rfl, (by show 2 ≤ sizeLine; decide), fun y2 hy2 => ⟨(by show 2 ≤ sizeLine; decide), fun y3 hy3 => ⟨(by show 3 ≤ sizeLine; decide), fun y4 hy4 => ⟨(by show 7 ≤ sizeLine; decide), fun l1 hl1 => ?_⟩⟩⟩⟩⟩
          have n1 := AL.Same.new (o := .tup [.int 1, .int 0]) hy1
          have n2 := AL.Same.new (o := .tup [.int 1, .int (-2)]) hy2
          have n3 := AL.Same.new (o := .lst [.int 1, .int 2]) hy3
          have n4 := AL.Same.new (o := .tup [.int 1, .int 2, .int 3]) hy4
          have n5 := AL.Same.new (o := .lst [.non, .str "1", .ref y1, .ref y2, .ref y3, .bl true, .ref y4]) hl1
          have a45 := n4.trans n5
          have a35 := n3.trans a45
          have a25 := n2.trans a35
          have a15 := n1.trans a25
          have PM2 := PM.same a15
          refine ⟨p, c, l1, m + 4001 + 10 + 10 + 1, _, rfl, PM2, by omega, SqL.of upd_same, (by show 0 < 7; decide), (by show 7 < 1000000000; decide), fun j2 vm HN hvm PN kN => ?_⟩
          have kLN := (kN.p PM2).d
          obtain ⟨dM, more⟩ : ∃ d, MoreV HN vm d := by
            refine pick_of (P := fun v => ∃ d, MoreV HN v d) (fun y hy => ?_) hvm
            simp only [List.mem_cons, List.not_mem_nil, or_false] at hy
            rcases hy with rfl | rfl | rfl | rfl | rfl | rfl | rfl
            · exact ⟨_, .non⟩
            · exact ⟨_, .str⟩
            · exact ⟨_, .zer (kLN.tup (a25 _ _ upd_same))⟩
            · exact ⟨_, .neg (kLN.tup (a35 _ _ upd_same))⟩
            · exact ⟨_, .lst (kLN.lst (a45 _ _ upd_same))⟩
            · exact ⟨_, .tru⟩
            · exact ⟨_, .tri (kLN.tup (n5 _ _ upd_same))⟩
          have kMN := (Same.d a15).trans kLN
          have tbN := tabs_p (tabs_same tbM a15) (kN.p PM2)
          have pr1N := pr1M.keep kMN
          have oddN := odd.keep kMN
          clear hvm kLN n1 n2 n3 n4 n5 a45 a35 a25 a15 PM2 hy1 hy2 hy3 hy4 hl1 kMN kN odd
          -- exponents that are none
          refine ⟨tbN, lamN (what := "exponents") oddN.dp oddN.shw (fun E H1 Q' e1 th => ?_) (fun f1 HP eP TP hf1 => ?_)⟩
          · exact ⟨_, rfl, _, rfl, fun x dx h1 h2 h3 => ⟨x, dx, _, _, rfl, upd_same, .inl ⟨((oddN.keep (ext_d e1)).keep (Same.d (made_same h1 h2))).bad, fun d H2 hd s2 => th d H2 hd ((made_same h1 h2).trans s2)⟩⟩⟩
          have oddP := oddN.keep (ext_d eP)
          refine ⟨_, rfl, vo, dO, rfl, oddP.dp, oddP.shw.a, oddP.shw.b, oddP.shw.c, oddP.shw.e, (by show 3 ≤ sizeLine; decide), fun u1 hu1 => ?_⟩
          have nR := AL.Same.new (o := .tup [.str "number", .str "exponents", .str dO.shown]) hu1
          refine ⟨.tuple [.str "number", .str "exponents", .str dO.shown], .tuple [.str "number", .str "exponents", .str dO.shown], .tup (SqT.of (nR _ _ hf1)) (.cons (.str _) (.cons (.str _) (.cons (.str _) .nil))), .tup (SqT.of upd_same) (.cons (.str _) (.cons (.str _) (.cons (.str _) .nil))), oddP.msg, oddP.msg, _, rfl, ?_⟩
          rw [SeqAt.eqv_refl _ (SeqAt.canLay_of_shaped oddP.msg)]
          refine iteF ?_
          have eR := eP.trans (Same.ext nR)
          have tbR := tabs_same TP nR
          have PR := pen_ext PN eR
          have pr1R := pr1N.keep (ext_d eR)
          have moreR := more.keep (ext_d eR)
          generalize upd HP u1 (.tup [.str "number", .str "exponents", .str dO.shown]) = HR at *
          -- a number that is none
          refine ⟨tbR, lamN (what := "number") moreR.dp moreR.shw (fun E H1 Q' e1 th => ?_) (fun f2 HS2 eS TS hf2 => ?_)⟩
          · obtain ⟨u7, g7, e71, e72, e73⟩ := (pr1R.keep (ext_d e1)).ex
            exact ⟨_, rfl, o1, _, _, _, rfl, rfl, SqT.of e71, rfl, _, rfl, fun x dx h1 h2 h3 => ⟨x, dx, _, _, rfl, upd_same, .inr ⟨u7, es1, rfl, made_same h1 h2 _ _ e72, ne1, le1, .inl ⟨((moreR.keep (ext_d e1)).keep (Same.d (made_same h1 h2))).bad, fun d H2 hd s2 => th d H2 hd ((made_same h1 h2).trans s2)⟩⟩⟩⟩
          have moreS := moreR.keep (ext_d eS)
          refine ⟨_, rfl, vm, dM, rfl, moreS.dp, moreS.shw.a, moreS.shw.b, moreS.shw.c, moreS.shw.e, (by show 3 ≤ sizeLine; decide), fun u2 hu2 => ?_⟩
          have nT := AL.Same.new (o := .tup [.str "number", .str "number", .str dM.shown]) hu2
          refine ⟨.tuple [.str "number", .str "number", .str dM.shown], .tuple [.str "number", .str "number", .str dM.shown], .tup (SqT.of (nT _ _ hf2)) (.cons (.str _) (.cons (.str _) (.cons (.str _) .nil))), .tup (SqT.of upd_same) (.cons (.str _) (.cons (.str _) (.cons (.str _) .nil))), moreS.msg, moreS.msg, _, rfl, ?_⟩
          rw [SeqAt.eqv_refl _ (SeqAt.canLay_of_shaped moreS.msg)]
          refine iteF ?_
          have eT := eS.trans (Same.ext nT)
          have tbT := tabs_same TS nT
          have PT := pen_ext PR eT
          have pr1T := pr1R.keep (ext_d eT)
          generalize upd HS2 u2 (.tup [.str "number", .str "number", .str dM.shown]) = HT at *
          -- powers
          obtain ⟨u8, g8, e81, e82, e83⟩ := pr1T.ex
          have m01 : Mid 0 1 := ⟨by decide, Nat.pow_pos (by decide), Nat.one_lt_two_pow (by decide)⟩
          have s01 : Sm 0 1 := ⟨Nat.pow_pos (by decide), Nat.one_lt_two_pow (by decide)⟩
          refine ⟨_, rfl, o1, _, _, _, rfl, rfl, SqT.of e81, rfl, fun z dz hq1 hq2 hq3 => make_okN e82 ne1 le1 (.int 0) m01 (nrm_one 0) (low_one 0) m01 hq1 hq2 hq3 fun HU nU az => ⟨rfl, ?_⟩⟩
          have tbU := tabs_same tbT nU
          have PU := PT.same nU
          refine ⟨_, rfl, (by show 2 ≤ sizeLine; decide), fun y1 hy1 => ⟨(by show 1 ≤ sizeLine; decide), fun y2 hy2 => ⟨(by show 5 ≤ sizeLine; decide), fun l1 hl1 => ?_⟩⟩⟩
          have n1 := AL.Same.new (o := .tup [.int 1, .int 1]) hy1
          have n2 := AL.Same.new (o := .lst [.int 1]) hy2
          have n3 := AL.Same.new (o := .lst [.non, .ref y1, .str "2", .bl true, .ref y2]) hl1
          have a23 := n2.trans n3
          have a13 := n1.trans a23
          have PU2 := PU.same a13
          refine ⟨p, c, l1, m + 4001 + 10 + 10 + 1 + 1, _, rfl, PU2, by omega, SqL.of upd_same, (by show 0 < 5; decide), (by show 5 < 1000000000; decide), fun j3 vw HV hvw PV kV => ?_⟩
          have kLV := (kV.p PU2).d
          obtain ⟨dW, wr⟩ : ∃ d, WrV HV vw d := by
            refine pick_of (P := fun v => ∃ d, WrV HV v d) (fun y hy => ?_) hvw
            simp only [List.mem_cons, List.not_mem_nil, or_false] at hy
            rcases hy with rfl | rfl | rfl | rfl | rfl
            · exact ⟨_, .non⟩
            · exact ⟨_, .par (kLV.tup (a23 _ _ upd_same))⟩
            · exact ⟨_, .str⟩
            · exact ⟨_, .tru⟩
            · exact ⟨_, .lst (kLV.lst (n3 _ _ upd_same))⟩
          have azV := (az.keep (Same.d a13)).keep kLV
          have tbV := tabs_p (tabs_same tbU a13) (kV.p PU2)
          refine ⟨(by show 2 ≤ sizeLine; decide), fun tt htt => ⟨tt, _, rfl, SqT.of upd_same, rfl, _, _, rfl, _, _, rfl, rfl, ?_⟩⟩
          have nW := AL.Same.new (o := .tup [.ref z, vw]) htt
          have azW := azV.keep (Same.d nW)
          have tbW := tabs_same tbV nW
          have PW := PV.same nW
          have wrW := wr.keep (Same.d nW)
          generalize upd HV tt (.tup [.ref z, vw]) = HW at *
          clear hvw kLV n1 n2 n3 a23 a13 hy1 hy2 hl1 kV nW
          refine ⟨tbW, lamN (what := "power") wrW.dp wrW.shw (fun E H1 Q' e1 th => ?_) (fun f3 HX eX TX hf3 => ?_)⟩
          · obtain ⟨dz2, tz2, rz2, hins, _⟩ := (azW.keep (ext_d e1)).ex
            obtain ⟨w0, b, c, ty, kb, kc, no⟩ := (wrW.keep (ext_d e1)).bad (K := K)
            exact ⟨_, rfl, z, dz2, _, rfl, hins, flA_no _ _ (by decide +kernel) (by decide +kernel), _, rfl, z, vw, es1, 0, 1, rfl, azW.keep (ext_d e1), s01, .inl ⟨w0, b, c, ty, kb, kc, no, fun dd hd => th dd H1 hd (Same.refl _)⟩⟩
          have wrX := wrW.keep (ext_d eX)
          refine ⟨_, rfl, vw, dW, rfl, wrX.dp, wrX.shw.a, wrX.shw.b, wrX.shw.c, wrX.shw.e, (by show 3 ≤ sizeLine; decide), fun u3 hu3 => ?_⟩
          have nY := AL.Same.new (o := .tup [.str "number", .str "power", .str dW.shown]) hu3
          refine ⟨.tuple [.str "number", .str "power", .str dW.shown], .tuple [.str "number", .str "power", .str dW.shown], .tup (SqT.of (nY _ _ hf3)) (.cons (.str _) (.cons (.str _) (.cons (.str _) .nil))), .tup (SqT.of upd_same) (.cons (.str _) (.cons (.str _) (.cons (.str _) .nil))), wrX.msg, wrX.msg, _, rfl, ?_⟩
          rw [SeqAt.eqv_refl _ (SeqAt.canLay_of_shaped wrX.msg)]
          refine iteF ?_
          have eY := eX.trans (Same.ext nY)
          have tbY := tabs_same TX nY
          have PY := pen_ext PW eY
          have azY := azW.keep (ext_d eY)
          generalize upd HX u3 (.tup [.str "number", .str "power", .str dW.shown]) = HY at *
          obtain ⟨dz3, tz3, rz3, hins3, _⟩ := azY.ex
          refine ⟨_, rfl, z, dz3, _, rfl, hins3, flA_no _ _ (by decide +kernel) (by decide +kernel), z, .int 0, es1, 0, 1, rfl, azY, s01, .inr ⟨0, rfl, by decide, fun h => absurd h.1 (by decide), fun _ z2 HZ sZ az2 => ?_⟩⟩
          have azZ := azY.keep (Same.d sZ)
          refine ⟨(by show 1 ≤ sizeLine; decide), fun q1 hq1 => ?_⟩
          have sQ1 := AL.Same.new (o := .tup [.int 0]) hq1
          refine ⟨_, rfl, q1, (w : Int), [.int 0], rfl, rfl, SqT.of upd_same, by simp, by omega, by omega, by decide, fun hw1 => ?_, fun hw2 pp hpp => ?_⟩
          · have tQ : TupI (upd HZ q1 (.tup [.int 0])) q1 (es1.map (0 * ·)) := by
              have e1 : es1.length = 1 := by omega
              have := zeros es1
              rw [e1] at this
              show upd HZ q1 (.tup [.int 0]) q1 = some (.tup ((es1.map (0 * ·)).map V.int))
              rw [← this, upd_same]
              rfl
            have sQ := sQ1
            generalize upd HZ q1 (.tup [.int 0]) = HQ at *
            have azQ := azZ.keep (Same.d sQ)
            refine ⟨(by show 2 ≤ sizeLine; decide), fun q2 hq2 => ⟨z2, q1, q2, _, _, _, rfl, (az2.keep (Same.d sQ)).keep (Same.d (AL.Same.new hq2)), AL.Same.new hq2 _ _ tQ, upd_same, _, rfl, ?_⟩⟩
            refine iteF ?_
            have nq := AL.Same.new (o := .tup [.int 1, .int 1]) hq2
            have azE := azQ.keep (Same.d nq)
            obtain ⟨dzE, tzE, rzE, hinsE, htE, hrE⟩ := azE.ex
            refine ⟨_, rfl, _, rfl, z, _, dzE, _, _, rfl, hinsE, Es.cl, Es.nN, flA_n _ _, z, _, rfl, azE.ins, TyX.base (.tup hrE), Es.f1, z, _, es1, 0, 1, rfl, azE, .inr ⟨_, TyX.base (.tup hrE), Es.k2, .inr ⟨_, rfl⟩, _, rfl, ?_⟩⟩
            refine iteF ?_
            refine ⟨_, rfl, z, _, rfl, azE.ins, TyX.base (.int 0), Es.f2, z, _, es1, 0, 1, rfl, azE, .inr ⟨_, TyX.base (.int 0), Es.k3, .inr ⟨_, rfl⟩, _, rfl, ?_⟩⟩
            refine iteF ?_
            exact ⟨_, _, _, _, _, _, _, rfl, (((PY.same sZ).same sQ).same nq).mono (by omega), tabs_same (tabs_same (tabs_same tbY sZ) sQ) nq⟩
          · have sQ2 := AL.Same.new (o := .tup (List.replicate ((w : Int)).toNat [V.int 0]).flatten) hpp
            have tQ : TupI (upd (upd HZ q1 (.tup [.int 0])) pp (.tup (List.replicate ((w : Int)).toNat [V.int 0]).flatten)) pp (es1.map (0 * ·)) := by
              have := zeros es1
              rw [hz1] at this
              show upd (upd HZ q1 (.tup [.int 0])) pp (.tup (List.replicate ((w : Int)).toNat [V.int 0]).flatten) pp = some (.tup ((es1.map (0 * ·)).map V.int))
              rw [upd_same, ← this, Int.toNat_natCast]
            have sQ := sQ1.trans sQ2
            generalize upd (upd HZ q1 (.tup [.int 0])) pp (.tup (List.replicate ((w : Int)).toNat [V.int 0]).flatten) = HQ at *
            have azQ := azZ.keep (Same.d sQ)
            refine ⟨(by show 2 ≤ sizeLine; decide), fun q2 hq2 => ⟨z2, pp, q2, _, _, _, rfl, (az2.keep (Same.d sQ)).keep (Same.d (AL.Same.new hq2)), AL.Same.new hq2 _ _ tQ, upd_same, _, rfl, ?_⟩⟩
            refine iteF ?_
            have nq := AL.Same.new (o := .tup [.int 1, .int 1]) hq2
            have azE := azQ.keep (Same.d nq)
            obtain ⟨dzE, tzE, rzE, hinsE, htE, hrE⟩ := azE.ex
            refine ⟨_, rfl, _, rfl, z, _, dzE, _, _, rfl, hinsE, Es.cl, Es.nN, flA_n _ _, z, _, rfl, azE.ins, TyX.base (.tup hrE), Es.f1, z, _, es1, 0, 1, rfl, azE, .inr ⟨_, TyX.base (.tup hrE), Es.k2, .inr ⟨_, rfl⟩, _, rfl, ?_⟩⟩
            refine iteF ?_
            refine ⟨_, rfl, z, _, rfl, azE.ins, TyX.base (.int 0), Es.f2, z, _, es1, 0, 1, rfl, azE, .inr ⟨_, TyX.base (.int 0), Es.k3, .inr ⟨_, rfl⟩, _, rfl, ?_⟩⟩
            refine iteF ?_
            exact ⟨_, _, _, _, _, _, _, rfl, (((PY.same sZ).same sQ).same nq).mono (by omega), tabs_same (tabs_same (tabs_same tbY sZ) sQ) nq⟩
    · rintro σ HB ⟨v3, v4, v6, v7, v8, v9, v10, rfl, PB, tbB⟩
      exact q HB
end
end AL
set_option Elab.async false
set_option maxRecDepth 100000
set_option maxHeartbeats 2000000
namespace AL
open PySem PySem.Spec PyProof.Rows L2 RZ LamX
theorem all_mk {l : PySem.W.OpenLaw} {w : World} {K : PySem.W.Frag} {h : Heap} {mg : Str → Option Value} {CAmount f_law_pen f_law_draw f_law_pick f_law_big fis_whole fare_integers fis_ratio flowest fas_ratio fratio_sum fratio_product fratio_minus fratio_over fwhole_power fratio_power fcheck_like fA_init fA_add fA_sub fA_less fA_neg fA_eq fA_mul fA_over fA_power f_law_gcd f_law_q f_law_plus f_law_minus f_law_times f_law_over f_law_less f_law_ratio f_law_passed f_law_power f_law_is_amount f_law_some_number f_law_sums_right c1 P1 f_law_products_right c2 P2 flaw c3 P3 f_law_error CBadNumber fIBadNumber CUnlike fIUnlike CByZero fIByZero CBadText CNoUnit fa : Addr} (X : K.In h) (G : h.Ns mainGlobals mg) (hfa : mg "law" = some (.ref fa))
    {oc_law_pen kV_law_pen dc_law_pen pm_law_pen ct_law_pen cd_law_pen : Value} {od_law_pen an_law_pen : Option Addr} {sl_law_pen : Array (Option Value)}
    {oc_law_draw kV_law_draw dc_law_draw pm_law_draw ct_law_draw cd_law_draw : Value} {od_law_draw an_law_draw : Option Addr} {sl_law_draw : Array (Option Value)}
    {oc_law_pick kV_law_pick dc_law_pick pm_law_pick ct_law_pick cd_law_pick : Value} {od_law_pick an_law_pick : Option Addr} {sl_law_pick : Array (Option Value)}
    {oc_law_big kV_law_big dc_law_big pm_law_big ct_law_big cd_law_big : Value} {od_law_big an_law_big : Option Addr} {sl_law_big : Array (Option Value)}
    {ocis_whole kVis_whole dcis_whole pmis_whole ctis_whole cdis_whole : Value} {odis_whole anis_whole : Option Addr} {slis_whole : Array (Option Value)}
    {ocare_integers kVare_integers dcare_integers pmare_integers ctare_integers cdare_integers : Value} {odare_integers anare_integers : Option Addr} {slare_integers : Array (Option Value)}
    {ocis_ratio kVis_ratio dcis_ratio pmis_ratio ctis_ratio cdis_ratio : Value} {odis_ratio anis_ratio : Option Addr} {slis_ratio : Array (Option Value)}
    {oclowest kVlowest dclowest pmlowest ctlowest cdlowest : Value} {odlowest anlowest : Option Addr} {sllowest : Array (Option Value)}
    {ocas_ratio kVas_ratio dcas_ratio pmas_ratio ctas_ratio cdas_ratio : Value} {odas_ratio anas_ratio : Option Addr} {slas_ratio : Array (Option Value)}
    {ocratio_sum kVratio_sum dcratio_sum pmratio_sum ctratio_sum cdratio_sum : Value} {odratio_sum anratio_sum : Option Addr} {slratio_sum : Array (Option Value)}
    {ocratio_product kVratio_product dcratio_product pmratio_product ctratio_product cdratio_product : Value} {odratio_product anratio_product : Option Addr} {slratio_product : Array (Option Value)}
    {ocratio_minus kVratio_minus dcratio_minus pmratio_minus ctratio_minus cdratio_minus : Value} {odratio_minus anratio_minus : Option Addr} {slratio_minus : Array (Option Value)}
    {ocratio_over kVratio_over dcratio_over pmratio_over ctratio_over cdratio_over : Value} {odratio_over anratio_over : Option Addr} {slratio_over : Array (Option Value)}
    {ocwhole_power kVwhole_power dcwhole_power pmwhole_power ctwhole_power cdwhole_power : Value} {odwhole_power anwhole_power : Option Addr} {slwhole_power : Array (Option Value)}
    {ocratio_power kVratio_power dcratio_power pmratio_power ctratio_power cdratio_power : Value} {odratio_power anratio_power : Option Addr} {slratio_power : Array (Option Value)}
    {occheck_like kVcheck_like dccheck_like pmcheck_like ctcheck_like cdcheck_like : Value} {odcheck_like ancheck_like : Option Addr} {slcheck_like : Array (Option Value)}
    {ocA_init kVA_init dcA_init pmA_init ctA_init cdA_init : Value} {odA_init anA_init : Option Addr} {slA_init : Array (Option Value)}
    {ocA_add kVA_add dcA_add pmA_add ctA_add cdA_add : Value} {odA_add anA_add : Option Addr} {slA_add : Array (Option Value)}
    {ocA_sub kVA_sub dcA_sub pmA_sub ctA_sub cdA_sub : Value} {odA_sub anA_sub : Option Addr} {slA_sub : Array (Option Value)}
    {ocA_less kVA_less dcA_less pmA_less ctA_less cdA_less : Value} {odA_less anA_less : Option Addr} {slA_less : Array (Option Value)}
    {ocA_neg kVA_neg dcA_neg pmA_neg ctA_neg cdA_neg : Value} {odA_neg anA_neg : Option Addr} {slA_neg : Array (Option Value)}
    {ocA_eq kVA_eq dcA_eq pmA_eq ctA_eq cdA_eq : Value} {odA_eq anA_eq : Option Addr} {slA_eq : Array (Option Value)}
    {ocA_mul kVA_mul dcA_mul pmA_mul ctA_mul cdA_mul : Value} {odA_mul anA_mul : Option Addr} {slA_mul : Array (Option Value)}
    {ocA_over kVA_over dcA_over pmA_over ctA_over cdA_over : Value} {odA_over anA_over : Option Addr} {slA_over : Array (Option Value)}
    {ocA_power kVA_power dcA_power pmA_power ctA_power cdA_power : Value} {odA_power anA_power : Option Addr} {slA_power : Array (Option Value)}
    {oc_law_gcd kV_law_gcd dc_law_gcd pm_law_gcd ct_law_gcd cd_law_gcd : Value} {od_law_gcd an_law_gcd : Option Addr} {sl_law_gcd : Array (Option Value)}
    {oc_law_q kV_law_q dc_law_q pm_law_q ct_law_q cd_law_q : Value} {od_law_q an_law_q : Option Addr} {sl_law_q : Array (Option Value)}
    {oc_law_plus kV_law_plus dc_law_plus pm_law_plus ct_law_plus cd_law_plus : Value} {od_law_plus an_law_plus : Option Addr} {sl_law_plus : Array (Option Value)}
    {oc_law_minus kV_law_minus dc_law_minus pm_law_minus ct_law_minus cd_law_minus : Value} {od_law_minus an_law_minus : Option Addr} {sl_law_minus : Array (Option Value)}
    {oc_law_times kV_law_times dc_law_times pm_law_times ct_law_times cd_law_times : Value} {od_law_times an_law_times : Option Addr} {sl_law_times : Array (Option Value)}
    {oc_law_over kV_law_over dc_law_over pm_law_over ct_law_over cd_law_over : Value} {od_law_over an_law_over : Option Addr} {sl_law_over : Array (Option Value)}
    {oc_law_less kV_law_less dc_law_less pm_law_less ct_law_less cd_law_less : Value} {od_law_less an_law_less : Option Addr} {sl_law_less : Array (Option Value)}
    {oc_law_ratio kV_law_ratio dc_law_ratio pm_law_ratio ct_law_ratio cd_law_ratio : Value} {od_law_ratio an_law_ratio : Option Addr} {sl_law_ratio : Array (Option Value)}
    {oc_law_passed kV_law_passed dc_law_passed pm_law_passed ct_law_passed cd_law_passed : Value} {od_law_passed an_law_passed : Option Addr} {sl_law_passed : Array (Option Value)}
    {oc_law_power kV_law_power dc_law_power pm_law_power ct_law_power cd_law_power : Value} {od_law_power an_law_power : Option Addr} {sl_law_power : Array (Option Value)}
    {oc_law_is_amount kV_law_is_amount dc_law_is_amount pm_law_is_amount ct_law_is_amount cd_law_is_amount : Value} {od_law_is_amount an_law_is_amount : Option Addr} {sl_law_is_amount : Array (Option Value)}
    {oc_law_some_number kV_law_some_number dc_law_some_number pm_law_some_number ct_law_some_number cd_law_some_number : Value} {od_law_some_number an_law_some_number : Option Addr} {sl_law_some_number : Array (Option Value)}
    {oc_law_sums_right kV_law_sums_right dc_law_sums_right pm_law_sums_right ct_law_sums_right : Value} {od_law_sums_right an_law_sums_right : Option Addr} {sl_law_sums_right : Array (Option Value)}
    {orr_law_sums_right : Value} {odr_law_sums_right : Option Addr} {vsr_law_sums_right : Array Value} {slr_law_sums_right : Array (Option Value)}
    {oc_law_products_right kV_law_products_right dc_law_products_right pm_law_products_right ct_law_products_right : Value} {od_law_products_right an_law_products_right : Option Addr} {sl_law_products_right : Array (Option Value)}
    {orr_law_products_right : Value} {odr_law_products_right : Option Addr} {vsr_law_products_right : Array Value} {slr_law_products_right : Array (Option Value)}
    {oclaw kVlaw dclaw pmlaw ctlaw : Value} {odlaw anlaw : Option Addr} {sllaw : Array (Option Value)}
    {orrlaw : Value} {odrlaw : Option Addr} {vsrlaw : Array Value} {slrlaw : Array (Option Value)}
    {oc_law_error kV_law_error dc_law_error pm_law_error ct_law_error cd_law_error : Value} {od_law_error an_law_error : Option Addr} {sl_law_error : Array (Option Value)}
    {nmBadNumber qnBadNumber : Str} {NBadNumber : Addr} {bsBadNumber bmBadNumber : List Value} {snBadNumber : List Str} {subBadNumber : List Value} {abBadNumber : Bool} {colBadNumber : Option Bool} {ddBadNumber : Option Addr} {m0BadNumber m1BadNumber m2BadNumber m3BadNumber m5BadNumber : Option Value}
    {ocIBadNumber kVIBadNumber dcIBadNumber pmIBadNumber ctIBadNumber cdIBadNumber : Value} {odIBadNumber anIBadNumber : Option Addr} {slIBadNumber : Array (Option Value)}
    {nmUnlike qnUnlike : Str} {NUnlike : Addr} {bsUnlike bmUnlike : List Value} {snUnlike : List Str} {subUnlike : List Value} {abUnlike : Bool} {colUnlike : Option Bool} {ddUnlike : Option Addr} {m0Unlike m1Unlike m2Unlike m3Unlike m5Unlike : Option Value}
    {ocIUnlike kVIUnlike dcIUnlike pmIUnlike ctIUnlike cdIUnlike : Value} {odIUnlike anIUnlike : Option Addr} {slIUnlike : Array (Option Value)}
    {nmByZero qnByZero : Str} {NByZero : Addr} {bsByZero bmByZero : List Value} {snByZero : List Str} {subByZero : List Value} {abByZero : Bool} {colByZero : Option Bool} {ddByZero : Option Addr} {m0ByZero m1ByZero m2ByZero m3ByZero m5ByZero : Option Value}
    {ocIByZero kVIByZero dcIByZero pmIByZero ctIByZero cdIByZero : Value} {odIByZero anIByZero : Option Addr} {slIByZero : Array (Option Value)}
    {nmBadText qnBadText : Str} {NBadText : Addr} {bsBadText bmBadText : List Value} {snBadText : List Str} {subBadText : List Value} {abBadText : Bool} {colBadText : Option Bool} {ddBadText : Option Addr} {m0BadText m1BadText m2BadText m3BadText m5BadText : Option Value}
    {nmNoUnit qnNoUnit : Str} {NNoUnit : Addr} {bsNoUnit bmNoUnit : List Value} {snNoUnit : List Str} {subNoUnit : List Value} {abNoUnit : Bool} {colNoUnit : Option Bool} {ddNoUnit : Option Addr} {m0NoUnit m1NoUnit m2NoUnit m3NoUnit m5NoUnit : Option Value}
    (aCA : PySem.W.nsIn K mainGlobals "Amount" = some (some (.ref CAmount)))
    (a_law_pen : PySem.W.nsIn K mainGlobals "_law_pen" = some (some (.ref f_law_pen)))
    (l_law_pen : K.lookup f_law_pen = some ⟨oc_law_pen, od_law_pen, .func (PySem.W.fnOf "_law_pen" "_law_pen" (defArgs st_law_pen) (defBody st_law_pen) (defScope st_law_pen) .none kV_law_pen dc_law_pen pm_law_pen an_law_pen cd_law_pen ct_law_pen), sl_law_pen⟩)
    (c_law_pen : PySem.W.codeIn K cd_law_pen "_law_pen" = true)
    (k_law_pen : PySem.W.keepIn K (.ref f_law_pen) = true)
    (a_law_draw : PySem.W.nsIn K mainGlobals "_law_draw" = some (some (.ref f_law_draw)))
    (l_law_draw : K.lookup f_law_draw = some ⟨oc_law_draw, od_law_draw, .func (PySem.W.fnOf "_law_draw" "_law_draw" (defArgs st_law_draw) (defBody st_law_draw) (defScope st_law_draw) .none kV_law_draw dc_law_draw pm_law_draw an_law_draw cd_law_draw ct_law_draw), sl_law_draw⟩)
    (c_law_draw : PySem.W.codeIn K cd_law_draw "_law_draw" = true)
    (k_law_draw : PySem.W.keepIn K (.ref f_law_draw) = true)
    (a_law_pick : PySem.W.nsIn K mainGlobals "_law_pick" = some (some (.ref f_law_pick)))
    (l_law_pick : K.lookup f_law_pick = some ⟨oc_law_pick, od_law_pick, .func (PySem.W.fnOf "_law_pick" "_law_pick" (defArgs st_law_pick) (defBody st_law_pick) (defScope st_law_pick) .none kV_law_pick dc_law_pick pm_law_pick an_law_pick cd_law_pick ct_law_pick), sl_law_pick⟩)
    (c_law_pick : PySem.W.codeIn K cd_law_pick "_law_pick" = true)
    (k_law_pick : PySem.W.keepIn K (.ref f_law_pick) = true)
    (a_law_big : PySem.W.nsIn K mainGlobals "_law_big" = some (some (.ref f_law_big)))
    (l_law_big : K.lookup f_law_big = some ⟨oc_law_big, od_law_big, .func (PySem.W.fnOf "_law_big" "_law_big" (defArgs st_law_big) (defBody st_law_big) (defScope st_law_big) .none kV_law_big dc_law_big pm_law_big an_law_big cd_law_big ct_law_big), sl_law_big⟩)
    (c_law_big : PySem.W.codeIn K cd_law_big "_law_big" = true)
    (k_law_big : PySem.W.keepIn K (.ref f_law_big) = true)
    (ais_whole : PySem.W.nsIn K mainGlobals "is_whole" = some (some (.ref fis_whole)))
    (lis_whole : K.lookup fis_whole = some ⟨ocis_whole, odis_whole, .func (PySem.W.fnOf "is_whole" "is_whole" (defArgs stis_whole) (defBody stis_whole) (defScope stis_whole) .none kVis_whole dcis_whole pmis_whole anis_whole cdis_whole ctis_whole), slis_whole⟩)
    (cis_whole : PySem.W.codeIn K cdis_whole "is_whole" = true)
    (kis_whole : PySem.W.keepIn K (.ref fis_whole) = true)
    (aare_integers : PySem.W.nsIn K mainGlobals "are_integers" = some (some (.ref fare_integers)))
    (lare_integers : K.lookup fare_integers = some ⟨ocare_integers, odare_integers, .func (PySem.W.fnOf "are_integers" "are_integers" (defArgs stare_integers) (defBody stare_integers) (defScope stare_integers) .none kVare_integers dcare_integers pmare_integers anare_integers cdare_integers ctare_integers), slare_integers⟩)
    (care_integers : PySem.W.codeIn K cdare_integers "are_integers" = true)
    (kare_integers : PySem.W.keepIn K (.ref fare_integers) = true)
    (ais_ratio : PySem.W.nsIn K mainGlobals "is_ratio" = some (some (.ref fis_ratio)))
    (lis_ratio : K.lookup fis_ratio = some ⟨ocis_ratio, odis_ratio, .func (PySem.W.fnOf "is_ratio" "is_ratio" (defArgs stis_ratio) (defBody stis_ratio) (defScope stis_ratio) .none kVis_ratio dcis_ratio pmis_ratio anis_ratio cdis_ratio ctis_ratio), slis_ratio⟩)
    (cis_ratio : PySem.W.codeIn K cdis_ratio "is_ratio" = true)
    (kis_ratio : PySem.W.keepIn K (.ref fis_ratio) = true)
    (alowest : PySem.W.nsIn K mainGlobals "lowest" = some (some (.ref flowest)))
    (llowest : K.lookup flowest = some ⟨oclowest, odlowest, .func (PySem.W.fnOf "lowest" "lowest" (defArgs stlowest) (defBody stlowest) (defScope stlowest) .none kVlowest dclowest pmlowest anlowest cdlowest ctlowest), sllowest⟩)
    (clowest : PySem.W.codeIn K cdlowest "lowest" = true)
    (klowest : PySem.W.keepIn K (.ref flowest) = true)
    (aas_ratio : PySem.W.nsIn K mainGlobals "as_ratio" = some (some (.ref fas_ratio)))
    (las_ratio : K.lookup fas_ratio = some ⟨ocas_ratio, odas_ratio, .func (PySem.W.fnOf "as_ratio" "as_ratio" (defArgs stas_ratio) (defBody stas_ratio) (defScope stas_ratio) .none kVas_ratio dcas_ratio pmas_ratio anas_ratio cdas_ratio ctas_ratio), slas_ratio⟩)
    (cas_ratio : PySem.W.codeIn K cdas_ratio "as_ratio" = true)
    (kas_ratio : PySem.W.keepIn K (.ref fas_ratio) = true)
    (aratio_sum : PySem.W.nsIn K mainGlobals "ratio_sum" = some (some (.ref fratio_sum)))
    (lratio_sum : K.lookup fratio_sum = some ⟨ocratio_sum, odratio_sum, .func (PySem.W.fnOf "ratio_sum" "ratio_sum" (defArgs stratio_sum) (defBody stratio_sum) (defScope stratio_sum) .none kVratio_sum dcratio_sum pmratio_sum anratio_sum cdratio_sum ctratio_sum), slratio_sum⟩)
    (cratio_sum : PySem.W.codeIn K cdratio_sum "ratio_sum" = true)
    (kratio_sum : PySem.W.keepIn K (.ref fratio_sum) = true)
    (aratio_product : PySem.W.nsIn K mainGlobals "ratio_product" = some (some (.ref fratio_product)))
    (lratio_product : K.lookup fratio_product = some ⟨ocratio_product, odratio_product, .func (PySem.W.fnOf "ratio_product" "ratio_product" (defArgs stratio_product) (defBody stratio_product) (defScope stratio_product) .none kVratio_product dcratio_product pmratio_product anratio_product cdratio_product ctratio_product), slratio_product⟩)
    (cratio_product : PySem.W.codeIn K cdratio_product "ratio_product" = true)
    (kratio_product : PySem.W.keepIn K (.ref fratio_product) = true)
    (aratio_minus : PySem.W.nsIn K mainGlobals "ratio_minus" = some (some (.ref fratio_minus)))
    (lratio_minus : K.lookup fratio_minus = some ⟨ocratio_minus, odratio_minus, .func (PySem.W.fnOf "ratio_minus" "ratio_minus" (defArgs stratio_minus) (defBody stratio_minus) (defScope stratio_minus) .none kVratio_minus dcratio_minus pmratio_minus anratio_minus cdratio_minus ctratio_minus), slratio_minus⟩)
    (cratio_minus : PySem.W.codeIn K cdratio_minus "ratio_minus" = true)
    (kratio_minus : PySem.W.keepIn K (.ref fratio_minus) = true)
    (aratio_over : PySem.W.nsIn K mainGlobals "ratio_over" = some (some (.ref fratio_over)))
    (lratio_over : K.lookup fratio_over = some ⟨ocratio_over, odratio_over, .func (PySem.W.fnOf "ratio_over" "ratio_over" (defArgs stratio_over) (defBody stratio_over) (defScope stratio_over) .none kVratio_over dcratio_over pmratio_over anratio_over cdratio_over ctratio_over), slratio_over⟩)
    (cratio_over : PySem.W.codeIn K cdratio_over "ratio_over" = true)
    (kratio_over : PySem.W.keepIn K (.ref fratio_over) = true)
    (awhole_power : PySem.W.nsIn K mainGlobals "whole_power" = some (some (.ref fwhole_power)))
    (lwhole_power : K.lookup fwhole_power = some ⟨ocwhole_power, odwhole_power, .func (PySem.W.fnOf "whole_power" "whole_power" (defArgs stwhole_power) (defBody stwhole_power) (defScope stwhole_power) .none kVwhole_power dcwhole_power pmwhole_power anwhole_power cdwhole_power ctwhole_power), slwhole_power⟩)
    (cwhole_power : PySem.W.codeIn K cdwhole_power "whole_power" = true)
    (kwhole_power : PySem.W.keepIn K (.ref fwhole_power) = true)
    (aratio_power : PySem.W.nsIn K mainGlobals "ratio_power" = some (some (.ref fratio_power)))
    (lratio_power : K.lookup fratio_power = some ⟨ocratio_power, odratio_power, .func (PySem.W.fnOf "ratio_power" "ratio_power" (defArgs stratio_power) (defBody stratio_power) (defScope stratio_power) .none kVratio_power dcratio_power pmratio_power anratio_power cdratio_power ctratio_power), slratio_power⟩)
    (cratio_power : PySem.W.codeIn K cdratio_power "ratio_power" = true)
    (kratio_power : PySem.W.keepIn K (.ref fratio_power) = true)
    (acheck_like : PySem.W.nsIn K mainGlobals "check_like" = some (some (.ref fcheck_like)))
    (lcheck_like : K.lookup fcheck_like = some ⟨occheck_like, odcheck_like, .func (PySem.W.fnOf "check_like" "check_like" (defArgs stcheck_like) (defBody stcheck_like) (defScope stcheck_like) .none kVcheck_like dccheck_like pmcheck_like ancheck_like cdcheck_like ctcheck_like), slcheck_like⟩)
    (ccheck_like : PySem.W.codeIn K cdcheck_like "check_like" = true)
    (kcheck_like : PySem.W.keepIn K (.ref fcheck_like) = true)
    (aA_init : PySem.W.findIn K (.ref CAmount) "__init__" = some (some (.ref fA_init)))
    (iA_init : PySem.W.isFn K (.ref fA_init) = true)
    (lA_init : K.lookup fA_init = some ⟨ocA_init, odA_init, .func (PySem.W.fnOf "__init__" "Amount.__init__" (defArgs stA_init) (defBody stA_init) (defScope stA_init) .none kVA_init dcA_init pmA_init anA_init cdA_init ctA_init), slA_init⟩)
    (cA_init : PySem.W.codeIn K cdA_init "Amount.__init__" = true)
    (kA_init : PySem.W.keepIn K (.ref fA_init) = true)
    (aA_add : PySem.W.findIn K (.ref CAmount) "__add__" = some (some (.ref fA_add)))
    (iA_add : PySem.W.isFn K (.ref fA_add) = true)
    (lA_add : K.lookup fA_add = some ⟨ocA_add, odA_add, .func (PySem.W.fnOf "__add__" "Amount.__add__" (defArgs stA_add) (defBody stA_add) (defScope stA_add) .none kVA_add dcA_add pmA_add anA_add cdA_add ctA_add), slA_add⟩)
    (cA_add : PySem.W.codeIn K cdA_add "Amount.__add__" = true)
    (kA_add : PySem.W.keepIn K (.ref fA_add) = true)
    (aA_sub : PySem.W.findIn K (.ref CAmount) "__sub__" = some (some (.ref fA_sub)))
    (iA_sub : PySem.W.isFn K (.ref fA_sub) = true)
    (lA_sub : K.lookup fA_sub = some ⟨ocA_sub, odA_sub, .func (PySem.W.fnOf "__sub__" "Amount.__sub__" (defArgs stA_sub) (defBody stA_sub) (defScope stA_sub) .none kVA_sub dcA_sub pmA_sub anA_sub cdA_sub ctA_sub), slA_sub⟩)
    (cA_sub : PySem.W.codeIn K cdA_sub "Amount.__sub__" = true)
    (kA_sub : PySem.W.keepIn K (.ref fA_sub) = true)
    (aA_less : PySem.W.findIn K (.ref CAmount) "less" = some (some (.ref fA_less)))
    (iA_less : PySem.W.isFn K (.ref fA_less) = true)
    (lA_less : K.lookup fA_less = some ⟨ocA_less, odA_less, .func (PySem.W.fnOf "less" "Amount.less" (defArgs stA_less) (defBody stA_less) (defScope stA_less) .none kVA_less dcA_less pmA_less anA_less cdA_less ctA_less), slA_less⟩)
    (cA_less : PySem.W.codeIn K cdA_less "Amount.less" = true)
    (kA_less : PySem.W.keepIn K (.ref fA_less) = true)
    (aA_neg : PySem.W.findIn K (.ref CAmount) "__neg__" = some (some (.ref fA_neg)))
    (iA_neg : PySem.W.isFn K (.ref fA_neg) = true)
    (lA_neg : K.lookup fA_neg = some ⟨ocA_neg, odA_neg, .func (PySem.W.fnOf "__neg__" "Amount.__neg__" (defArgs stA_neg) (defBody stA_neg) (defScope stA_neg) .none kVA_neg dcA_neg pmA_neg anA_neg cdA_neg ctA_neg), slA_neg⟩)
    (cA_neg : PySem.W.codeIn K cdA_neg "Amount.__neg__" = true)
    (kA_neg : PySem.W.keepIn K (.ref fA_neg) = true)
    (aA_eq : PySem.W.findIn K (.ref CAmount) "__eq__" = some (some (.ref fA_eq)))
    (iA_eq : PySem.W.isFn K (.ref fA_eq) = true)
    (lA_eq : K.lookup fA_eq = some ⟨ocA_eq, odA_eq, .func (PySem.W.fnOf "__eq__" "Amount.__eq__" (defArgs stA_eq) (defBody stA_eq) (defScope stA_eq) .none kVA_eq dcA_eq pmA_eq anA_eq cdA_eq ctA_eq), slA_eq⟩)
    (cA_eq : PySem.W.codeIn K cdA_eq "Amount.__eq__" = true)
    (kA_eq : PySem.W.keepIn K (.ref fA_eq) = true)
    (aA_mul : PySem.W.findIn K (.ref CAmount) "__mul__" = some (some (.ref fA_mul)))
    (iA_mul : PySem.W.isFn K (.ref fA_mul) = true)
    (lA_mul : K.lookup fA_mul = some ⟨ocA_mul, odA_mul, .func (PySem.W.fnOf "__mul__" "Amount.__mul__" (defArgs stA_mul) (defBody stA_mul) (defScope stA_mul) .none kVA_mul dcA_mul pmA_mul anA_mul cdA_mul ctA_mul), slA_mul⟩)
    (cA_mul : PySem.W.codeIn K cdA_mul "Amount.__mul__" = true)
    (kA_mul : PySem.W.keepIn K (.ref fA_mul) = true)
    (aA_over : PySem.W.findIn K (.ref CAmount) "over" = some (some (.ref fA_over)))
    (iA_over : PySem.W.isFn K (.ref fA_over) = true)
    (lA_over : K.lookup fA_over = some ⟨ocA_over, odA_over, .func (PySem.W.fnOf "over" "Amount.over" (defArgs stA_over) (defBody stA_over) (defScope stA_over) .none kVA_over dcA_over pmA_over anA_over cdA_over ctA_over), slA_over⟩)
    (cA_over : PySem.W.codeIn K cdA_over "Amount.over" = true)
    (kA_over : PySem.W.keepIn K (.ref fA_over) = true)
    (aA_power : PySem.W.findIn K (.ref CAmount) "power" = some (some (.ref fA_power)))
    (iA_power : PySem.W.isFn K (.ref fA_power) = true)
    (lA_power : K.lookup fA_power = some ⟨ocA_power, odA_power, .func (PySem.W.fnOf "power" "Amount.power" (defArgs stA_power) (defBody stA_power) (defScope stA_power) .none kVA_power dcA_power pmA_power anA_power cdA_power ctA_power), slA_power⟩)
    (cA_power : PySem.W.codeIn K cdA_power "Amount.power" = true)
    (kA_power : PySem.W.keepIn K (.ref fA_power) = true)
    (a_law_gcd : PySem.W.nsIn K mainGlobals "_law_gcd" = some (some (.ref f_law_gcd)))
    (l_law_gcd : K.lookup f_law_gcd = some ⟨oc_law_gcd, od_law_gcd, .func (PySem.W.fnOf "_law_gcd" "_law_gcd" (defArgs st_law_gcd) (defBody st_law_gcd) (defScope st_law_gcd) .none kV_law_gcd dc_law_gcd pm_law_gcd an_law_gcd cd_law_gcd ct_law_gcd), sl_law_gcd⟩)
    (c_law_gcd : PySem.W.codeIn K cd_law_gcd "_law_gcd" = true)
    (k_law_gcd : PySem.W.keepIn K (.ref f_law_gcd) = true)
    (a_law_q : PySem.W.nsIn K mainGlobals "_law_q" = some (some (.ref f_law_q)))
    (l_law_q : K.lookup f_law_q = some ⟨oc_law_q, od_law_q, .func (PySem.W.fnOf "_law_q" "_law_q" (defArgs st_law_q) (defBody st_law_q) (defScope st_law_q) .none kV_law_q dc_law_q pm_law_q an_law_q cd_law_q ct_law_q), sl_law_q⟩)
    (c_law_q : PySem.W.codeIn K cd_law_q "_law_q" = true)
    (k_law_q : PySem.W.keepIn K (.ref f_law_q) = true)
    (a_law_plus : PySem.W.nsIn K mainGlobals "_law_plus" = some (some (.ref f_law_plus)))
    (l_law_plus : K.lookup f_law_plus = some ⟨oc_law_plus, od_law_plus, .func (PySem.W.fnOf "_law_plus" "_law_plus" (defArgs st_law_plus) (defBody st_law_plus) (defScope st_law_plus) .none kV_law_plus dc_law_plus pm_law_plus an_law_plus cd_law_plus ct_law_plus), sl_law_plus⟩)
    (c_law_plus : PySem.W.codeIn K cd_law_plus "_law_plus" = true)
    (k_law_plus : PySem.W.keepIn K (.ref f_law_plus) = true)
    (a_law_minus : PySem.W.nsIn K mainGlobals "_law_minus" = some (some (.ref f_law_minus)))
    (l_law_minus : K.lookup f_law_minus = some ⟨oc_law_minus, od_law_minus, .func (PySem.W.fnOf "_law_minus" "_law_minus" (defArgs st_law_minus) (defBody st_law_minus) (defScope st_law_minus) .none kV_law_minus dc_law_minus pm_law_minus an_law_minus cd_law_minus ct_law_minus), sl_law_minus⟩)
    (c_law_minus : PySem.W.codeIn K cd_law_minus "_law_minus" = true)
    (k_law_minus : PySem.W.keepIn K (.ref f_law_minus) = true)
    (a_law_times : PySem.W.nsIn K mainGlobals "_law_times" = some (some (.ref f_law_times)))
    (l_law_times : K.lookup f_law_times = some ⟨oc_law_times, od_law_times, .func (PySem.W.fnOf "_law_times" "_law_times" (defArgs st_law_times) (defBody st_law_times) (defScope st_law_times) .none kV_law_times dc_law_times pm_law_times an_law_times cd_law_times ct_law_times), sl_law_times⟩)
    (c_law_times : PySem.W.codeIn K cd_law_times "_law_times" = true)
    (k_law_times : PySem.W.keepIn K (.ref f_law_times) = true)
    (a_law_over : PySem.W.nsIn K mainGlobals "_law_over" = some (some (.ref f_law_over)))
    (l_law_over : K.lookup f_law_over = some ⟨oc_law_over, od_law_over, .func (PySem.W.fnOf "_law_over" "_law_over" (defArgs st_law_over) (defBody st_law_over) (defScope st_law_over) .none kV_law_over dc_law_over pm_law_over an_law_over cd_law_over ct_law_over), sl_law_over⟩)
    (c_law_over : PySem.W.codeIn K cd_law_over "_law_over" = true)
    (k_law_over : PySem.W.keepIn K (.ref f_law_over) = true)
    (a_law_less : PySem.W.nsIn K mainGlobals "_law_less" = some (some (.ref f_law_less)))
    (l_law_less : K.lookup f_law_less = some ⟨oc_law_less, od_law_less, .func (PySem.W.fnOf "_law_less" "_law_less" (defArgs st_law_less) (defBody st_law_less) (defScope st_law_less) .none kV_law_less dc_law_less pm_law_less an_law_less cd_law_less ct_law_less), sl_law_less⟩)
    (c_law_less : PySem.W.codeIn K cd_law_less "_law_less" = true)
    (k_law_less : PySem.W.keepIn K (.ref f_law_less) = true)
    (a_law_ratio : PySem.W.nsIn K mainGlobals "_law_ratio" = some (some (.ref f_law_ratio)))
    (l_law_ratio : K.lookup f_law_ratio = some ⟨oc_law_ratio, od_law_ratio, .func (PySem.W.fnOf "_law_ratio" "_law_ratio" (defArgs st_law_ratio) (defBody st_law_ratio) (defScope st_law_ratio) .none kV_law_ratio dc_law_ratio pm_law_ratio an_law_ratio cd_law_ratio ct_law_ratio), sl_law_ratio⟩)
    (c_law_ratio : PySem.W.codeIn K cd_law_ratio "_law_ratio" = true)
    (k_law_ratio : PySem.W.keepIn K (.ref f_law_ratio) = true)
    (a_law_passed : PySem.W.nsIn K mainGlobals "_law_passed" = some (some (.ref f_law_passed)))
    (l_law_passed : K.lookup f_law_passed = some ⟨oc_law_passed, od_law_passed, .func (PySem.W.fnOf "_law_passed" "_law_passed" (defArgs st_law_passed) (defBody st_law_passed) (defScope st_law_passed) .none kV_law_passed dc_law_passed pm_law_passed an_law_passed cd_law_passed ct_law_passed), sl_law_passed⟩)
    (c_law_passed : PySem.W.codeIn K cd_law_passed "_law_passed" = true)
    (k_law_passed : PySem.W.keepIn K (.ref f_law_passed) = true)
    (a_law_power : PySem.W.nsIn K mainGlobals "_law_power" = some (some (.ref f_law_power)))
    (l_law_power : K.lookup f_law_power = some ⟨oc_law_power, od_law_power, .func (PySem.W.fnOf "_law_power" "_law_power" (defArgs st_law_power) (defBody st_law_power) (defScope st_law_power) .none kV_law_power dc_law_power pm_law_power an_law_power cd_law_power ct_law_power), sl_law_power⟩)
    (c_law_power : PySem.W.codeIn K cd_law_power "_law_power" = true)
    (k_law_power : PySem.W.keepIn K (.ref f_law_power) = true)
    (a_law_is_amount : PySem.W.nsIn K mainGlobals "_law_is_amount" = some (some (.ref f_law_is_amount)))
    (l_law_is_amount : K.lookup f_law_is_amount = some ⟨oc_law_is_amount, od_law_is_amount, .func (PySem.W.fnOf "_law_is_amount" "_law_is_amount" (defArgs st_law_is_amount) (defBody st_law_is_amount) (defScope st_law_is_amount) .none kV_law_is_amount dc_law_is_amount pm_law_is_amount an_law_is_amount cd_law_is_amount ct_law_is_amount), sl_law_is_amount⟩)
    (c_law_is_amount : PySem.W.codeIn K cd_law_is_amount "_law_is_amount" = true)
    (k_law_is_amount : PySem.W.keepIn K (.ref f_law_is_amount) = true)
    (a_law_some_number : PySem.W.nsIn K mainGlobals "_law_some_number" = some (some (.ref f_law_some_number)))
    (l_law_some_number : K.lookup f_law_some_number = some ⟨oc_law_some_number, od_law_some_number, .func (PySem.W.fnOf "_law_some_number" "_law_some_number" (defArgs st_law_some_number) (defBody st_law_some_number) (defScope st_law_some_number) .none kV_law_some_number dc_law_some_number pm_law_some_number an_law_some_number cd_law_some_number ct_law_some_number), sl_law_some_number⟩)
    (c_law_some_number : PySem.W.codeIn K cd_law_some_number "_law_some_number" = true)
    (k_law_some_number : PySem.W.keepIn K (.ref f_law_some_number) = true)
    (a_law_sums_right : PySem.W.nsIn K mainGlobals "_law_sums_right" = some (some (.ref f_law_sums_right)))
    (l_law_sums_right : K.lookup f_law_sums_right = some ⟨oc_law_sums_right, od_law_sums_right, .func (PySem.W.fnOf "_law_sums_right" "_law_sums_right" (defArgs st_law_sums_right) (defBody st_law_sums_right) (defScope st_law_sums_right) .none kV_law_sums_right dc_law_sums_right pm_law_sums_right an_law_sums_right (.ref c1) ct_law_sums_right), sl_law_sums_right⟩)
    (c_law_sums_right : PySem.W.codeIn K (.ref c1) "_law_sums_right" = true)
    (k_law_sums_right : PySem.W.keepIn K (.ref f_law_sums_right) = true)
    (r_law_sums_right : K.lookup c1 = some ⟨orr_law_sums_right, odr_law_sums_right, .fields vsr_law_sums_right, slr_law_sums_right⟩)
    (v_law_sums_right : (vsr_law_sums_right[11]? : Option Value) = some (.ref P1))
    (h_law_sums_right : PySem.W.codeHdIn K c1 P1 = true)
    (n_law_sums_right : K.lookup P1 = none)
    (e_law_sums_right : h.get? P1 = some (PySem.W.tabObj #[]))
    (a_law_products_right : PySem.W.nsIn K mainGlobals "_law_products_right" = some (some (.ref f_law_products_right)))
    (l_law_products_right : K.lookup f_law_products_right = some ⟨oc_law_products_right, od_law_products_right, .func (PySem.W.fnOf "_law_products_right" "_law_products_right" (defArgs st_law_products_right) (defBody st_law_products_right) (defScope st_law_products_right) .none kV_law_products_right dc_law_products_right pm_law_products_right an_law_products_right (.ref c2) ct_law_products_right), sl_law_products_right⟩)
    (c_law_products_right : PySem.W.codeIn K (.ref c2) "_law_products_right" = true)
    (k_law_products_right : PySem.W.keepIn K (.ref f_law_products_right) = true)
    (r_law_products_right : K.lookup c2 = some ⟨orr_law_products_right, odr_law_products_right, .fields vsr_law_products_right, slr_law_products_right⟩)
    (v_law_products_right : (vsr_law_products_right[11]? : Option Value) = some (.ref P2))
    (h_law_products_right : PySem.W.codeHdIn K c2 P2 = true)
    (n_law_products_right : K.lookup P2 = none)
    (e_law_products_right : h.get? P2 = some (PySem.W.tabObj #[]))
    (alaw : PySem.W.nsIn K mainGlobals "law" = some (some (.ref flaw)))
    (llaw : K.lookup flaw = some ⟨oclaw, odlaw, .func (PySem.W.fnOf "law" "law" (defArgs stlaw) (defBody stlaw) (defScope stlaw) .none kVlaw dclaw pmlaw anlaw (.ref c3) ctlaw), sllaw⟩)
    (claw : PySem.W.codeIn K (.ref c3) "law" = true)
    (klaw : PySem.W.keepIn K (.ref flaw) = true)
    (rlaw : K.lookup c3 = some ⟨orrlaw, odrlaw, .fields vsrlaw, slrlaw⟩)
    (vlaw : (vsrlaw[11]? : Option Value) = some (.ref P3))
    (hlaw : PySem.W.codeHdIn K c3 P3 = true)
    (nlaw : K.lookup P3 = none)
    (elaw : h.get? P3 = some (PySem.W.tabObj #[]))
    (aE : PySem.W.nsIn K mainGlobals "_law_error" = some (some (.ref f_law_error)))
    (l_law_error : K.lookup f_law_error = some ⟨oc_law_error, od_law_error, .func (PySem.W.fnOf "_law_error" "_law_error" (defArgs st_law_error) (defBody st_law_error) (defScope st_law_error) .none kV_law_error dc_law_error pm_law_error an_law_error cd_law_error ct_law_error), sl_law_error⟩)
    (c_law_error : PySem.W.codeIn K cd_law_error "_law_error" = true)
    (k_law_error : PySem.W.keepIn K (.ref f_law_error) = true)
    (ABadNumber : PySem.W.nsIn K mainGlobals "BadNumber" = some (some (.ref CBadNumber)))
    (RBadNumber : K.lookup CBadNumber = some (excClassObj nmBadNumber qnBadNumber CBadNumber NBadNumber bsBadNumber bmBadNumber true snBadNumber subBadNumber abBadNumber colBadNumber ddBadNumber m0BadNumber m1BadNumber m2BadNumber m3BadNumber m5BadNumber "ValueError.__new__"))
    (MBadNumber : PySem.HandSPX.refsVE bmBadNumber = true)
    (BBadNumber : errB K CBadNumber ["what", "number"] = true)
    (aIBadNumber : PySem.W.findIn K (.ref CBadNumber) "__init__" = some (some (.ref fIBadNumber)))
    (lIBadNumber : K.lookup fIBadNumber = some ⟨ocIBadNumber, odIBadNumber, .func (PySem.W.fnOf "__init__" "BadNumber.__init__" (defArgs si_BadNumber) (defBody si_BadNumber) (defScope si_BadNumber) .none kVIBadNumber dcIBadNumber pmIBadNumber anIBadNumber cdIBadNumber ctIBadNumber), slIBadNumber⟩)
    (cIBadNumber : PySem.W.codeIn K cdIBadNumber "BadNumber.__init__" = true)
    (kIBadNumber : PySem.W.keepIn K (.ref fIBadNumber) = true)
    (tIBadNumber : PySem.W.typeIn K (.ref fIBadNumber) = some (.type "function"))
    (AUnlike : PySem.W.nsIn K mainGlobals "Unlike" = some (some (.ref CUnlike)))
    (RUnlike : K.lookup CUnlike = some (excClassObj nmUnlike qnUnlike CUnlike NUnlike bsUnlike bmUnlike true snUnlike subUnlike abUnlike colUnlike ddUnlike m0Unlike m1Unlike m2Unlike m3Unlike m5Unlike "ValueError.__new__"))
    (MUnlike : PySem.HandSPX.refsVE bmUnlike = true)
    (BUnlike : errB K CUnlike ["place", "one", "other"] = true)
    (aIUnlike : PySem.W.findIn K (.ref CUnlike) "__init__" = some (some (.ref fIUnlike)))
    (lIUnlike : K.lookup fIUnlike = some ⟨ocIUnlike, odIUnlike, .func (PySem.W.fnOf "__init__" "Unlike.__init__" (defArgs si_Unlike) (defBody si_Unlike) (defScope si_Unlike) .none kVIUnlike dcIUnlike pmIUnlike anIUnlike cdIUnlike ctIUnlike), slIUnlike⟩)
    (cIUnlike : PySem.W.codeIn K cdIUnlike "Unlike.__init__" = true)
    (kIUnlike : PySem.W.keepIn K (.ref fIUnlike) = true)
    (tIUnlike : PySem.W.typeIn K (.ref fIUnlike) = some (.type "function"))
    (AByZero : PySem.W.nsIn K mainGlobals "ByZero" = some (some (.ref CByZero)))
    (RByZero : K.lookup CByZero = some (excClassObj nmByZero qnByZero CByZero NByZero bsByZero bmByZero true snByZero subByZero abByZero colByZero ddByZero m0ByZero m1ByZero m2ByZero m3ByZero m5ByZero "ValueError.__new__"))
    (MByZero : PySem.HandSPX.refsVE bmByZero = true)
    (BByZero : errB K CByZero ["place"] = true)
    (aIByZero : PySem.W.findIn K (.ref CByZero) "__init__" = some (some (.ref fIByZero)))
    (lIByZero : K.lookup fIByZero = some ⟨ocIByZero, odIByZero, .func (PySem.W.fnOf "__init__" "ByZero.__init__" (defArgs si_ByZero) (defBody si_ByZero) (defScope si_ByZero) .none kVIByZero dcIByZero pmIByZero anIByZero cdIByZero ctIByZero), slIByZero⟩)
    (cIByZero : PySem.W.codeIn K cdIByZero "ByZero.__init__" = true)
    (kIByZero : PySem.W.keepIn K (.ref fIByZero) = true)
    (tIByZero : PySem.W.typeIn K (.ref fIByZero) = some (.type "function"))
    (ABadText : PySem.W.nsIn K mainGlobals "BadText" = some (some (.ref CBadText)))
    (RBadText : K.lookup CBadText = some (excClassObj nmBadText qnBadText CBadText NBadText bsBadText bmBadText true snBadText subBadText abBadText colBadText ddBadText m0BadText m1BadText m2BadText m3BadText m5BadText "ValueError.__new__"))
    (MBadText : PySem.HandSPX.refsVE bmBadText = true)
    (BBadText : errB K CBadText ["line", "column"] = true)
    (ANoUnit : PySem.W.nsIn K mainGlobals "NoUnit" = some (some (.ref CNoUnit)))
    (RNoUnit : K.lookup CNoUnit = some (excClassObj nmNoUnit qnNoUnit CNoUnit NNoUnit bsNoUnit bmNoUnit true snNoUnit subNoUnit abNoUnit colNoUnit ddNoUnit m0NoUnit m1NoUnit m2NoUnit m3NoUnit m5NoUnit "ValueError.__new__"))
    (MNoUnit : PySem.HandSPX.refsVE bmNoUnit = true)
    (BNoUnit : errB K CNoUnit ["name"] = true)
    (x1 : PySem.W.exmOne K (.ref CBadNumber) (.ref CBadText) = some false)
    (x2 : PySem.W.exmOne K (.ref CBadNumber) (.ref CBadNumber) = some true)
    (x3 : PySem.W.exmOne K (.ref CUnlike) (.ref CBadText) = some false)
    (x4 : PySem.W.exmOne K (.ref CUnlike) (.ref CBadNumber) = some false)
    (x5 : PySem.W.exmOne K (.ref CUnlike) (.ref CNoUnit) = some false)
    (x6 : PySem.W.exmOne K (.ref CUnlike) (.ref CUnlike) = some true)
    (x7 : PySem.W.exmOne K (.ref CByZero) (.ref CBadText) = some false)
    (x8 : PySem.W.exmOne K (.ref CByZero) (.ref CBadNumber) = some false)
    (x9 : PySem.W.exmOne K (.ref CByZero) (.ref CNoUnit) = some false)
    (x10 : PySem.W.exmOne K (.ref CByZero) (.ref CUnlike) = some false)
    (x11 : PySem.W.exmOne K (.ref CByZero) (.ref CByZero) = some true)
    (GG : PySem.W.nsIn K mainGlobals "gcd" = some (some (.builtin "math.gcd")))
    (pg : PySem.W.plainGet K CAmount Str.empty = true)
    (hd : PySem.W.hasDictIn K CAmount = true)
    (po : PySem.W.plainOver K CAmount = true)
    (sa : PySem.W.findIn K (.ref CAmount) "__setattr__" = some (some (.builtin "object.__setattr__")))
    (mk : PySem.W.makesIn K CAmount = true)
    (kc : PySem.W.keepIn K (.ref CAmount) = true)
    (nE : PySem.W.findIn K (.ref CAmount) "exponents" = some none)
    (nN : PySem.W.findIn K (.ref CAmount) "number" = some none)
    (sf : PySem.W.selfFirst K CAmount = true)
    (f1 : PySem.W.notFirst K CAmount (.type "tuple") = true)
    (f2 : PySem.W.notFirst K CAmount (.type "int") = true)
    (f3 : PySem.W.notFirst K CAmount (.ref CAmount) = true)
    (q1 : PySem.W.findIn K (.ref CAmount) "__class__" = some (some (.builtin "object.__class__")))
    (q2 : PySem.W.specialIn K (.builtin "object.__class__") "__get__" = some (some (.builtin "getset_descriptor.__get__")))
    (q3 : PySem.W.takesIn K (.builtin "object.__class__") = some true)
    (q4 : PySem.W.mroIn K CAmount (.type "object") = some true)
    (z1 : PySem.W.kitOne K (.ref CAmount) (.ref CAmount) = some true)
    (z2 : PySem.W.kitOne K (.type "tuple") (.ref CAmount) = some false)
    (z3 : PySem.W.kitOne K (.type "int") (.ref CAmount) = some false)
    (d12 : P1 ≠ P2)
    (d13 : P1 ≠ P3)
    (d23 : P2 ≠ P3)
    (BT0 : bltB K = true) :
    ∃ (fd : FuncData) (cs : List (Addr × Addr)), (∀ p ∈ cs, h.get? p.2 = some (PySem.W.tabObj #[])) ∧ (∀ p ∈ cs, K.lookup p.2 = none) ∧ (∀ p ∈ cs, PySem.W.CodeHd h p.1 p.2) ∧ (∀ (s : Shared) (v : Value), BindsTo s fd ⟨[v], []⟩ [("_law_script", v)]) ∧ ∀ base : Heap, K.In base → base.Ns mainGlobals mg → (∀ p ∈ cs, TabB base mg p.1 p.2) → FnG l.prog w K mg base CX0 39 fa fd ["_law_script"] (spLawC K cs) := by
  have e := hfa.symm.trans (PySem.W.mg_of X G alaw)
  cases e
  have F_law_pen := fun_mk (st := st_law_pen) l_law_pen c_law_pen k_law_pen
  have D_law_pen : DefAt K mg "_law_pen" st_law_pen ["_law_script"] f_law_pen _ := ⟨F_law_pen, PySem.W.mg_of X G a_law_pen, F_law_pen.binds (ps := ["_law_script"]) fun _ _ _ _ _ _ us hl => match us, hl with | [_], _ => rfl⟩
  have F_law_draw := fun_mk (st := st_law_draw) l_law_draw c_law_draw k_law_draw
  have D_law_draw : DefAt K mg "_law_draw" st_law_draw ["_law_pen_here", "_law_many"] f_law_draw _ := ⟨F_law_draw, PySem.W.mg_of X G a_law_draw, F_law_draw.binds (ps := ["_law_pen_here", "_law_many"]) fun _ _ _ _ _ _ us hl => match us, hl with | [_, _], _ => rfl⟩
  have F_law_pick := fun_mk (st := st_law_pick) l_law_pick c_law_pick k_law_pick
  have D_law_pick : DefAt K mg "_law_pick" st_law_pick ["_law_pen_here", "_law_some"] f_law_pick _ := ⟨F_law_pick, PySem.W.mg_of X G a_law_pick, F_law_pick.binds (ps := ["_law_pen_here", "_law_some"]) fun _ _ _ _ _ _ us hl => match us, hl with | [_, _], _ => rfl⟩
  have F_law_big := fun_mk (st := st_law_big) l_law_big c_law_big k_law_big
  have D_law_big : DefAt K mg "_law_big" st_law_big ["_law_pen_here", "_law_figures"] f_law_big _ := ⟨F_law_big, PySem.W.mg_of X G a_law_big, F_law_big.binds (ps := ["_law_pen_here", "_law_figures"]) fun _ _ _ _ _ _ us hl => match us, hl with | [_, _], _ => rfl⟩
  have Fis_whole := fun_mk (st := stis_whole) lis_whole cis_whole kis_whole
  have Dis_whole : DefAt K mg "is_whole" stis_whole ["value"] fis_whole _ := ⟨Fis_whole, PySem.W.mg_of X G ais_whole, Fis_whole.binds (ps := ["value"]) fun _ _ _ _ _ _ us hl => match us, hl with | [_], _ => rfl⟩
  have Fare_integers := fun_mk (st := stare_integers) lare_integers care_integers kare_integers
  have Dare_integers : DefAt K mg "are_integers" stare_integers ["items"] fare_integers _ := ⟨Fare_integers, PySem.W.mg_of X G aare_integers, Fare_integers.binds (ps := ["items"]) fun _ _ _ _ _ _ us hl => match us, hl with | [_], _ => rfl⟩
  have Fis_ratio := fun_mk (st := stis_ratio) lis_ratio cis_ratio kis_ratio
  have Dis_ratio : DefAt K mg "is_ratio" stis_ratio ["value"] fis_ratio _ := ⟨Fis_ratio, PySem.W.mg_of X G ais_ratio, Fis_ratio.binds (ps := ["value"]) fun _ _ _ _ _ _ us hl => match us, hl with | [_], _ => rfl⟩
  have Flowest := fun_mk (st := stlowest) llowest clowest klowest
  have Dlowest : DefAt K mg "lowest" stlowest ["top", "bottom"] flowest _ := ⟨Flowest, PySem.W.mg_of X G alowest, Flowest.binds (ps := ["top", "bottom"]) fun _ _ _ _ _ _ us hl => match us, hl with | [_, _], _ => rfl⟩
  have Fas_ratio := fun_mk (st := stas_ratio) las_ratio cas_ratio kas_ratio
  have Das_ratio : DefAt K mg "as_ratio" stas_ratio ["value"] fas_ratio _ := ⟨Fas_ratio, PySem.W.mg_of X G aas_ratio, Fas_ratio.binds (ps := ["value"]) fun _ _ _ _ _ _ us hl => match us, hl with | [_], _ => rfl⟩
  have Fratio_sum := fun_mk (st := stratio_sum) lratio_sum cratio_sum kratio_sum
  have Dratio_sum : DefAt K mg "ratio_sum" stratio_sum ["one", "other"] fratio_sum _ := ⟨Fratio_sum, PySem.W.mg_of X G aratio_sum, Fratio_sum.binds (ps := ["one", "other"]) fun _ _ _ _ _ _ us hl => match us, hl with | [_, _], _ => rfl⟩
  have Fratio_product := fun_mk (st := stratio_product) lratio_product cratio_product kratio_product
  have Dratio_product : DefAt K mg "ratio_product" stratio_product ["one", "other"] fratio_product _ := ⟨Fratio_product, PySem.W.mg_of X G aratio_product, Fratio_product.binds (ps := ["one", "other"]) fun _ _ _ _ _ _ us hl => match us, hl with | [_, _], _ => rfl⟩
  have Fratio_minus := fun_mk (st := stratio_minus) lratio_minus cratio_minus kratio_minus
  have Dratio_minus : DefAt K mg "ratio_minus" stratio_minus ["one", "other"] fratio_minus _ := ⟨Fratio_minus, PySem.W.mg_of X G aratio_minus, Fratio_minus.binds (ps := ["one", "other"]) fun _ _ _ _ _ _ us hl => match us, hl with | [_, _], _ => rfl⟩
  have Fratio_over := fun_mk (st := stratio_over) lratio_over cratio_over kratio_over
  have Dratio_over : DefAt K mg "ratio_over" stratio_over ["one", "other"] fratio_over _ := ⟨Fratio_over, PySem.W.mg_of X G aratio_over, Fratio_over.binds (ps := ["one", "other"]) fun _ _ _ _ _ _ us hl => match us, hl with | [_, _], _ => rfl⟩
  have Fwhole_power := fun_mk (st := stwhole_power) lwhole_power cwhole_power kwhole_power
  have Dwhole_power : DefAt K mg "whole_power" stwhole_power ["base", "n"] fwhole_power _ := ⟨Fwhole_power, PySem.W.mg_of X G awhole_power, Fwhole_power.binds (ps := ["base", "n"]) fun _ _ _ _ _ _ us hl => match us, hl with | [_, _], _ => rfl⟩
  have Fratio_power := fun_mk (st := stratio_power) lratio_power cratio_power kratio_power
  have Dratio_power : DefAt K mg "ratio_power" stratio_power ["ratio", "n"] fratio_power _ := ⟨Fratio_power, PySem.W.mg_of X G aratio_power, Fratio_power.binds (ps := ["ratio", "n"]) fun _ _ _ _ _ _ us hl => match us, hl with | [_, _], _ => rfl⟩
  have Fcheck_like := fun_mk (st := stcheck_like) lcheck_like ccheck_like kcheck_like
  have Dcheck_like : DefAt K mg "check_like" stcheck_like ["one", "other"] fcheck_like _ := ⟨Fcheck_like, PySem.W.mg_of X G acheck_like, Fcheck_like.binds (ps := ["one", "other"]) fun _ _ _ _ _ _ us hl => match us, hl with | [_, _], _ => rfl⟩
  have FA_init := fun_mk (st := stA_init) lA_init cA_init kA_init
  have DA_init : IniA K "__init__" "Amount.__init__" stA_init ["self", "exponents", "number"] CAmount fA_init _ := ⟨FA_init, FA_init.binds (ps := ["self", "exponents", "number"]) fun _ _ _ _ _ _ us hl => match us, hl with | [_, _, _], _ => rfl, ⟨mk, aA_init, iA_init, kc⟩⟩
  have FA_add := fun_mk (st := stA_add) lA_add cA_add kA_add
  have DA_add : MetA K "__add__" "Amount.__add__" stA_add ["self", "other"] CAmount fA_add _ := ⟨FA_add, FA_add.binds (ps := ["self", "other"]) fun _ _ _ _ _ _ us hl => match us, hl with | [_, _], _ => rfl, ⟨aA_add, iA_add, kA_add⟩⟩
  have FA_sub := fun_mk (st := stA_sub) lA_sub cA_sub kA_sub
  have DA_sub : MetA K "__sub__" "Amount.__sub__" stA_sub ["self", "other"] CAmount fA_sub _ := ⟨FA_sub, FA_sub.binds (ps := ["self", "other"]) fun _ _ _ _ _ _ us hl => match us, hl with | [_, _], _ => rfl, ⟨aA_sub, iA_sub, kA_sub⟩⟩
  have FA_less := fun_mk (st := stA_less) lA_less cA_less kA_less
  have DA_less : MetA K "less" "Amount.less" stA_less ["self", "other"] CAmount fA_less _ := ⟨FA_less, FA_less.binds (ps := ["self", "other"]) fun _ _ _ _ _ _ us hl => match us, hl with | [_, _], _ => rfl, ⟨aA_less, iA_less, kA_less⟩⟩
  have FA_neg := fun_mk (st := stA_neg) lA_neg cA_neg kA_neg
  have DA_neg : MetA K "__neg__" "Amount.__neg__" stA_neg ["self"] CAmount fA_neg _ := ⟨FA_neg, FA_neg.binds (ps := ["self"]) fun _ _ _ _ _ _ us hl => match us, hl with | [_], _ => rfl, ⟨aA_neg, iA_neg, kA_neg⟩⟩
  have FA_eq := fun_mk (st := stA_eq) lA_eq cA_eq kA_eq
  have DA_eq : MetA K "__eq__" "Amount.__eq__" stA_eq ["self", "other"] CAmount fA_eq _ := ⟨FA_eq, FA_eq.binds (ps := ["self", "other"]) fun _ _ _ _ _ _ us hl => match us, hl with | [_, _], _ => rfl, ⟨aA_eq, iA_eq, kA_eq⟩⟩
  have FA_mul := fun_mk (st := stA_mul) lA_mul cA_mul kA_mul
  have DA_mul : MetA K "__mul__" "Amount.__mul__" stA_mul ["self", "other"] CAmount fA_mul _ := ⟨FA_mul, FA_mul.binds (ps := ["self", "other"]) fun _ _ _ _ _ _ us hl => match us, hl with | [_, _], _ => rfl, ⟨aA_mul, iA_mul, kA_mul⟩⟩
  have FA_over := fun_mk (st := stA_over) lA_over cA_over kA_over
  have DA_over : MetA K "over" "Amount.over" stA_over ["self", "other"] CAmount fA_over _ := ⟨FA_over, FA_over.binds (ps := ["self", "other"]) fun _ _ _ _ _ _ us hl => match us, hl with | [_, _], _ => rfl, ⟨aA_over, iA_over, kA_over⟩⟩
  have FA_power := fun_mk (st := stA_power) lA_power cA_power kA_power
  have DA_power : MetA K "power" "Amount.power" stA_power ["self", "n"] CAmount fA_power _ := ⟨FA_power, FA_power.binds (ps := ["self", "n"]) fun _ _ _ _ _ _ us hl => match us, hl with | [_, _], _ => rfl, ⟨aA_power, iA_power, kA_power⟩⟩
  have F_law_gcd := fun_mk (st := st_law_gcd) l_law_gcd c_law_gcd k_law_gcd
  have D_law_gcd : DefAt K mg "_law_gcd" st_law_gcd ["_law_one", "_law_two"] f_law_gcd _ := ⟨F_law_gcd, PySem.W.mg_of X G a_law_gcd, F_law_gcd.binds (ps := ["_law_one", "_law_two"]) fun _ _ _ _ _ _ us hl => match us, hl with | [_, _], _ => rfl⟩
  have F_law_q := fun_mk (st := st_law_q) l_law_q c_law_q k_law_q
  have D_law_q : DefAt K mg "_law_q" st_law_q ["_law_top", "_law_bottom"] f_law_q _ := ⟨F_law_q, PySem.W.mg_of X G a_law_q, F_law_q.binds (ps := ["_law_top", "_law_bottom"]) fun _ _ _ _ _ _ us hl => match us, hl with | [_, _], _ => rfl⟩
  have F_law_plus := fun_mk (st := st_law_plus) l_law_plus c_law_plus k_law_plus
  have D_law_plus : DefAt K mg "_law_plus" st_law_plus ["_law_one", "_law_two"] f_law_plus _ := ⟨F_law_plus, PySem.W.mg_of X G a_law_plus, F_law_plus.binds (ps := ["_law_one", "_law_two"]) fun _ _ _ _ _ _ us hl => match us, hl with | [_, _], _ => rfl⟩
  have F_law_minus := fun_mk (st := st_law_minus) l_law_minus c_law_minus k_law_minus
  have D_law_minus : DefAt K mg "_law_minus" st_law_minus ["_law_one", "_law_two"] f_law_minus _ := ⟨F_law_minus, PySem.W.mg_of X G a_law_minus, F_law_minus.binds (ps := ["_law_one", "_law_two"]) fun _ _ _ _ _ _ us hl => match us, hl with | [_, _], _ => rfl⟩
  have F_law_times := fun_mk (st := st_law_times) l_law_times c_law_times k_law_times
  have D_law_times : DefAt K mg "_law_times" st_law_times ["_law_one", "_law_two"] f_law_times _ := ⟨F_law_times, PySem.W.mg_of X G a_law_times, F_law_times.binds (ps := ["_law_one", "_law_two"]) fun _ _ _ _ _ _ us hl => match us, hl with | [_, _], _ => rfl⟩
  have F_law_over := fun_mk (st := st_law_over) l_law_over c_law_over k_law_over
  have D_law_over : DefAt K mg "_law_over" st_law_over ["_law_one", "_law_two"] f_law_over _ := ⟨F_law_over, PySem.W.mg_of X G a_law_over, F_law_over.binds (ps := ["_law_one", "_law_two"]) fun _ _ _ _ _ _ us hl => match us, hl with | [_, _], _ => rfl⟩
  have F_law_less := fun_mk (st := st_law_less) l_law_less c_law_less k_law_less
  have D_law_less : DefAt K mg "_law_less" st_law_less ["_law_one", "_law_two"] f_law_less _ := ⟨F_law_less, PySem.W.mg_of X G a_law_less, F_law_less.binds (ps := ["_law_one", "_law_two"]) fun _ _ _ _ _ _ us hl => match us, hl with | [_, _], _ => rfl⟩
  have F_law_ratio := fun_mk (st := st_law_ratio) l_law_ratio c_law_ratio k_law_ratio
  have D_law_ratio : DefAt K mg "_law_ratio" st_law_ratio ["_law_pen_here", "_law_figures"] f_law_ratio _ := ⟨F_law_ratio, PySem.W.mg_of X G a_law_ratio, F_law_ratio.binds (ps := ["_law_pen_here", "_law_figures"]) fun _ _ _ _ _ _ us hl => match us, hl with | [_, _], _ => rfl⟩
  have F_law_passed := fun_mk (st := st_law_passed) l_law_passed c_law_passed k_law_passed
  have D_law_passed : DefAt K mg "_law_passed" st_law_passed ["_law_pen_here", "_law_ratio_here"] f_law_passed _ := ⟨F_law_passed, PySem.W.mg_of X G a_law_passed, F_law_passed.binds (ps := ["_law_pen_here", "_law_ratio_here"]) fun _ _ _ _ _ _ us hl => match us, hl with | [_, _], _ => rfl⟩
  have F_law_power := fun_mk (st := st_law_power) l_law_power c_law_power k_law_power
  have D_law_power : DefAt K mg "_law_power" st_law_power ["_law_one", "_law_n"] f_law_power _ := ⟨F_law_power, PySem.W.mg_of X G a_law_power, F_law_power.binds (ps := ["_law_one", "_law_n"]) fun _ _ _ _ _ _ us hl => match us, hl with | [_, _], _ => rfl⟩
  have F_law_is_amount := fun_mk (st := st_law_is_amount) l_law_is_amount c_law_is_amount k_law_is_amount
  have D_law_is_amount : DefAt K mg "_law_is_amount" st_law_is_amount ["_law_told", "_law_exponents", "_law_number"] f_law_is_amount _ := ⟨F_law_is_amount, PySem.W.mg_of X G a_law_is_amount, F_law_is_amount.binds (ps := ["_law_told", "_law_exponents", "_law_number"]) fun _ _ _ _ _ _ us hl => match us, hl with | [_, _, _], _ => rfl⟩
  have F_law_some_number := fun_mk (st := st_law_some_number) l_law_some_number c_law_some_number k_law_some_number
  have D_law_some_number : DefAt K mg "_law_some_number" st_law_some_number ["_law_pen_here"] f_law_some_number _ := ⟨F_law_some_number, PySem.W.mg_of X G a_law_some_number, F_law_some_number.binds (ps := ["_law_pen_here"]) fun _ _ _ _ _ _ us hl => match us, hl with | [_], _ => rfl⟩
  have D_law_sums_right : DefC K mg "_law_sums_right" st_law_sums_right ["_law_pen_here", "_law_one", "_law_two"] f_law_sums_right c1 _ := ⟨⟨_, _, _, _, _, _, _, _, rfl, l_law_sums_right, c_law_sums_right⟩, k_law_sums_right, PySem.W.mg_of X G a_law_sums_right, .all fun us hl => match us, hl with | [_, _, _], _ => rfl⟩
  have D_law_products_right : DefC K mg "_law_products_right" st_law_products_right ["_law_pen_here", "_law_one", "_law_two"] f_law_products_right c2 _ := ⟨⟨_, _, _, _, _, _, _, _, rfl, l_law_products_right, c_law_products_right⟩, k_law_products_right, PySem.W.mg_of X G a_law_products_right, .all fun us hl => match us, hl with | [_, _, _], _ => rfl⟩
  have Dlaw : DefC K mg "law" stlaw ["_law_script"] flaw c3 _ := ⟨⟨_, _, _, _, _, _, _, _, rfl, llaw, claw⟩, klaw, PySem.W.mg_of X G alaw, .all fun us hl => match us, hl with | [_], _ => rfl⟩
  have De : LamFn K mg "_law_error" st_law_error "_law_call" f_law_error cd_law_error := ⟨⟨_, _, _, _, _, _, _, _, l_law_error, .all fun us hl => match us, hl with | [_], _ => rfl⟩, c_law_error, k_law_error, PySem.W.mg_of X G aE⟩
  have EBadNumber := errT_of RBadNumber MBadNumber (PySem.W.mg_of X G ABadNumber) BBadNumber
  have FIBadNumber := fun_mk (st := si_BadNumber) lIBadNumber cIBadNumber kIBadNumber
  have IBadNumber : IniT K "BadNumber.__init__" si_BadNumber ["self", "what", "number"] CBadNumber fIBadNumber _ := ⟨FIBadNumber, FIBadNumber.binds (ps := ["self", "what", "number"]) fun _ _ _ _ _ _ us hl => match us, hl with | [_, _, _], _ => rfl, aIBadNumber, tIBadNumber⟩
  have EUnlike := errT_of RUnlike MUnlike (PySem.W.mg_of X G AUnlike) BUnlike
  have FIUnlike := fun_mk (st := si_Unlike) lIUnlike cIUnlike kIUnlike
  have IUnlike : IniT K "Unlike.__init__" si_Unlike ["self", "place", "one", "other"] CUnlike fIUnlike _ := ⟨FIUnlike, FIUnlike.binds (ps := ["self", "place", "one", "other"]) fun _ _ _ _ _ _ us hl => match us, hl with | [_, _, _, _], _ => rfl, aIUnlike, tIUnlike⟩
  have EByZero := errT_of RByZero MByZero (PySem.W.mg_of X G AByZero) BByZero
  have FIByZero := fun_mk (st := si_ByZero) lIByZero cIByZero kIByZero
  have IByZero : IniT K "ByZero.__init__" si_ByZero ["self", "place"] CByZero fIByZero _ := ⟨FIByZero, FIByZero.binds (ps := ["self", "place"]) fun _ _ _ _ _ _ us hl => match us, hl with | [_, _], _ => rfl, aIByZero, tIByZero⟩
  have EBadText := errT_of RBadText MBadText (PySem.W.mg_of X G ABadText) BBadText
  have ENoUnit := errT_of RNoUnit MNoUnit (PySem.W.mg_of X G ANoUnit) BNoUnit
  have Es : ErA K mg CBadText CBadNumber CUnlike CNoUnit CByZero CAmount fIBadNumber fIUnlike fIByZero _ _ _ := ⟨EBadNumber, IBadNumber, EUnlike, IUnlike, EByZero, IByZero, EBadText, ENoUnit, x1, x2, x3, x4, x5, x6, x7, x8, x9, x10, x11, PySem.W.mg_of X G GG, ⟨pg, hd, po, sa⟩, nE, nN, PySem.W.mg_of X G aCA, sf, f1, f2, f3, q1, q2, q3, q4, z1, z2, z3⟩
  refine ⟨_, [(c1, P1), (c2, P2), (c3, P3)], ?_, ?_, ?_, fun s v => .of_eq rfl, fun base _ _ tbs => oklaw (blt_of X G BT0) Es ⟨tbs (c1, P1) (by simp), tbs (c2, P2) (by simp), tbs (c3, P3) (by simp), d12, d13, d23⟩ De DA_eq Dis_whole Dare_integers Dlowest Das_ratio Dis_ratio DA_init Dwhole_power Dratio_power DA_power D_law_draw D_law_is_amount D_law_pen D_law_pick Dratio_product DA_mul DA_neg Dratio_over DA_over D_law_gcd D_law_q D_law_over D_law_passed D_law_power D_law_times D_law_products_right D_law_big D_law_ratio D_law_some_number Dcheck_like Dratio_sum DA_add DA_less Dratio_minus DA_sub D_law_less D_law_minus D_law_plus D_law_sums_right Dlaw⟩
  · intro p hp
    simp only [List.mem_cons, List.not_mem_nil, or_false] at hp
    rcases hp with rfl | rfl | rfl
    · exact e_law_sums_right
    · exact e_law_products_right
    · exact elaw
  · intro p hp
    simp only [List.mem_cons, List.not_mem_nil, or_false] at hp
    rcases hp with rfl | rfl | rfl
    · exact n_law_sums_right
    · exact n_law_products_right
    · exact nlaw
  · intro p hp
    simp only [List.mem_cons, List.not_mem_nil, or_false] at hp
    rcases hp with rfl | rfl | rfl
    · exact PySem.W.codeHd_of_K X h_law_sums_right
    · exact PySem.W.codeHd_of_K X h_law_products_right
    · exact PySem.W.codeHd_of_K X hlaw
end AL
open PySem PySem.W PyProof.Rows
set_option maxRecDepth 100000 in
set_option maxHeartbeats 0 in
theorem PySem.Challenge.cw_allscales_k20_whole_amounts_holds : PySem.Challenge.rw_allscales_k20_whole_amounts.Holds := by
  w_on; o_law; k_head; (case hw => w_witness2)
  k_fill
  refine AL.walkGT (l := PySem.Challenge.rw_allscales_k20_whole_amounts) (n := 63) (k := 39) (x := "_law_script") (sp := AL.spLawC) rfl (by decide) rfl ⟨rfl, by decide, by decide⟩ (fun w h Y => PySem.W.km_in_of Y) ?F (fun K cs H a ns _ ht hS => ⟨a, ns, rfl, hS, ht, fun _ => rfl⟩)
  case F =>
    intro w mg fa h Y KX G hmg
    have tabs := PySem.W.km_tabs_of Y
    refine' AL.all_mk KX G hmg ?aCA ?a_law_pen ?l_law_pen ?c_law_pen ?k_law_pen ?a_law_draw ?l_law_draw ?c_law_draw ?k_law_draw ?a_law_pick ?l_law_pick ?c_law_pick ?k_law_pick ?a_law_big ?l_law_big ?c_law_big ?k_law_big ?ais_whole ?lis_whole ?cis_whole ?kis_whole ?aare_integers ?lare_integers ?care_integers ?kare_integers ?ais_ratio ?lis_ratio ?cis_ratio ?kis_ratio ?alowest ?llowest ?clowest ?klowest ?aas_ratio ?las_ratio ?cas_ratio ?kas_ratio ?aratio_sum ?lratio_sum ?cratio_sum ?kratio_sum ?aratio_product ?lratio_product ?cratio_product ?kratio_product ?aratio_minus ?lratio_minus ?cratio_minus ?kratio_minus ?aratio_over ?lratio_over ?cratio_over ?kratio_over ?awhole_power ?lwhole_power ?cwhole_power ?kwhole_power ?aratio_power ?lratio_power ?cratio_power ?kratio_power ?acheck_like ?lcheck_like ?ccheck_like ?kcheck_like ?aA_init ?iA_init ?lA_init ?cA_init ?kA_init ?aA_add ?iA_add ?lA_add ?cA_add ?kA_add ?aA_sub ?iA_sub ?lA_sub ?cA_sub ?kA_sub ?aA_less ?iA_less ?lA_less ?cA_less ?kA_less ?aA_neg ?iA_neg ?lA_neg ?cA_neg ?kA_neg ?aA_eq ?iA_eq ?lA_eq ?cA_eq ?kA_eq ?aA_mul ?iA_mul ?lA_mul ?cA_mul ?kA_mul ?aA_over ?iA_over ?lA_over ?cA_over ?kA_over ?aA_power ?iA_power ?lA_power ?cA_power ?kA_power ?a_law_gcd ?l_law_gcd ?c_law_gcd ?k_law_gcd ?a_law_q ?l_law_q ?c_law_q ?k_law_q ?a_law_plus ?l_law_plus ?c_law_plus ?k_law_plus ?a_law_minus ?l_law_minus ?c_law_minus ?k_law_minus ?a_law_times ?l_law_times ?c_law_times ?k_law_times ?a_law_over ?l_law_over ?c_law_over ?k_law_over ?a_law_less ?l_law_less ?c_law_less ?k_law_less ?a_law_ratio ?l_law_ratio ?c_law_ratio ?k_law_ratio ?a_law_passed ?l_law_passed ?c_law_passed ?k_law_passed ?a_law_power ?l_law_power ?c_law_power ?k_law_power ?a_law_is_amount ?l_law_is_amount ?c_law_is_amount ?k_law_is_amount ?a_law_some_number ?l_law_some_number ?c_law_some_number ?k_law_some_number ?a_law_sums_right ?l_law_sums_right ?c_law_sums_right ?k_law_sums_right ?r_law_sums_right ?v_law_sums_right ?h_law_sums_right ?n_law_sums_right ?e_law_sums_right ?a_law_products_right ?l_law_products_right ?c_law_products_right ?k_law_products_right ?r_law_products_right ?v_law_products_right ?h_law_products_right ?n_law_products_right ?e_law_products_right ?alaw ?llaw ?claw ?klaw ?rlaw ?vlaw ?hlaw ?nlaw ?elaw ?aE ?l_law_error ?c_law_error ?k_law_error ?ABadNumber ?RBadNumber ?MBadNumber ?BBadNumber ?aIBadNumber ?lIBadNumber ?cIBadNumber ?kIBadNumber ?tIBadNumber ?AUnlike ?RUnlike ?MUnlike ?BUnlike ?aIUnlike ?lIUnlike ?cIUnlike ?kIUnlike ?tIUnlike ?AByZero ?RByZero ?MByZero ?BByZero ?aIByZero ?lIByZero ?cIByZero ?kIByZero ?tIByZero ?ABadText ?RBadText ?MBadText ?BBadText ?ANoUnit ?RNoUnit ?MNoUnit ?BNoUnit ?x1 ?x2 ?x3 ?x4 ?x5 ?x6 ?x7 ?x8 ?x9 ?x10 ?x11 ?GG ?pg ?hd ?po ?sa ?mk ?kc ?nE ?nN ?sf ?f1 ?f2 ?f3 ?q1 ?q2 ?q3 ?q4 ?z1 ?z2 ?z3 ?d12 ?d13 ?d23 ?BT0
    (case aCA => k_is)
    (case a_law_pen => k_is)
    (case l_law_pen => k_is)
    (case c_law_pen => k_is)
    (case k_law_pen => k_is)
    (case a_law_draw => k_is)
    (case l_law_draw => k_is)
    (case c_law_draw => k_is)
    (case k_law_draw => k_is)
    (case a_law_pick => k_is)
    (case l_law_pick => k_is)
    (case c_law_pick => k_is)
    (case k_law_pick => k_is)
    (case a_law_big => k_is)
    (case l_law_big => k_is)
    (case c_law_big => k_is)
    (case k_law_big => k_is)
    (case ais_whole => k_is)
    (case lis_whole => k_is)
    (case cis_whole => k_is)
    (case kis_whole => k_is)
    (case aare_integers => k_is)
    (case lare_integers => k_is)
    (case care_integers => k_is)
    (case kare_integers => k_is)
    (case ais_ratio => k_is)
    (case lis_ratio => k_is)
    (case cis_ratio => k_is)
    (case kis_ratio => k_is)
    (case alowest => k_is)
    (case llowest => k_is)
    (case clowest => k_is)
    (case klowest => k_is)
    (case aas_ratio => k_is)
    (case las_ratio => k_is)
    (case cas_ratio => k_is)
    (case kas_ratio => k_is)
    (case aratio_sum => k_is)
    (case lratio_sum => k_is)
    (case cratio_sum => k_is)
    (case kratio_sum => k_is)
    (case aratio_product => k_is)
    (case lratio_product => k_is)
    (case cratio_product => k_is)
    (case kratio_product => k_is)
    (case aratio_minus => k_is)
    (case lratio_minus => k_is)
    (case cratio_minus => k_is)
    (case kratio_minus => k_is)
    (case aratio_over => k_is)
    (case lratio_over => k_is)
    (case cratio_over => k_is)
    (case kratio_over => k_is)
    (case awhole_power => k_is)
    (case lwhole_power => k_is)
    (case cwhole_power => k_is)
    (case kwhole_power => k_is)
    (case aratio_power => k_is)
    (case lratio_power => k_is)
    (case cratio_power => k_is)
    (case kratio_power => k_is)
    (case acheck_like => k_is)
    (case lcheck_like => k_is)
    (case ccheck_like => k_is)
    (case kcheck_like => k_is)
    (case aA_init => k_is)
    (case iA_init => k_is)
    (case lA_init => k_is)
    (case cA_init => k_is)
    (case kA_init => k_is)
    (case aA_add => k_is)
    (case iA_add => k_is)
    (case lA_add => k_is)
    (case cA_add => k_is)
    (case kA_add => k_is)
    (case aA_sub => k_is)
    (case iA_sub => k_is)
    (case lA_sub => k_is)
    (case cA_sub => k_is)
    (case kA_sub => k_is)
    (case aA_less => k_is)
    (case iA_less => k_is)
    (case lA_less => k_is)
    (case cA_less => k_is)
    (case kA_less => k_is)
    (case aA_neg => k_is)
    (case iA_neg => k_is)
    (case lA_neg => k_is)
    (case cA_neg => k_is)
    (case kA_neg => k_is)
    (case aA_eq => k_is)
    (case iA_eq => k_is)
    (case lA_eq => k_is)
    (case cA_eq => k_is)
    (case kA_eq => k_is)
    (case aA_mul => k_is)
    (case iA_mul => k_is)
    (case lA_mul => k_is)
    (case cA_mul => k_is)
    (case kA_mul => k_is)
    (case aA_over => k_is)
    (case iA_over => k_is)
    (case lA_over => k_is)
    (case cA_over => k_is)
    (case kA_over => k_is)
    (case aA_power => k_is)
    (case iA_power => k_is)
    (case lA_power => k_is)
    (case cA_power => k_is)
    (case kA_power => k_is)
    (case a_law_gcd => k_is)
    (case l_law_gcd => k_is)
    (case c_law_gcd => k_is)
    (case k_law_gcd => k_is)
    (case a_law_q => k_is)
    (case l_law_q => k_is)
    (case c_law_q => k_is)
    (case k_law_q => k_is)
    (case a_law_plus => k_is)
    (case l_law_plus => k_is)
    (case c_law_plus => k_is)
    (case k_law_plus => k_is)
    (case a_law_minus => k_is)
    (case l_law_minus => k_is)
    (case c_law_minus => k_is)
    (case k_law_minus => k_is)
    (case a_law_times => k_is)
    (case l_law_times => k_is)
    (case c_law_times => k_is)
    (case k_law_times => k_is)
    (case a_law_over => k_is)
    (case l_law_over => k_is)
    (case c_law_over => k_is)
    (case k_law_over => k_is)
    (case a_law_less => k_is)
    (case l_law_less => k_is)
    (case c_law_less => k_is)
    (case k_law_less => k_is)
    (case a_law_ratio => k_is)
    (case l_law_ratio => k_is)
    (case c_law_ratio => k_is)
    (case k_law_ratio => k_is)
    (case a_law_passed => k_is)
    (case l_law_passed => k_is)
    (case c_law_passed => k_is)
    (case k_law_passed => k_is)
    (case a_law_power => k_is)
    (case l_law_power => k_is)
    (case c_law_power => k_is)
    (case k_law_power => k_is)
    (case a_law_is_amount => k_is)
    (case l_law_is_amount => k_is)
    (case c_law_is_amount => k_is)
    (case k_law_is_amount => k_is)
    (case a_law_some_number => k_is)
    (case l_law_some_number => k_is)
    (case c_law_some_number => k_is)
    (case k_law_some_number => k_is)
    (case a_law_sums_right => k_is)
    (case l_law_sums_right => k_is)
    (case c_law_sums_right => k_is)
    (case k_law_sums_right => k_is)
    (case r_law_sums_right => k_is)
    (case v_law_sums_right => rfl)
    (case h_law_sums_right => kernel_rfl)
    (case n_law_sums_right => rfl)
    (case e_law_sums_right => exact tabs _ (by k_mem))
    (case a_law_products_right => k_is)
    (case l_law_products_right => k_is)
    (case c_law_products_right => k_is)
    (case k_law_products_right => k_is)
    (case r_law_products_right => k_is)
    (case v_law_products_right => rfl)
    (case h_law_products_right => kernel_rfl)
    (case n_law_products_right => rfl)
    (case e_law_products_right => exact tabs _ (by k_mem))
    (case alaw => k_is)
    (case llaw => k_is)
    (case claw => k_is)
    (case klaw => k_is)
    (case rlaw => k_is)
    (case vlaw => rfl)
    (case hlaw => kernel_rfl)
    (case nlaw => rfl)
    (case elaw => exact tabs _ (by k_mem))
    (case aE => k_is)
    (case l_law_error => k_is)
    (case c_law_error => k_is)
    (case k_law_error => k_is)
    (case ABadNumber => k_is)
    (case RBadNumber => k_is)
    (case MBadNumber => decide +kernel)
    (case BBadNumber => kernel_rfl)
    (case aIBadNumber => k_is)
    (case lIBadNumber => k_is)
    (case cIBadNumber => k_is)
    (case kIBadNumber => k_is)
    (case tIBadNumber => k_is)
    (case AUnlike => k_is)
    (case RUnlike => k_is)
    (case MUnlike => decide +kernel)
    (case BUnlike => kernel_rfl)
    (case aIUnlike => k_is)
    (case lIUnlike => k_is)
    (case cIUnlike => k_is)
    (case kIUnlike => k_is)
    (case tIUnlike => k_is)
    (case AByZero => k_is)
    (case RByZero => k_is)
    (case MByZero => decide +kernel)
    (case BByZero => kernel_rfl)
    (case aIByZero => k_is)
    (case lIByZero => k_is)
    (case cIByZero => k_is)
    (case kIByZero => k_is)
    (case tIByZero => k_is)
    (case ABadText => k_is)
    (case RBadText => k_is)
    (case MBadText => decide +kernel)
    (case BBadText => kernel_rfl)
    (case ANoUnit => k_is)
    (case RNoUnit => k_is)
    (case MNoUnit => decide +kernel)
    (case BNoUnit => kernel_rfl)
    (case x1 => kernel_rfl)
    (case x2 => kernel_rfl)
    (case x3 => kernel_rfl)
    (case x4 => kernel_rfl)
    (case x5 => kernel_rfl)
    (case x6 => kernel_rfl)
    (case x7 => kernel_rfl)
    (case x8 => kernel_rfl)
    (case x9 => kernel_rfl)
    (case x10 => kernel_rfl)
    (case x11 => kernel_rfl)
    (case GG => k_is)
    (case pg => k_is)
    (case hd => k_is)
    (case po => k_is)
    (case sa => k_is)
    (case mk => k_is)
    (case kc => k_is)
    (case nE => k_is)
    (case nN => k_is)
    (case sf => kernel_rfl)
    (case f1 => kernel_rfl)
    (case f2 => kernel_rfl)
    (case f3 => kernel_rfl)
    (case q1 => k_is)
    (case q2 => k_is)
    (case q3 => k_is)
    (case q4 => k_is)
    (case z1 => kernel_rfl)
    (case z2 => kernel_rfl)
    (case z3 => kernel_rfl)
    (case d12 => decide)
    (case d13 => decide)
    (case d23 => decide)
    (case BT0 => kernel_rfl)
#print axioms PySem.Challenge.cw_allscales_k20_whole_amounts_holds
