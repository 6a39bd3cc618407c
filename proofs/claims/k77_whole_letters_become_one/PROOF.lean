import PyProof.Rows.All
import Wide.All
import OpenK.AllK
import Wide.FinOn
import HandS.ForMost
import HandS.IsInst
import HandS.ExcInit
import HandS.ExcValue
import HandS.ExcField
import HandS.ExcIs
import HandS.Evl
import HandS.ForExc
import HandS.TryMany
import HandS.Wide
import HandS.Gcd
import HandS.FStr
import HandS.WideBits
import PyProof.StrReplace2
import HandS.Codes
import HandS.StrMore
import PyProof.TupleOfStr
import HandS.Zip
import HandS.Lambda
import HandS.OwnEq
import KE.KEqDeep
import HandS.Walk
import HandS.DictTup
import HandS.TupLe
import HandS.Keys
import HandS.Conv
import KE.KDictPairs
import HandS.TupSets
import HandS.Flow
import HandS.TupMul
import KE.GoesMore
import KE.GoesZip
import KE.GoesEnum
import HandS.TupAny
import HandS.SetFor
import HandS.Strs
import HandS.DictComp
import PyProof.DictMoreH
import KE.KDictDisplayH
import HandS.EndTab
import KE.KEqDict
import KE.KDictKeyed
import PyProof.InstEq
import OpenK.KMake
import HandS.Style
import KE.KLam
import KE.KNestM
import PySem.Challenge.RW_allscales_k77_whole_letters_become_one
set_option Elab.async false
set_option maxRecDepth 100000
/-! The pen that the laws draw from: a dict with five entries over a copy of the script. -/
namespace AL
open PySem L2

/-- all but what stands at p stays -/
def Keep (p : Addr) (H H' : Hp) : Prop := ∀ b o, b ≠ p → H b = some o → H' b = some o
theorem Keep.refl (p : Addr) (H : Hp) : Keep p H H := fun _ _ _ h => h
theorem Keep.trans {p : Addr} {H H1 H2 : Hp} (a : Keep p H H1) (b : Keep p H1 H2) : Keep p H H2 := fun c o n h => b c o n (a c o n h)
theorem Keep.upd {p : Addr} {H : Hp} {o : HO} : Keep p H (upd H p o) := fun b u n e => by rw [upd_ne n]; exact e
theorem Keep.new {p q : Addr} {H : Hp} {o : HO} (h : H q = none) : Keep p H (L2.upd H q o) := fun b u _ e => by
  rw [upd_ne (ne_of_none e h)]; exact e

def penK (c : Addr) (i d n f : Int) : List (Key × V) :=
  [(.inr "cells", .ref c), (.inr "at", .int i), (.inr "digits", .int d), (.inr "count", .int n), (.inr "fold", .int f)]
section
variable {c : Addr} {i d n f x : Int}
theorem pen_cells : valV (penK c i d n f) (Sum.inr "cells" : Key) = some (.ref c) := by kernel_rfl
theorem pen_at : valV (penK c i d n f) (Sum.inr "at" : Key) = some (.int i) := by kernel_rfl
theorem pen_digits : valV (penK c i d n f) (Sum.inr "digits" : Key) = some (.int d) := by kernel_rfl
theorem pen_count : valV (penK c i d n f) (Sum.inr "count" : Key) = some (.int n) := by kernel_rfl
theorem pen_fold : valV (penK c i d n f) (Sum.inr "fold" : Key) = some (.int f) := by kernel_rfl
theorem put_at : putK (penK c i d n f) (Sum.inr "at" : Key) (.int x) = penK c x d n f := by kernel_rfl
theorem put_digits : putK (penK c i d n f) (Sum.inr "digits" : Key) (.int x) = penK c i x n f := by kernel_rfl
theorem put_count : putK (penK c i d n f) (Sum.inr "count" : Key) (.int x) = penK c i d x f := by kernel_rfl
theorem put_fold : putK (penK c i d n f) (Sum.inr "fold" : Key) (.int x) = penK c i d n x := by kernel_rfl
theorem pen_len : (penK c i d n f).length = 5 := rfl
end
/-- a pen stands at p, its cells at c; it has drawn at most m times -/
structure Pen (H : Hp) (p c : Addr) (m : Nat) : Prop where
  ex : ∃ (ns : List Int) (i d n f : Int), H p = some (.dK (penK c i d n f)) ∧ H c = some (.lst (ns.map V.int)) ∧ 0 ≤ i ∧ 0 ≤ d ∧ 0 ≤ n ∧ n ≤ (m : Int) ∧ 0 ≤ f ∧ f < 2147483648
theorem Pen.mono {H : Hp} {p c : Addr} {m m' : Nat} (h : Pen H p c m) (l : m ≤ m') : Pen H p c m' := by
  obtain ⟨ns, i, d, n, f, h1, h2, h3, h4, h5, h6, h7, h8⟩ := h.ex
  exact ⟨ns, i, d, n, f, h1, h2, h3, h4, h5, by omega, h7, h8⟩
theorem Pen.keep {H H' : Hp} {p c : Addr} {m : Nat} (h : Pen H p c m) (k1 : ∀ o, H p = some o → H' p = some o) (k2 : ∀ o, H c = some o → H' c = some o) : Pen H' p c m := by
  obtain ⟨ns, i, d, n, f, h1, h2, hr⟩ := h.ex
  exact ⟨ns, i, d, n, f, k1 _ h1, k2 _ h2, hr⟩
theorem Pen.same {H H' : Hp} {p c : Addr} {m : Nat} (h : Pen H p c m) (k : Same H H') : Pen H' p c m := h.keep (fun o e => k _ o e) fun o e => k _ o e
theorem Pen.dict {H : Hp} {p c : Addr} {m : Nat} (h : Pen H p c m) : ∃ kvs, H p = some (.dK kvs) := by
  obtain ⟨ns, i, d, n, f, h1, _⟩ := h.ex
  exact ⟨_, h1⟩
/-- what is no dict and stands, stays -/
theorem Keep.rd {p a : Addr} {H H' : Hp} {kvs : List (Key × V)} {u : HO} (k : Keep p H H') (hp : H p = some (.dK kvs)) (h : Rd H a u) (hu : ∀ l, u ≠ .dK l) : Rd H' a u := by
  rcases h with h | ⟨o, h⟩
  · exact .inl (k a _ (fun z => by rw [z, hp] at h; exact hu _ (Option.some.inj h).symm) h)
  · exact .inr ⟨o, k a _ (fun z => by rw [z, hp] at h; cases h) h⟩
theorem Keep.seqL {K : PySem.W.Frag} {p c a : Addr} {m : Nat} {H H' : Hp} {xs : List V} (k : Keep p H H') (hp : Pen H p c m) (h : SqL K H a xs) : SqL K H' a xs := by
  obtain ⟨kvs, hk⟩ := hp.dict
  rcases h with h | h
  · exact .inl (k.rd hk h (fun l z => by cases z))
  · exact .inr h
theorem Keep.seqT {K : PySem.W.Frag} {p c a : Addr} {m : Nat} {H H' : Hp} {xs : List V} (k : Keep p H H') (hp : Pen H p c m) (h : SqT K H a xs) : SqT K H' a xs := by
  obtain ⟨kvs, hk⟩ := hp.dict
  rcases h with h | h
  · exact .inl (k.rd hk h (fun l z => by cases z))
  · exact .inr h
theorem Keep.at {p c a : Addr} {m : Nat} {H H' : Hp} {o : HO} (k : Keep p H H') (hp : Pen H p c m) (h : H a = some o) (hu : ∀ l, o ≠ .dK l) : H' a = some o := by
  obtain ⟨kvs, hk⟩ := hp.dict
  exact k a _ (fun z => by rw [z, hk] at h; exact hu _ (Option.some.inj h).symm) h
theorem Keep.free {p c a : Addr} {m : Nat} {H H' : Hp} (k : Keep p H H') (hp : Pen H p c m) (hp' : Pen H' p c m) (h : H' a = none) : H a = none := by
  cases e : H a with
  | none => rfl
  | some o =>
    by_cases z : a = p
    · obtain ⟨kvs, hk⟩ := hp'.dict
      rw [z, hk] at h; cases h
    · rw [k a o z e] at h; cases h

/-- a def of the module's top, as it stands behind the top -/
structure DefAt (K : PySem.W.Frag) (mg : Str → Option Value) (x : Str) (st : Stmt) (ps : List Str) (f : Addr) (fd : FuncData) : Prop where
  F : Fun K x x st f fd
  m : mg x = some (.ref f)
  b : Binds K fd ps []
/-! ### the promises -/
/-- _law_pen(script) -/
def spPen (K : PySem.W.Frag) : Sp := fun vs H Q _ => ∃ (a : Addr) (ns : List Int), vs = [.ref a] ∧ SqL K H a (ns.map V.int) ∧ ∀ (p c : Addr) (H' : Hp), H p = none → H c = none → p ≠ c → Pen H' p c 0 → Same H H' → Q (.ref p) H'
/-- _law_draw(pen, many) -/
def spDraw : Sp := fun vs H Q _ => ∃ (p c : Addr) (m : Nat) (k : Int), vs = [.ref p, .int k] ∧ Pen H p c m ∧ m < 1000000000 ∧ 0 < k ∧ k < 1000000000 ∧
  ∀ (r : Int) (H' : Hp), 0 ≤ r → r < k → Pen H' p c (m + 1) → Keep p H H' → Q (.int r) H'
/-- _law_pick(pen, some), some a list -/
def spPick (K : PySem.W.Frag) : Sp := fun vs H Q _ => ∃ (p c a : Addr) (m : Nat) (xs : List V), vs = [.ref p, .ref a] ∧ Pen H p c m ∧ m < 1000000000 ∧ SqL K H a xs ∧ 0 < xs.length ∧ xs.length < 1000000000 ∧
  ∀ (j : Nat) (x : V) (H' : Hp), xs[j]? = some x → Pen H' p c (m + 1) → Keep p H H' → Q x H'
end AL
namespace AL
open PySem L2
theorem dget {H : Hp} {a : Addr} {kvs : List (Key × V)} {k : Key} {v : V} (h : H a = some (.dK kvs)) (e : valV kvs k = some v) : DGet H a (kV k) (some v) := by
  rw [← e]; exact DGet.k h
theorem dput {H : Hp} {a : Addr} {kvs kvs' : List (Key × V)} {k : Key} {v : V} (h : H a = some (.dK kvs)) (hl : kvs.length < sizeLine) (e : putK kvs k v = kvs') : DPut H a (kV k) v (upd H a (.dK kvs')) := by
  rw [← e]; exact DPut.k h hl
theorem fmod_in {a b : Int} (h : 0 < b) : 0 ≤ a.fmod b ∧ a.fmod b < b := by
  rw [Int.fmod_eq_emod_of_nonneg a (Int.le_of_lt h)]
  exact ⟨Int.emod_nonneg _ (by omega), Int.emod_lt_of_pos _ h⟩
theorem fdiv_nn {a b : Int} (ha : 0 ≤ a) (h : 0 < b) : 0 ≤ a.fdiv b := by
  rw [Int.fdiv_eq_ediv_of_nonneg a (Int.le_of_lt h)]
  exact Int.ediv_nonneg ha (Int.le_of_lt h)
theorem map_int {ns : List Int} {i : Nat} {y : V} (hi : (ns.map V.int)[i]? = some y) : ∃ z, ns[i]? = some z ∧ y = V.int z := by
  rw [List.getElem?_map] at hi
  cases e : ns[i]? with
  | none => rw [e] at hi; cases hi
  | some z => rw [e] at hi; exact ⟨z, rfl, (Option.some.inj hi).symm⟩
theorem Same.new {H : Hp} {p : Addr} {o : HO} (h : H p = none) : Same H (upd H p o) := fun b u e => by
  rw [upd_ne (ne_of_none e h)]; exact e
end AL
namespace AL
open PySem L2
/-- the built-in names that the top leaves alone -/
def bltNames : List Str := ["abs", "all", "any", "bool", "dict", "enumerate", "int", "isinstance", "len", "list", "max", "min", "range", "repr", "reversed", "set", "sorted", "str", "sum", "tuple", "zip"]
structure Blt (mg : Str → Option Value) : Prop where
  abs_ : mg "abs" = none
  all_ : mg "all" = none
  any_ : mg "any" = none
  bool_ : mg "bool" = none
  dict_ : mg "dict" = none
  enumerate_ : mg "enumerate" = none
  int_ : mg "int" = none
  isinstance_ : mg "isinstance" = none
  len_ : mg "len" = none
  list_ : mg "list" = none
  max_ : mg "max" = none
  min_ : mg "min" = none
  range_ : mg "range" = none
  repr_ : mg "repr" = none
  reversed_ : mg "reversed" = none
  set_ : mg "set" = none
  sorted_ : mg "sorted" = none
  str_ : mg "str" = none
  sum_ : mg "sum" = none
  tuple_ : mg "tuple" = none
  zip_ : mg "zip" = none
def bltB (K : PySem.W.Frag) : Bool := bltNames.all fun x => decide (PySem.W.nsIn K mainGlobals x = some none)
theorem blt_of {K : PySem.W.Frag} {h : Heap} {mg : Str → Option Value} (X : K.In h) (G : h.Ns mainGlobals mg) (b : bltB K = true) : Blt mg := by
  unfold bltB at b
  have all : ∀ x ∈ bltNames, mg x = none := fun x hx => PySem.W.mg_none_of X G (of_decide_eq_true (List.all_eq_true.mp b x hx))
  exact ⟨all _ (by simp [bltNames]), all _ (by simp [bltNames]), all _ (by simp [bltNames]), all _ (by simp [bltNames]), all _ (by simp [bltNames]), all _ (by simp [bltNames]), all _ (by simp [bltNames]), all _ (by simp [bltNames]), all _ (by simp [bltNames]), all _ (by simp [bltNames]), all _ (by simp [bltNames]), all _ (by simp [bltNames]), all _ (by simp [bltNames]), all _ (by simp [bltNames]), all _ (by simp [bltNames]), all _ (by simp [bltNames]), all _ (by simp [bltNames]), all _ (by simp [bltNames]), all _ (by simp [bltNames]), all _ (by simp [bltNames]), all _ (by simp [bltNames])⟩
end AL
set_option Elab.async false
set_option maxRecDepth 100000
namespace AL
open PySem L2 PySem.NumText
theorem digitsVal_app (a b : List Nat) : digitsVal (a ++ b) = digitsVal a * 10 ^ b.length + digitsVal b := by
  have key : ∀ (n : Nat) (b : List Nat), b.length = n → digitsVal (a ++ b) = digitsVal a * 10 ^ b.length + digitsVal b := by
    intro n
    induction n with
    | zero =>
      intro b hb
      have : b = [] := List.length_eq_zero_iff.mp hb
      subst this
      simp [digitsVal]
    | succ n ih =>
      intro b hb
      have hne : b ≠ [] := fun z => by rw [z] at hb; cases hb
      obtain ⟨i, c, rfl⟩ : ∃ i c, b = i ++ [c] := ⟨b.dropLast, b.getLast hne, (List.dropLast_concat_getLast hne).symm⟩
      have hi : i.length = n := by simpa using hb
      rw [← List.append_assoc, digitsVal_snoc, ih i hi, digitsVal_snoc, List.length_append, List.length_singleton, Nat.pow_succ, Nat.add_mul, Nat.mul_assoc]
      omega
  exact key _ b rfl
theorem digitsVal_lt : ∀ (n : Nat) (b : List Nat), b.length = n → AllDigits b → digitsVal b < 10 ^ n
  | 0, b, hl, _ => by
    have : b = [] := List.length_eq_zero_iff.mp hl
    subst this; decide
  | n + 1, b, hl, h => by
    cases b with
    | nil => simp at hl
    | cons c b =>
      have hc := h.head
      have ih := digitsVal_lt n b (by simpa using hl) h.tail
      have e := digitsVal_app [c] b
      rw [List.singleton_append] at e
      have e1 : digitsVal [c] = c - 48 := by show 0 * 10 + (c - 48) = c - 48; omega
      have hl' : b.length = n := by simpa using hl
      rw [e, e1, hl', Nat.pow_succ]
      have : (c - 48) * 10 ^ n ≤ 9 * 10 ^ n := Nat.mul_le_mul_right _ (by omega)
      omega
/-- the last k signs of a number's text -/
theorem last_digits {n k : Nat} (hk : 0 < k) (hl : (TL.numL n).length ≤ 640) :
    (cutS (Str.ofString (toString ((n : Nat) : Int))) (some (-(k : Int))) none).length ≤ 640 ∧
    intText? (cutS (Str.ofString (toString ((n : Nat) : Int))) (some (-(k : Int))) none) = some ((n % 10 ^ k : Nat) : Int) := by
  have htl : (Str.ofString (toString ((n : Nat) : Int))).cps.toList = TL.numL n := TL.tl_num n
  have hlen : (Str.ofString (toString ((n : Nat) : Int))).length = (TL.numL n).length := by rw [TL.len_tl]; exact congrArg List.length (TL.tl_num n)
  have e : (cutS (Str.ofString (toString ((n : Nat) : Int))) (some (-(k : Int))) none).cps.toList = (TL.numL n).drop ((TL.numL n).length - k) := by
    unfold cutS
    rw [htl, hlen]
    have h1 : HT.sIx (TL.numL n).length 0 (some (-(k : Int))) = (TL.numL n).length - k := by
      show (if (-(k : Int)) < 0 then ((-(k : Int)) + ((TL.numL n).length : Int)).toNat else _) = _
      rw [if_pos (by omega)]
      omega
    have h2 : HT.sIx (TL.numL n).length (TL.numL n).length none = (TL.numL n).length := by
      unfold HT.sIx
      simp
    rw [h1, h2]
    simp
    apply List.take_of_length_le
    simp
  have hd := TL.numL_digits n
  have hne := TL.numL_ne n
  have hv := TL.numL_val n
  generalize TL.numL n = l at *
  have hl0 : 0 < l.length := List.length_pos_iff.mpr hne
  have len : (cutS (Str.ofString (toString ((n : Nat) : Int))) (some (-(k : Int))) none).length = (l.drop (l.length - k)).length := by
    rw [← e]; exact Array.length_toList.symm
  have hle : (l.drop (l.length - k)).length ≤ k := by rw [List.length_drop]; omega
  have hdd : AllDigits (l.drop (l.length - k)) := fun c hc => hd c (List.mem_of_mem_drop hc)
  refine ⟨by rw [len, List.length_drop]; omega, ?_⟩
  rw [intText_digits (by rw [e]; exact hdd) (by rw [e]; intro z; have := congrArg List.length z; rw [List.length_drop] at this; simp at this; omega) (by rw [len, List.length_drop]; omega), e]
  congr 2
  have hap := digitsVal_app (l.take (l.length - k)) (l.drop (l.length - k))
  rw [List.take_append_drop, hv] at hap
  have hlt := digitsVal_lt _ _ rfl hdd
  by_cases hkl : k ≤ l.length
  · have : (l.drop (l.length - k)).length = k := by rw [List.length_drop]; omega
    rw [this] at hap hlt
    rw [hap, Nat.mul_comm, Nat.mul_add_mod, Nat.mod_eq_of_lt hlt]
  · have z : l.length - k = 0 := by omega
    rw [z] at hap hlt ⊢
    simp [digitsVal] at hap
    have : n < 10 ^ k := Nat.lt_of_lt_of_le (by rw [List.drop_zero] at hlt; rw [← hv]; exact hlt) (Nat.pow_le_pow_right (by decide) (by omega))
    rw [List.drop_zero, hv, Nat.mod_eq_of_lt this]
end AL
namespace AL
open PySem L2 PySem.NumText
theorem log2_small {n k : Nat} (hk : 0 < k) (h : n < 2 ^ k) : n.log2 < k := by
  by_cases z : n = 0
  · subst z; simpa using hk
  · exact (Nat.log2_lt z).mpr h
theorem pow402 : (10 : Nat) ^ 402 < 2 ^ 1920 := by decide +kernel
theorem thousand (i : Nat) : (1000 : Nat) ^ i = 10 ^ (3 * i) := by rw [Nat.pow_mul]
/-- _law_big(pen, figures) -/
def spBig : Sp := fun vs H Q _ => ∃ (p c : Addr) (m : Nat) (k : Nat), vs = [.ref p, .int (k : Int)] ∧ Pen H p c m ∧ m < 900000000 ∧ 0 < k ∧ k ≤ 400 ∧
  ∀ (r : Nat) (H' : Hp), r < 10 ^ k → Pen H' p c (m + 200) → Keep p H H' → Q (.int (r : Int)) H'
/-- _law_name(pen, used), used a new empty list -/
def spName0 : Sp := fun vs H Q _ => ∃ (p c a : Addr) (m : Nat), vs = [.ref p, .ref a] ∧ Pen H p c m ∧ a ≠ c ∧ m < 900000000 ∧ H a = some (.lst []) ∧
  ∀ (z : Str) (H' : Hp), z.length ≤ 8 → (∀ c ∈ z.cps.toList, c < 128) → Pen H' p c (m + 200) → Keep p (upd H a (.lst [.str z])) H' → Q (.str z) H'
theorem app_tl {z : Str} {c : Nat} : (z ++ (⟨#[c]⟩ : Str)).cps.toList = z.cps.toList ++ [c] := by
  show (z.cps ++ #[c]).toList = _
  rw [Array.toList_append]
theorem pick_of {xs : List V} {P : V → Prop} (h : ∀ x ∈ xs, P x) {j : Nat} {x : V} (e : xs[j]? = some x) : P x := h x (List.mem_of_getElem? e)
end AL
set_option Elab.async false
set_option maxRecDepth 100000
set_option maxHeartbeats 2000000
/-! Defs that ask repr: their promises hold where no repr is under way. -/
namespace AL
open PySem PySem.Spec PyProof.Rows L2

/-- a def's promise, kept wherever no guard stands around -/
structure FnG (P : Program) (w : World) (K : PySem.W.Frag) (mg : Str → Option Value) (base : Heap) (CX : CXT) (k : Nat) (f : Addr) (fd : FuncData) (ps : List Str) (sp : Sp) : Prop where
  len : ∀ xs H Q E, sp xs H Q E → xs.length = ps.length
  run : ∀ (A : Around) (ol : List Env) (s : Shared) (H : Hp) (ar : Args) (us : List Value) (xs : List V) (Q : VK) (E : XK), A.guards = some [] → Room k A → Env0 P w K mg base A ol s H →
    BindsTo s fd ar (ps.zip us) → Vals xs us → sp xs H Q E → codeAny (model P w) A (.call (.ref f) ar) (CR CX ol P w H s Q E) s

theorem FnG.of {P : Program} {w : World} {K : PySem.W.Frag} {mg : Str → Option Value} {base : Heap} {CX : CXT} {k : Nat} {f : Addr} {fd : FuncData} {ps : List Str} {sp : Sp}
    (F : FnOk P w K mg base CX k f fd ps sp) : FnG P w K mg base CX k f fd ps sp :=
  ⟨F.len, fun A ol s H ar us xs Q E _ r e b v h => F.run A ol s H ar us xs Q E r e b v h⟩

/-- a def of the text, by its body -/
theorem okGX {P : Program} {w : World} {K : PySem.W.Frag} {mg : Str → Option Value} {base : Heap} {x qual : Str} {st : Stmt} {f : Addr} {fd : FuncData} {N ps : List Str} {CX : CXT} {k : Nat} {sp : Sp}
    (F : Fun K x qual st f fd) (S : FnScope N ps (defScope st)) (len : ∀ xs H Q E, sp xs H Q E → xs.length = ps.length)
    (body : ∀ (cv : Value) (A : Around) (ol : List Env) (s : Shared) (H : Hp) (xs : List V) (Q : VK) (E : XK), A.guards = some [] → Room k (A.deeper (envOfC qual (defScope st) s.heap.objs.size f cv)) →
      sp xs H Q E → ∃ t, PSs (cxOf CX P w K mg base N qual (defScope st) f cv A ol s H E) (defBody st) t ∧ t { nx := fun _ H' => Q .non H', rt := Q } (start N xs) H) :
    FnG P w K mg base CX (k + 1) f fd ps sp := by
  obtain ⟨c0, d0, kw0, dc0, pm0, an0, cv, ct0, sl0, efd, look, code⟩ := F.ex
  subst efd
  constructor
  · exact len
  · intro A ol s H ar us xs Q E gd room e0 bd vals wish
    have here : K.In s.heap := e0.mod.kin.keeps fun b o z => (e0.bs b o z).1
    have free : s.heap.NoLimit := e0.mod.nolimit.keeps fun b o z => (e0.bs b o z).1
    have kinds : ∀ y ∈ ps.zip us, (defScope st).names.lookup y.1 = some .local ∨ ((defScope st).names.lookup y.1 = some .cell ∧ ((cellsFrom (s.heap.objs.size + 1) (defScope st).names []).lookup y.1).isSome = true) := by
      rintro ⟨n, v⟩ hy
      cases S.par n (List.of_mem_zip hy).1 with
      | inl q => exact .inl q
      | inr q => exact .inr ⟨q, PySem.W.cellsFrom_some _ _ _ (.inl q)⟩
    refine codeAny_call_function room.depth (here _ _ look) rfl S.co S.gen rfl (PySem.W.codeRec_of here code) (bd _ _ _ _ (wpAny_newFunctionEnv_cells S.kind kinds fun env hv s1 ic => ?_))
    subst hv
    refine ⟨free.keeps ic.toInCall.keep, codeAny_func ?_⟩
    obtain ⟨t, run, rd⟩ := body cv A ol s H xs Q E gd (room.deeper _) wish
    have I0 := inv_start (CX := CX) (P := P) (w := w) (cd := cv) (E := E) S room.hd e0 (len _ _ _ _ wish) vals ic
    refine wpAny_mono (run.run [] s1 _ H _ I0 rd) (fun fl s2 z => ?_) fun _ _ z => z
    cases fl with
    | brk => obtain ⟨_, _, _, no⟩ := z; exact no.elim
    | cont => obtain ⟨_, _, _, no⟩ := z; exact no.elim
    | next =>
      obtain ⟨σ2, H2, J, q⟩ := z
      exact ⟨V.non, H2, J.os, J.bare, J.base, J.hok, rfl, q⟩
    | ret u =>
      obtain ⟨v, σ2, H2, J, rv, q⟩ := z
      exact ⟨v, H2, J.os, J.bare, J.base, J.hok, rv, q⟩

/-- .. of which nothing that is raised leaves it -/
theorem okG {P : Program} {w : World} {K : PySem.W.Frag} {mg : Str → Option Value} {base : Heap} {x qual : Str} {st : Stmt} {f : Addr} {fd : FuncData} {N ps : List Str} {k : Nat} {sp : Sp}
    (F : Fun K x qual st f fd) (S : FnScope N ps (defScope st)) (len : ∀ xs H Q E, sp xs H Q E → xs.length = ps.length)
    (body : ∀ (cv : Value) (A : Around) (ol : List Env) (s : Shared) (H : Hp) (xs : List V) (Q : VK) (E : XK), A.guards = some [] → Room k (A.deeper (envOfC qual (defScope st) s.heap.objs.size f cv)) →
      sp xs H Q E → ∃ t, PSs (cxOf CX0 P w K mg base N qual (defScope st) f cv A ol s H E).nox (defBody st) t ∧ t { nx := fun _ H' => Q .non H', rt := Q } (start N xs) H) :
    FnG P w K mg base CX0 (k + 1) f fd ps sp := by
  refine okGX F S len fun cv A ol s H xs Q E gd room wish => ?_
  obtain ⟨t, run, rd⟩ := body cv A ol s H xs Q E gd room wish
  exact ⟨t, run.nox, rd⟩

section
variable {X : Cx} {CX : CXT} {k : Nat} {f : Addr} {fd : FuncData} {ps : List Str} {sp : Sp} {E : XK} {x : Str} {p pos : Pos} {e : Expr} {es : List Expr} {t : TA}
/-- f(e, ..) where no guard stands -/
theorem pe_callG (F : FnG X.prog X.w X.K X.mg X.base CX k f fd ps sp) (gd : X.A.guards = some []) (room : Room k X.A) (hg : Gl X x) (hm : X.mg x = some (.ref f)) (kp : PySem.W.keepIn X.K (.ref f) = true) (hb : Binds X.K fd ps [])
    (out : Passes CX X E) (ha : PA X (e :: es) t) (nd : (x == ("__debug__" : Str)) = false := by decide) (s1 : starEach (e :: es) X.env = (false, eval e X.env) :: starEach es X.env := by rfl)
    (s2 : (backTo pos (starEach es X.env)).any (·.1) = false := by rfl) : PE X (.Call (.Name x p) (e :: es) [] pos) (tCall sp [] E t) := by
  constructor
  intro pins s σ H Q I h
  refine wpAny_Call_Name_kw (ld_glob I hg hm (PySem.W.callWith_K (h₀ := X.base) I.ok.mod.kin kp ?_ s1 s2) nd)
  refine thn (ha.run pos pins s σ H _ I h) fun us s3 ⟨xs, H3, J, rv, q⟩ => ⟨J.kIn, ?_⟩
  have q' : sp xs H3 Q E := by
    have z : sp (xs ++ []) H3 Q E := q
    rw [List.append_nil] at z
    exact z
  have len : us.length = ps.length := by rw [← rv.length]; exact F.len _ _ _ _ q'
  have bd : BindsTo s3 fd ⟨us, []⟩ (ps.zip us) := by
    have z := hb s3 us J.kIn (by rw [List.append_nil]; exact len)
    rw [List.append_nil] at z
    exact z
  refine wpAny_call (codeAny_mono (F.run X.A X.stack s3 H3 ⟨us, []⟩ us xs Q E gd room J.env0 bd rv q') fun r s4 z => ?_)
  cases r with
  | error er => exact out pins σ H3 s3 er s4 J z
  | ok fl =>
    cases fl with
    | ret u => exact J.after z
    | next => exact z.elim
    | brk => exact z.elim
    | cont => exact z.elim
end

/-! ### repr of data -/
/-- repr(x), x a list or a tuple of data -/
def rRepr (K : PySem.W.Frag) : List V → Hp → VK → Prop := fun vs H Q => ∃ (a : Addr) (d : PyData), vs = [.ref a] ∧ Dp K H (.ref a) d ∧ d.showable = true ∧ d.hasDict = false ∧ d.depth ≤ 60 ∧ d.shown.length ≤ sizeLine ∧ Q (.str d.shown) H
theorem call_reprD {X : Cx} (gd : X.A.guards = some []) (hu : X.A.units + 64 < cLine) : CallR X (.builtin "repr") (rRepr X.K) := by
  intro pins s σ H vs us Q I r h
  obtain ⟨a, d, rfl, hd, h1, h2, h3, h4, q⟩ := h
  obtain ⟨u, rfl, ru⟩ := vals1 r
  obtain rfl : u = Value.ref a := ru
  obtain ⟨as, rd⟩ := Dp.reads I d (.ref a) (.ref a) hd rfl
  exact repr_of_reads' rd h1 (PyData.noDict_hsm h2) gd (by omega) (fun _ _ z => z) (fun h' u tk kk => ⟨.str d.shown, H, I.kept (t' := tk) kk, ⟨u, rfl⟩, q⟩) h4
end AL
set_option Elab.async false
set_option maxRecDepth 100000
set_option maxHeartbeats 4000000
/-! Own exceptions held as values: made, their fields read, asked for their class. -/
namespace PySem
open PySem.W PySem.Calls PyProof.Rows
section
variable {prog : Program} {w : World} {A : Around} {E : Value → Shared → Prop} {s : Shared} {K : Frag} {x D : Addr} {ox : Obj} {od : Option Obj}
/-- a data descriptor of the class is found ahead of the own dict -/
theorem al_findObj {C : Addr} {n : Str} {a g : Value} (hc : (clsIn K C).isSome = true) (ha : findIn K (.ref C) n = some (some a)) (hg : specialIn K a "__get__" = some (some g)) (ht : takesIn K a = some true) : findObj K C od n = some (.bind g a) := by
  obtain ⟨cd, e⟩ := Option.isSome_iff_exists.mp hc
  unfold findObj
  rw [e, Option.bind_some, ha, Option.bind_some]
  simp [hg, ht]
/-- e.__class__ of an own exception, whatever its dict holds -/
theorem al_class {Q : Option Value → Shared → Prop} (T : L2.ExcC K D) (X : K.In s.heap) (J : InstAt s.heap x ox D od) (h : Q (some (.ref D)) { s with toks := s.toks + 1 }) : wpAny (model prog w) A (getAttr? (.ref x) "__class__") Q E s := by
  have hf : findObj K D od "__class__" = some (.bind (.builtin "getset_descriptor.__get__") (.builtin "object.__class__")) := al_findObj (by
    obtain ⟨cd, e, _⟩ := any_some T.hd
    rw [e]; rfl) T.ha T.hn T.ht
  obtain ⟨hp, ge, dr, tk, os⟩ := s
  have ty := J.type (M := model prog w)
  have l1 := looks_findIn (M := model prog w) X T.hg
  have l2 := looks_findIn (M := model prog w) X T.hk
  have l3 := looks_find (M := model prog w) X J hf
  have isExc : Looks (model prog w) hp (isInstance (.ref x) (.type "BaseException")) true := ty.andThen (looks_subIn X T.hs)
  have f0 : (false && onTheHeap (Value.builtin "BaseException.__getattribute__")) = false := rfl
  have f1 : (onTheHeap (Value.ref D) && Value.builtin "BaseException.__getattribute__" == Value.builtin "object.__getattribute__") = false := by
    rw [show (Value.builtin "BaseException.__getattribute__" == Value.builtin "object.__getattribute__") = false by decide +kernel]; rfl
  unfold getAttr? getAttrBy? getAttrBy
  refine wpAny_bind (wpAny_mkText (wpAny_bind (wpAny_attempt (wpAny_holding (wpAny_bind (ty.at (wpAny_bind (l1.at ?_))))))))
  show wpAny _ _ (if (onTheHeap (Value.ref D) && Value.builtin "BaseException.__getattribute__" == Value.builtin "object.__getattribute__") = true then _ else _) _ _ _
  rw [f1, if_neg Bool.false_ne_true]
  unfold getAttrByItsOwn hookBefore
  refine wpAny_bind ?_
  have onHp : onTheHeap (Value.ref D) = true := rfl
  rw [if_pos onHp]
  refine l2.at ?_; refine wpAny_bind (wpAny_attempt (wpAny_holding ?_))
  unfold callGetattribute
  rw [f0, if_neg Bool.false_ne_true]
  unfold boundAndCalled
  rw [PySem.F.excAttr_ValueError.ga.bind (.ref x)]
  refine wpAny_bind (wpAny_pure ?_)
  show wpAny _ _ (call (.builtin "BaseException.__getattribute__") [.ref x, .str "__class__" tk]) _ _ _
  refine wpAny_call (codeAny_call_builtin PySem.F.excAttr_ValueError.ga.plain PySem.F.entry_bexc_ga (@check_slot (model prog w) _ _ ⟨hp, ge, dr, tk + 1, os⟩ "BaseException.__getattribute__" "BaseException" "__getattribute__" (.ref x) [.str "__class__" tk] [] _ (by decide +kernel) (by decide +kernel) isExc (PySem.F.args_bexc_ga (.ref x) (.str "__class__" tk)) ?_))
  unfold Builtin.«object.__getattribute__»
  refine wpAny_bind (wpAny_of_eq (a := ((Value.ref x : Value), [Value.str "__class__" tk])) (by first | rfl | (simp only [slotArgs]; rfl)) (wpAny_bind (wpAny_pure (wpAny_bind (ty.at (wpAny_bind (l3.at ?_)))))))
  show wpAny _ _ (holding [Value.builtin "object.__class__"] (call (.builtin "getset_descriptor.__get__") [.builtin "object.__class__", .ref x, .ref D]) >>= ret) _ _ _
  refine wpAny_bind (wpAny_holding (wpAny_call (class_get (s := ⟨hp, ge, dr, tk + 1, os⟩) (ox := ox) (od := od) X J T.hm (wpAny_pure ?_))))
  show wpAny _ _ (handedOut (.ref D)) _ _ _
  rw [handedOut_of (v := .ref D) rfl]
  first
    | exact wpAny_pure (wpAny_pure h)
    | exact wpAny_pure h
    | exact wpAny_pure (wpAny_bind (wpAny_pure (wpAny_pure h)))
theorem al_kitx (T : L2.ExcC K D) : KitX K (.ref x) (.ref D) (fun h => InstAt h x ox D od) := by
  obtain ⟨cd, ecd, _⟩ := any_some T.hd
  have there : ∃ o, K.lookup D = some o ∧ ∀ its n, o.data ≠ .seq its n := by
    unfold clsIn at ecd
    split at ecd
    · rename_i c' d' cd' sl' ho
      exact ⟨_, ho, fun _ _ z => by cases z⟩
    · cases ecd
  constructor
  case ty => exact fun _ _ _ J => J.type
  case it =>
    intro _ _ X _
    unfold clsIn at ecd
    split at ecd
    · rename_i c' d' cd' sl' ho
      intro A' Q' E' s' kk q
      unfold isType loadHead
      exact wpAny_bind (wpAny_loadPart (kk _ _ (X _ _ ho)) (wpAny_pure q))
    · cases ecd
  case ne =>
    intro h tp dd its n sl X htp
    refine Bool.eq_false_iff.mpr fun q => ?_
    have e : D = tp := Value.ref.inj (beq_iff_eq.mp q)
    subst e
    obtain ⟨o, ho, no⟩ := there
    have z := (X _ _ ho).symm.trans htp
    cases z
    exact no _ _ rfl
  case ca => exact fun X J kk => al_class T X J kk
end
end PySem
namespace AL
open PySem PySem.Spec PyProof.Rows L2
/-- C(e, ..), a value -/
def tMkV (C : Addr) (sp : Sp) (ta : TA) : TE := fun σ H Q => ta σ H fun vs H1 => vs.length ≤ 1000 ∧ ∀ a, H1 a = none → sp (.ref a :: vs) (upd H1 a (exo a C none)) (fun v H2 => v = .non ∧ Q (.ref a) H2) fun _ _ _ => False
/-- e.f of such a value -/
def tFv (K : PySem.W.Frag) (f : Str) (te : TE) : TE := fun σ H Q => te σ H fun x H1 => ∃ (a C dx : Addr) (fs : List (Str × V)) (v : V), x = .ref a ∧ XfC K C ∧ PySem.W.findIn K (.ref C) f = some none ∧
  H1 a = some (exo a C (some dx)) ∧ H1 dx = some (exd dx fs) ∧ fs.lookup f = some v ∧ Q v H1
/-- isinstance(e, c) of such a value -/
def rIsV (K : PySem.W.Frag) : List V → Hp → VK → Prop := fun vs H Q => ∃ (a C : Addr) (c : V) (u : Value) (b : Bool), vs = [.ref a, c] ∧ ExcC K C ∧ ((∃ dx fs, H a = some (exo a C (some dx)) ∧ H dx = some (exd dx fs)) ∨ H a = some (ExO (.ref C) a)) ∧
  ClsV c u ∧ PySem.W.kitOne K (.ref C) u = some b ∧ Q (.bl b) H
section
variable {X : Cx} {x : Str} {C fI : Addr} {k : Nat} {fd : FuncData} {ps : List Str} {sp : Sp} {e : Expr} {es : List Expr} {ta : TA} {te : TE} {p pos : Pos} {CX : CXT}
theorem pe_mkV (T : OexC X.K C) (hi : PySem.W.findIn X.K (.ref C) "__init__" = some (some (.ref fI))) (ht : PySem.W.typeIn X.K (.ref fI) = some (.type "function")) (F : FnOk X.prog X.w X.K X.mg X.base CX k fI fd ps sp)
    (room : Room (k + 1) X.A) (hb : Binds X.K fd ps []) (out : Passes CX X fun _ _ _ => False) (hg : Gl X x) (hm : X.mg x = some (.ref C)) (ha : PA X (e :: es) ta) (nd : (x == ("__debug__" : Str)) = false := by decide)
    (s1 : starEach (e :: es) X.env = (false, eval e X.env) :: starEach es X.env := by rfl) (s2 : (backTo pos (starEach es X.env)).any (·.1) = false := by rfl) : PE X (.Call (.Name x p) (e :: es) [] pos) (tMkV C sp ta) := by
  constructor
  intro pins s σ H Q I h
  obtain ⟨_, _, _, _, bm, _, _, _, _, _, _, _, _, _, _, look, isVE⟩ := T.cls
  refine wpAny_Call_Name_kw (ld_glob I hg hm (PySem.W.callWith_K (h₀ := X.base) I.ok.mod.kin T.kC (thn (ha.run pos pins s σ H _ I h) fun us sA hA => ?_) s1 s2) nd)
  obtain ⟨vs, H1, J, rv, few, wish⟩ := hA
  refine ⟨J.kIn, ?_⟩
  show wpAny _ _ (call (.ref C) us) _ _ _
  obtain ⟨hp, ge, dr, tk, os⟩ := sA
  have bound : hp.objs.size ≤ hp.objs.size + 1 := Nat.le_succ _
  have fresh : H1 (hp.objs.size + 1) = none := J.hok.fresh bound
  have goal := wish _ fresh
  have keep : ∀ b o, hp.get? b = some o → ((hp.push (PySem.W.kdv_tup us)).push (PySem.HandSPX.excO C hp.objs.size)).get? b = some o := fun b o z => Heap.get?_push_of_some _ (Heap.get?_push_of_some _ z)
  have there : ((hp.push (PySem.W.kdv_tup us)).push (PySem.HandSPX.excO C hp.objs.size)).get? (hp.objs.size + 1) = some (PySem.HandSPX.excO C hp.objs.size) := by heap_get
  have J2 : Inv X pins σ (upd H1 (hp.objs.size + 1) (exo (hp.objs.size + 1) C none)) ⟨(hp.push (PySem.W.kdv_tup us)).push (PySem.HandSPX.excO C hp.objs.size), ge, dr, tk, os⟩ := J.laid (t' := tk) keep bound (exo_ok there)
  have rv2 : Vals (V.ref (hp.objs.size + 1) :: vs) (Value.ref (hp.objs.size + 1) :: us) := .cons rfl rv
  have many : (Value.ref (hp.objs.size + 1) :: us).length = ps.length := rv2.length.symm.trans (F.len _ _ _ _ goal)
  have few' : us.length ≤ sizeLine := by
    have z := rv.length
    rw [sizeLine_eq]
    omega
  have bd : BindsTo ⟨(hp.push (PySem.W.kdv_tup us)).push (PySem.HandSPX.excO C hp.objs.size), ge, dr, tk, os⟩ fd ⟨Value.ref (hp.objs.size + 1) :: us, []⟩ (ps.zip (Value.ref (hp.objs.size + 1) :: us)) := by
    have z := hb ⟨(hp.push (PySem.W.kdv_tup us)).push (PySem.HandSPX.excO C hp.objs.size), ge, dr, tk, os⟩ (Value.ref (hp.objs.size + 1) :: us) J2.kIn (by rw [List.append_nil]; exact many)
    rw [List.append_nil] at z
    exact z
  refine wpAny_call (PySem.HandSPX.call_own PySem.F.excBase_ValueError (fun Y => PySem.HandSPX.refsVE_contains Y bm isVE) (J.kIn _ _ look) (PySem.W.looks_findIn J.kIn hi) (fun self => PySem.W.bind_fn J.kIn self ht) few' (codeAny_mono
    (F.run _ X.stack _ _ ⟨Value.ref (hp.objs.size + 1) :: us, []⟩ (Value.ref (hp.objs.size + 1) :: us) _ _ (fun _ _ _ => False) (room.make C us []) (J2.env0.make C us []) bd rv2 goal) fun r sB hB => ?_))
  cases r with
  | error er => exact out pins σ _ _ er sB J2 hB
  | ok fl =>
    cases fl with
    | next => exact hB.elim
    | brk => exact hB.elim
    | cont => exact hB.elim
    | ret u =>
      obtain ⟨v, H2, os2, bare2, un2, hok2, rw2, ev, q2⟩ := hB
      subst ev
      refine ⟨rw2, .ref (hp.objs.size + 1), H2, ?_, rfl, q2⟩
      obtain ⟨h2, g2, d2, t2, os'⟩ := sB
      have un1 : Un (frs X.stack) [] H1 H2 hp h2 := (Un.laid keep bound fresh).trans un2
      exact J.call' (ch := []) os2 un1 hok2 bare2 (fun b z => absurd z (by simp))
theorem pe_fv {n : Str} (he : PE X e te) (hb : attributeBase e n X.env (eval e X.env) = eval e X.env := by rfl) : PE X (.Attribute e n pos) (tFv X.K n te) := by
  constructor
  intro pins s σ H Q I h
  refine attr_of hb (thn (he.run pins s σ H _ I h) fun u sA hA => ?_)
  obtain ⟨y, H1, J, ry, a, C, dx, fs, v, rfl, T, no, ea, ed, l, q⟩ := hA
  cases (show u = Value.ref a from ry)
  obtain ⟨t1, oa⟩ := exo_at J.hok ea
  obtain ⟨mA, hns, rel⟩ := exd_at J.hok ed
  obtain ⟨od, ho, hl⟩ := lookIn_ns hns
  obtain ⟨u, hu, ru⟩ := RelO.some_of (v := v) (o := mA n) (by rw [← l]; exact rel n)
  exact HandSPX.exc_get J.kIn (⟨oa, rfl, rfl, ho⟩ : PySem.W.InstAt sA.heap a _ C (some od)) T.ga T.gg T.exC (PySem.W.findObj_own T.hdC no rfl (by rw [hl, hu])) (handed_of ru) ⟨v, H1, J.tok _, ru, q⟩
theorem call_isV : CallR X (.builtin "isinstance") (rIsV X.K) := by
  intro pins s σ H vs us Q I r h
  obtain ⟨a, C, c, u, b, rfl, T, what, kc, e, q⟩ := h
  obtain ⟨u1, u2, rfl, r1, r2⟩ := vals2 r
  cases (show u1 = Value.ref a from r1)
  cases kc.eq r2
  rcases what with ⟨dx, fs, ea, ed⟩ | ea
  · obtain ⟨t1, oa⟩ := exo_at I.hok ea
    obtain ⟨mA, hns, rel⟩ := exd_at I.hok ed
    obtain ⟨od, ho, hl⟩ := lookIn_ns hns
    exact PySem.W.kia_one (al_kitx T) I.kIn (⟨oa, rfl, rfl, ho⟩ : PySem.W.InstAt s.heap a _ C (some od)) e (fun z => nomatch z) fun tk => ⟨.bl b, H, I.tok tk, rfl, q⟩
  · obtain ⟨⟨oe, fv, oa, ⟨z1, z2⟩, z3, _⟩, _⟩ := I.hok a _ ea
    exact PySem.W.kia_one (al_kitx T) I.kIn (⟨oa, z1, by unfold PySem.W.notCls; rw [z3] <;> rfl, by rw [z2]; trivial⟩ : PySem.W.InstAt s.heap a oe C none) e (fun z => nomatch z) fun tk => ⟨.bl b, H, I.tok tk, rfl, q⟩
/-- C() of an own class over ValueError without __init__ -/
theorem pe_mkV0 {bmB : List Value} {B newId initId : String} (F : ExcBaseFacts B newId initId bmB) (ex : PySem.W.excIn X.K C bmB newId = true) (hm : X.mg x = some (.ref C)) (kp : PySem.W.keepIn X.K (.ref C) = true) (hg : Gl X x) (nd : (x == ("__debug__" : Str)) = false := by decide) :
    PE X (.Call (.Name x p) [] [] pos) (fun _ H Q => ∀ a, H a = none → Q (.ref a) (upd H a (ExO (.ref C) a))) := by
  constructor
  intro pins s σ H Q I h
  refine wpAny_Call_Name_kw (ld_glob I hg hm (PySem.W.callWith_K0 I.kIn kp ?_) nd)
  obtain ⟨bm, N, nm, qn, bs, hd, sn, sub, ab, col, dd, c0, c1, c2, c3, c5, mN, hC, hN, hni, T⟩ := exc_obj I.kIn ex
  obtain ⟨hp, ge, dr, tk, os⟩ := s
  refine wpAny_call_exc_subT F T hC hN hni (fun h2 a made => ?_) (Nat.zero_le _)
  have fresh : H a = none := I.hok.gone made.new
  obtain ⟨t, here, _, _⟩ := made.there
  exact ⟨.ref a, upd H a (ExO (.ref C) a), I.laidN (t' := tk) made.keeps made.new fresh (exO_ok here ⟨rfl, rfl⟩ rfl rfl rfl (show 4 < 6 by decide)), rfl, h a fresh⟩
end
end AL
set_option Elab.async false
set_option maxRecDepth 100000
set_option maxHeartbeats 2000000
/-! The end of a law whose def asks repr. -/
namespace AL
open PySem PySem.Spec PyProof.Rows L2
/-- the script's own object -/
def scrO (us : List Value) : Obj := { cls := .type "list", data := .seq us.toArray }
/-- the heap at the law's entry: the script alone, locked (or nothing, where it is the module's own) -/
def scrH (K : PySem.W.Frag) (a : Addr) (us : List Value) (ns : List Int) : Hp := fun b => if b = a ∧ K.lookup a = none then some (.frz (scrO us) (.lst (ns.map V.int))) else none
theorem scrH_some {K : PySem.W.Frag} {a b : Addr} {us : List Value} {ns : List Int} {u : HO} (h : scrH K a us ns b = some u) : b = a ∧ K.lookup a = none ∧ u = .frz (scrO us) (.lst (ns.map V.int)) := by
  unfold scrH at h
  split at h
  · rename_i c
    exact ⟨c.1, c.2, (Option.some.inj h).symm⟩
  · cases h
theorem lawG {P : Program} {w : World} {K : PySem.W.Frag} {mg mb : Str → Option Value} {CX : CXT} {k : Nat} {fa a : Addr} {fd : FuncData} {x : Str} {sp : Sp} {t : Shared} {us : List Value} {ns : List Int}
    (kin : K.In t.heap) (glb : t.heap.Ns mainGlobals mg) (blt : t.heap.Ns builtinsNs mb) (boot : ∀ y : Str, y ≠ "__name__" → mb y = bootBuiltins y) (free : t.heap.NoLimit) (noG : t.gens = #[])
    (at_a : t.heap.get? a = some (scrO us)) (isI : IntsAre us ns) (short : ns.length ≤ sizeLine) (room : Room k callerA)
    (F : ∀ base : Heap, K.In base → base.Ns mainGlobals mg → FnG P w K mg base CX k fa fd [x] sp) (bind : ∀ (s : Shared) (u : Value), BindsTo s fd ⟨[u], []⟩ [(x, u)])
    (wish : ∀ H : Hp, Only H → SqL K H a (ns.map V.int) → sp [.ref a] H (fun v _ => v = .bl true) fun _ _ _ => False)
    (noX : ∀ H e s', CX [] H t (fun _ _ _ => False) e s' → False) :
    codeAny (model P w) callerA (.call (.ref fa) ⟨[.ref a], []⟩) (fun r s' => r = .ok (.ret (.bool true)) ∧ OldK t.heap s'.heap ∧ s'.os = t.os ∧ AllBare s'.gens) t := by
  have vals := vals_ints isI
  have many := isI.length
  have only : Only (scrH K a us ns) := fun b => by
    cases e : scrH K a us ns b with
    | none => exact .inl rfl
    | some u =>
      obtain ⟨_, _, z⟩ := scrH_some e
      exact .inr ⟨_, _, congrArg some z⟩
  have seq : SqL K (scrH K a us ns) a (ns.map V.int) := by
    cases e : K.lookup a with
    | none => exact .inl (.inr ⟨scrO us, if_pos ⟨rfl, e⟩⟩)
    | some o =>
      have z := kin a o e
      rw [at_a] at z
      cases z
      exact .inr ⟨_, us.toArray, _, e, rfl, rfl, rfl, by rw [List.size_toArray, many]; exact short, vals⟩
  have held : HOk P w (scrH K a us ns) t.heap := fun b u e => by
    obtain ⟨rfl, _, rfl⟩ := scrH_some e
    exact ⟨at_a, by rw [List.length_map]; exact short, us, _, vals, at_a⟩
  have noDict : ∀ {b : Addr} {o : Obj} {es : Array DictEntry} {n : Nat}, t.heap.get? b = some o → o.data = .dict es n → scrH K a us ns b = none := by
    intro b o es n e1 e2
    cases e : scrH K a us ns b with
    | none => rfl
    | some u =>
      obtain ⟨rfl, _, _⟩ := scrH_some e
      rw [at_a] at e1
      cases e1
      cases e2
  have ns_of : ∀ {b : Addr} {m : Str → Option Value}, t.heap.Ns b m → (hidT t.heap (scrH K a us ns)).Ns b m := by
    rintro b m ⟨o, es, n, e1, e2, r⟩
    exact ⟨o, es, n, hidT_get e1 (noDict e1 e2), e2, r⟩
  have kin' : K.In (hidT t.heap (scrH K a us ns)) := fun b o e => hidT_get (kin b o e) (by
    cases z : scrH K a us ns b with
    | none => rfl
    | some u =>
      obtain ⟨rfl, n, _⟩ := scrH_some z
      rw [n] at e
      cases e)
  have modl : Mod K mg (hidT t.heap (scrH K a us ns)) := by
    obtain ⟨mc, f1, f2⟩ := free
    exact ⟨kin', ns_of glb, ⟨mb, ns_of blt, boot⟩, ⟨mc, ns_of f1, f2⟩⟩
  have env0 : Env0 P w K mg (hidT t.heap (scrH K a us ns)) callerA [] t (scrH K a us ns) :=
    ⟨rfl, modl, fun b o z => of_hidT z, Nat.le_of_eq (hidT_size _ _), trivial, fun b z => absurd (show b ∈ ([] : List Addr) from z) (by simp), held, .of_eq noG⟩
  refine codeAny_mono ((F _ kin' (ns_of glb)).run callerA [] t _ ⟨[.ref a], []⟩ [.ref a] [.ref a] _ _ rfl room env0 (bind t (.ref a)) (.cons rfl .nil) (wish _ only seq)) fun r s' z => ?_
  cases r with
  | error e => exact (noX _ e s' z).elim
  | ok fl =>
    cases fl with
    | next => exact z.elim
    | brk => exact z.elim
    | cont => exact z.elim
    | ret u =>
      obtain ⟨v, H', os, bare, un, held', rv, q⟩ := z
      cases (show v = .bl true from q)
      cases (show u = Value.bool true from rv)
      refine ⟨rfl, OldK.of_keep fun b o e => ?_, os, bare⟩
      cases c : scrH K a us ns b with
      | none => exact un.keep b o e c (fun z => absurd (show b ∈ ([] : List Addr) from z) (by simp)) (by simp)
      | some u2 =>
        obtain ⟨rfl, _, rfl⟩ := scrH_some c
        obtain ⟨e2, _⟩ := held' _ _ (un.frzs _ _ _ c)
        rw [at_a] at e
        cases e
        exact e2
theorem walkG {l : PySem.W.OpenLaw} {n k : Nat} {q : Program} {loose : List Str} {XP : (Str → Option Value) → Heap → Prop} {YP : World → Heap → Prop} {d : DefRec} {K : Params → PySem.W.Frag} {sp : PySem.W.Frag → Sp} {x : Str}
    (most : l.most = some n) (few : n ≤ sizeLine) (plain : d.params.defaults = []) (room : Room k callerA) (ky : ∀ (w : World) (h : Heap), YP w h → (K w.params).In h)
    (F : ∀ (w : World) (mg : Str → Option Value) (fa : Addr) (h : Heap), (K w.params).In h → h.Ns mainGlobals mg → mg d.name = some (.ref fa) → ∃ fd : FuncData, (∀ (s : Shared) (u : Value), BindsTo s fd ⟨[u], []⟩ [(x, u)]) ∧
      ∀ base : Heap, (K w.params).In base → base.Ns mainGlobals mg → FnG l.prog w (K w.params) mg base CX0 k fa fd [x] (sp (K w.params)))
    (wish : ∀ (K : PySem.W.Frag) (H : Hp) (a : Addr) (ns : List Int), ns.length ≤ n → Only H → SqL K H a (ns.map V.int) → sp K [.ref a] H (fun v _ => v = .bl true) fun _ _ _ => False) :
    PySem.W.WalkO q loose XP YP l.row.toRowW d [] (fun f vs => PySem.call f vs) := by
  refine Att.attach_call most plain ?_
  intro w s0 t mg mb fa o pm cd doc a us ns G Y ho hd hcd hmg at_a isI many noG
  obtain ⟨fd, bind, ok⟩ := F w mg fa _ (ky w _ Y) G.T.g hmg
  exact lawG (ky w _ Y) G.T.g G.T.b G.T.builtins G.T.nolimit noG at_a isI (Nat.le_trans many few) room ok bind (fun H o1 o2 => wish (K w.params) H a ns many o1 o2) fun _ _ _ z => z.elim
end AL
set_option Elab.async false
set_option maxRecDepth 100000
set_option maxHeartbeats 2000000
/-! Own error classes of the program: what the top writes of them, as one Bool a class. -/
namespace AL
open PySem PySem.Spec PyProof.Rows L2
/-- all that is asked of an own error class, but its row -/
def errB (K : PySem.W.Frag) (C : Addr) (fs : List Str) : Bool :=
  decide (PySem.W.findIn K (.ref C) "__setattr__" = some (some (.builtin "object.__setattr__"))) && (decide (PySem.W.subIn K (.ref C) (.type "BaseException") = some true) && (decide (PySem.W.typeIn K (.ref C) = some (.type "type")) && (PySem.W.keepIn K (.ref C) &&
  (xfB K C && (decide (PySem.W.findIn K (.ref C) "__class__" = some (some (.builtin "object.__class__"))) && (decide (PySem.W.specialIn K (.builtin "object.__class__") "__get__" = some (some (.builtin "getset_descriptor.__get__"))) &&
  (decide (PySem.W.takesIn K (.builtin "object.__class__") = some true) && (decide (PySem.W.mroIn K C (.type "object") = some true) && fs.all fun f => decide (PySem.W.findIn K (.ref C) f = some none)))))))))
structure ErrT (K : PySem.W.Frag) (mg : Str → Option Value) (x : Str) (C : Addr) (fs : List Str) : Prop where
  oex : OexC K C
  xf : XfC K C
  ex : ExcC K C
  m : mg x = some (.ref C)
  no : ∀ f ∈ fs, PySem.W.findIn K (.ref C) f = some none
theorem errT_of {K : PySem.W.Frag} {mg : Str → Option Value} {x : Str} {C : Addr} {fs : List Str} {nm q : Str} {N : Addr} {bs bm : List Value} {sn : List Str} {sub : List Value} {ab : Bool} {col : Option Bool} {dd : Option Addr} {k0 k1 k2 k3 k5 : Option Value}
    (row : K.lookup C = some (excClassObj nm q C N bs bm true sn sub ab col dd k0 k1 k2 k3 k5 "ValueError.__new__")) (bmo : PySem.HandSPX.refsVE bm = true) (m : mg x = some (.ref C)) (b : errB K C fs = true) : ErrT K mg x C fs := by
  unfold errB at b
  simp only [Bool.and_eq_true, decide_eq_true_eq, List.all_eq_true] at b
  obtain ⟨b1, b2, b3, b4, b5, b6, b7, b8, b9, b10⟩ := b
  have X := xfB_ok b5
  exact ⟨⟨⟨_, _, _, _, _, _, _, _, _, _, _, _, _, _, _, row, bmo⟩, b1, b2, b3, b4⟩, X, ⟨X.ga, X.gg, b2, X.hdC, b6, b7, b8, b9⟩, m, b10⟩
/-- its own __init__ -/
structure IniT (K : PySem.W.Frag) (qual : Str) (st : Stmt) (ps : List Str) (C fI : Addr) (fd : FuncData) : Prop where
  F : Fun K "__init__" qual st fI fd
  b : Binds K fd ps []
  fi : PySem.W.findIn K (.ref C) "__init__" = some (some (.ref fI))
  ti : PySem.W.typeIn K (.ref fI) = some (.type "function")
/-- __init__(self, f1, ..): the fields are stored -/
def spIni (C : Addr) (fs : List Str) : Sp := fun vs H Q _ => ∃ (a : Addr) (ys : List V), vs = .ref a :: ys ∧ ys.length = fs.length ∧ H a = some (exo a C none) ∧
  ∀ (dx : Addr) (H' : Hp), H dx = none → dx ≠ a → H' a = some (exo a C (some dx)) → H' dx = some (exd dx (fs.zip ys).reverse) → (∀ b, b ≠ a → b ≠ dx → H' b = H b) → Q .non H'
/-- an error of the class at C stands at e -/
def EV (H : Hp) (e C : Addr) : Prop := (∃ dx fs, H e = some (exo e C (some dx)) ∧ H dx = some (exd dx fs)) ∨ H e = some (ExO (.ref C) e)
theorem EV.same {H H' : Hp} {e C : Addr} (h : EV H e C) (s : Same H H') : EV H' e C := by
  rcases h with ⟨dx, fs, h1, h2⟩ | h
  · exact .inl ⟨dx, fs, s _ _ h1, s _ _ h2⟩
  · exact .inr (s _ _ h)
theorem vi_eq {i j : Nat} (h : decide (V.int (i : Int) = V.int (j : Int)) = true) : i = j := by
  have z := of_decide_eq_true h
  injection z with z
  omega
theorem vi_ne {i j : Nat} (h : ¬ decide (V.int (i : Int) = V.int (j : Int)) = true) : i ≠ j := fun e => h (by subst e; exact decide_eq_true rfl)
end AL
set_option Elab.async false
set_option maxRecDepth 100000
set_option maxHeartbeats 4000000
/-! Own errors raised, and caught by several clauses with a name each. -/
namespace AL
open PySem PySem.Spec PyProof.Rows L2
theorem pa_mono {X : Cx} {es : List Expr} {ta : TA} (h : PA X es ta) : PA X es (fun σ H K => ∃ K0 : List V → Hp → Prop, ta σ H K0 ∧ ∀ vs H', K0 vs H' → K vs H') :=
  ⟨fun pos pins s σ H K I ⟨K0, z, i⟩ => thn (h.run pos pins s σ H K0 I z) fun _ _ ⟨vs, H', J, r, q⟩ => ⟨vs, H', J, r, i vs H' q⟩⟩
/-- a weaker reading of what makes an exception -/
theorem pmk_imp {X : Cx} {e : Expr} {t u : L2.St → Hp → XK → Prop} (h : PMk X e t) (i : ∀ σ H Q, u σ H Q → t σ H Q) : PMk X e u := fun pins s σ H Q I z => h pins s σ H Q I (i σ H Q z)
/-- raise C(e, ..): the fields lie in the error's own dict -/
def tRaise (C : Addr) (fs : List Str) (W : WX) (ta : TA) : TS := fun _ σ H => ta σ H fun vs H1 => vs.length = fs.length ∧ ∀ d, H1 d = none → W (.ref C) (some d) σ (upd H1 d (.xd (fs.zip vs).reverse))
section
variable {X : Cx} {x : Str} {C fI : Addr} {fd : FuncData} {ps fs : List Str} {e : Expr} {es : List Expr} {ta : TA} {p pos pos2 : Pos} {k : Nat} {W : WX} {qual : Str} {st : Stmt}
theorem ps_raiseC (calm : X.calm = true) (tk : Takes X W) (T : ErrT X.K X.mg x C fs) (J : IniT X.K qual st ps C fI fd) (F : FnOk X.prog X.w X.K X.mg X.base CX0 k fI fd ps (spIni C fs)) (room : Room (k + 1) X.A) (few : fs.length ≤ 1000) (hg : Gl X x) (ha : PA X (e :: es) ta)
    (nd : (x == ("__debug__" : Str)) = false := by decide) (s1 : starEach (e :: es) X.env = (false, eval e X.env) :: starEach es X.env := by rfl) (s2 : (backTo pos (starEach es X.env)).any (·.1) = false := by rfl) :
    PS X (.Raise (some (.Call (.Name x p) (e :: es) [] pos)) none pos2) (tRaise C fs W ta) := by
  have out : Passes CX0 X fun _ _ _ => False := fun _ _ _ _ _ _ _ z => z.elim
  refine ps_raise (t := fun σ H Q => ta σ H fun vs H1 => vs.length = fs.length ∧ ∀ d, H1 d = none → Q (.ref C) (some d) (upd H1 d (.xd (fs.zip vs).reverse))) calm tk (pmk_imp (pmk_oex T.oex J.fi J.ti F room J.b .nil out hg T.m (pa_mono ha) nd s1 s2) ?_)
  intro σ H Q h
  refine ⟨_, h, ?_⟩
  rintro vs H1 ⟨many, q⟩
  refine ⟨by omega, fun a fresh => ?_⟩
  rw [List.append_nil]
  refine ⟨a, vs, rfl, many, upd_same, fun dx H' hd hne e1 e2 kp => ⟨rfl, dx, _, e1, e2, ?_, ?_⟩⟩
  · rw [upd_ne hne] at hd; exact hd
  · have hd1 : H1 dx = none := by rw [upd_ne hne] at hd; exact hd
    have same : upd (del H' a) dx (.xd (fs.zip vs).reverse) = upd H1 dx (.xd (fs.zip vs).reverse) := by
      funext b
      by_cases hb : b = dx
      · rw [hb, upd_same, upd_same]
      · rw [upd_ne hb, upd_ne hb]
        by_cases hba : b = a
        · rw [hba, del_same, fresh]
        · rw [del_ne hba, kp b hba hb, upd_ne hba]
    rw [same]
    exact q dx hd1
end
/-! ### try: .., except X as n: .., except Y as m: .. -/
/-- a clause: its class, its name's slot, its suite's reading -/
abbrev Cl := Value × Nat × (Addr → Value → Option Addr → TS)
/-- behind a suite its name is gone -/
def Ends.less (D : Ends) (i : Nat) : Ends := { nx := fun σ H => D.nx (σ.set i none) H, rt := D.rt, bk := fun σ H => D.bk (σ.set i none) H, ct := fun σ H => D.ct (σ.set i none) H }
def wNamed (K : PySem.W.Frag) (W0 : WX) (D : Ends) : List Cl → WX
  | [] => W0
  | (c, i, ts) :: r => fun cls d σ H => ∃ b, PySem.W.exmOne K cls c = some b ∧ (b = true → ∀ a, H a = none → ts a cls d (Ends.less D i) (σ.set i (some (.ref a))) H) ∧ (b = false → wNamed K W0 D r cls d σ H)
inductive Named (X : Cx) : List ExceptHandler → List Cl → Prop
  | nil : Named X [] []
  | cons {x n : Str} {c : Value} {i : Nat} {ts : Addr → Value → Option Addr → TS} {b0 : Stmt} {rest : List Stmt} {q1 q2 : Pos} {hd : List ExceptHandler} {l : List Cl} (cl : Names X x c) (sl : X.N[i]? = some n) (lo : X.env.kindOf n = some .local)
      (su : ∀ (a : Addr) (oe : Obj) (cls : Value) (d : Option Addr) (pn : List (Addr × Obj)), Zc cls d oe → (∃ vs, oe.data = .fields vs) → PSs (X.suite a ((a, oe) :: pn)) (b0 :: rest) (ts a cls d)) (r : Named X hd l) :
      Named X (.ExceptHandler (some (.Name x q1)) (some n) (b0 :: rest) q2 :: hd) ((c, i, ts) :: l)
section
variable {X : Cx} {body : List Stmt} {h0 : ExceptHandler} {hd : List ExceptHandler} {l : List Cl} {pos : Pos} {tb : WX → TS} {W0 : WX}
theorem ps_tryN (stk : X.stack = X.env :: X.outer) (frm : X.env.frame = some X.env.locals) (nd : X.N.Nodup) (tk : Takes X W0)
    (inner : ∀ (W : WX) (pn : List (Addr × Obj)) (xe : Value → Shared → Prop), Takes (X.tr pn xe) W → PassesOwn (model X.prog X.w) X.A X.env xe → PSs (X.tr pn xe) body (tb W)) (cls : Named X (h0 :: hd) l) :
    PS X (.Try body (h0 :: hd) [] [] pos) (fun D σ H => tb (wNamed X.K W0 D l) D σ H) := by
  constructor
  intro pins s σ H D I h
  have frames : X.A.frames = some (X.env :: X.outer) := by rw [I.ok.frames, stk]
  let back : Value → Shared → Prop := fun e t1 => wpAny (model X.prog X.w) X.A (noteFrame e X.env) (fun _ t2 => wpAny (model X.prog X.w) X.A (setFlight e none) (fun _ t3 => wpAny (model X.prog X.w) X.A (handleBy e X.env (h0 :: hd)) (SP X pins D) X.xe t3) X.xe t2) X.xe t1
  have caught : ∀ u t, XE (X.tr (X.pn ++ pins) back) (wNamed X.K W0 D l) u t → back u t := by
    rintro u t ⟨a, B, t0, pins0, σ1, H1, ec, ed, rfl, J0, ground, up, sky, fresh, oss, bare, wish⟩
    have J : Inv X pins σ1 H1 t0 := J0.ofTry I.ok
    have sky1 : Sky B (X.env :: X.outer) a (Zc ec ed) X.env.locals t.heap := by rw [← stk]; exact sky
    show wpAny (model X.prog X.w) X.A (noteFrame (.ref a) X.env) _ _ _
    refine Sky.land Zc.steady frames frm sky1 fun g3 fl3 up3 => ?_
    have J3 : Inv X pins σ1 H1 { t with heap := g3 } := J.landed ground fl3.1 (up.trans up3) oss bare
    obtain ⟨o3, v3, at3, z3, dat3⟩ := fl3.there
    have apart : a ∉ frs (X.env :: X.outer) := fun m => by
      obtain ⟨_, o', e', no⟩ := fl3.2.2.1.mem m
      rw [at3] at e'
      cases e'
      exact no _ dat3
    have notL : a ≠ X.env.locals := fun z => apart (List.mem_filterMap.mpr ⟨X.env, List.mem_cons_self, by rw [frm, z]⟩)
    have notF : a ∉ X.fs := fun m => by
      obtain ⟨en, hen, q⟩ := List.mem_filterMap.mp m
      exact apart (List.mem_filterMap.mpr ⟨en, List.mem_cons_of_mem _ hen, q⟩)
    have S3 := J3.suite at3 dat3 fresh notL notF
    suffices all : ∀ {hd' : List ExceptHandler} {l' : List Cl}, Named X hd' l' → wNamed X.K W0 D l' ec ed σ1 H1 → wpAny (model X.prog X.w) X.A (handleBy (.ref a) X.env hd') (SP X pins D) X.xe { t with heap := g3 } from all cls wish
    intro hd' l' nm
    induction nm with
    | nil =>
      intro w0
      refine wpAny_handleBy_nil ?_
      obtain ⟨_, _, _, oe, fv, T, oT, ts', he, hz, hdt, h1, _⟩ := id fl3
      unfold PySem.passOn
      refine wpAny_bind (wpAny_field he hdt h1 ?_)
      have notNone : ¬ ((Value.ref T == Value.none) = true) := by simp
      rw [if_neg notNone]
      have fly : wpAny (model X.prog X.w) X.A (setFlight (.ref a) X.env.frame) (fun _ t4 => wpAny (model X.prog X.w) X.A (throw (.ref a) : Sem Flow) (SP X pins D) X.xe t4) X.xe { t with heap := g3 } := by
        rw [frm]
        exact HandSPX.setFlight_upZ fl3 fun g4 held up4 => wpAny_throw (tk _ _ ⟨a, B, t0, pins, σ1, H1, ec, ed, rfl, J, ground, (up.trans up3).trans up4, .inr (.inr (by rw [stk]; exact held)), fresh, oss, bare, w0⟩)
      first
        | exact wpAny_bind (wpAny_pure (wpAny_bind fly))
        | exact wpAny_bind fly
    | @cons x n c i ts b0 rest q1 q2 hd2 l2 cl sl lo su r ih =>
      rintro ⟨b, isb, yes, no⟩
      refine wpAny_handleBy_cons (codeAny_handlers_test ?_) (by intro q; cases q)
      have LT : PySem.W.Looks (model X.prog X.w) g3 (typeOf (.ref a)) ec := fun A' Q' E' s' k' q' => wpAny_typeOf_ref (k' _ _ at3) (by rw [z3.1]; exact q')
      have LM := PySem.W.exm_one (M := model X.prog X.w) (J3.kIn) LT isb
      have asks : ∀ {Q' : Value → Shared → Prop} {E' : Value → Shared → Prop}, Q' c { t with heap := g3 } → wpAny (model X.prog X.w) (X.A.mark (some (.ref a))) (eval (.Name x q1) X.env) Q' E' { t with heap := g3 } := by
        intro Q' E' q'
        obtain ⟨gl, nodb, known⟩ := cl
        rcases known with hm | ⟨hm, hv, hnn⟩
        · exact ld_glob (X := X.suite a ((a, o3) :: (X.pn ++ pins))) S3 gl hm q' nodb
        · exact ld_blt (X := X.suite a ((a, o3) :: (X.pn ++ pins))) S3 gl hm hv q' hnn nodb
      refine asks (LM.here ?_)
      cases b with
      | false =>
        show wpAny _ X.A (handleBy (.ref a) X.env hd2) _ _ _
        exact ih (no rfl)
      | true =>
        refine codeAny_handlers_suite_as (HandSPX.lands_againZ fl3 fun g4 fl4 up4 => ?_)
        have J4 : Inv X pins σ1 H1 { t with heap := g4 } := J.landed ground fl4.1 ((up.trans up3).trans up4) oss bare
        obtain ⟨o4, v4, at4, z4, dat4⟩ := fl4.there
        have S4 := J4.suite at4 dat4 fresh notL notF
        refine store_ok (X := X.suite a ((a, o4) :: (X.pn ++ pins))) (v := .ref a) S4 nd sl (.inl lo) rfl (fun t5 S5 => ?_) (.inr lo)
        refine wpAny_mono ((su a o4 ec ed (X.pn ++ pins) z4 ⟨_, dat4⟩).run [] t5 _ H1 _ S5 (yes rfl a fresh)) (fun fl6 t6 sp6 => ?_) (fun _ _ z => False.elim z)
        have over : ∀ {σ6 : L2.St} {H6 : Hp} {Q6 : Shared → Prop}, Inv (X.suite a ((a, o4) :: (X.pn ++ pins))) [] σ6 H6 t6 → (∀ t7, Inv X pins (σ6.set i none) H6 t7 → Q6 t7) →
            wpAny (model X.prog X.w) X.A (do bindName X.env n .none; unbindBehindTheSuite X.env n q2) (fun _ t7 => Q6 t7) X.xe t6 := fun S6 q6 => gone_ok (S6.unsuite I.ok) nd sl lo q6
        cases fl6 with
        | next => obtain ⟨σ6, H6, S6, q6⟩ := sp6; exact over S6 fun t7 J7 => ⟨_, _, J7, q6⟩
        | brk => obtain ⟨σ6, H6, S6, q6⟩ := sp6; exact over S6 fun t7 J7 => ⟨_, _, J7, q6⟩
        | cont => obtain ⟨σ6, H6, S6, q6⟩ := sp6; exact over S6 fun t7 J7 => ⟨_, _, J7, q6⟩
        | ret u => obtain ⟨v6, σ6, H6, S6, r6, q6⟩ := sp6; exact over S6 fun t7 J7 => ⟨_, _, _, J7, r6, q6⟩
  refine wpAny_Try_except (wpAny_mono ((inner (wNamed X.K W0 D l) (X.pn ++ pins) back caught PassesOwn.looking).run [] s σ H D (I.toTry _) h) (fun fl t sp => ?_) (fun _ _ z => z))
  cases fl with
  | next => obtain ⟨σ', H', J', q⟩ := sp; exact wpAny_execs_nil ⟨σ', H', J'.ofTry I.ok, q⟩
  | brk => obtain ⟨σ', H', J', q⟩ := sp; exact ⟨σ', H', J'.ofTry I.ok, q⟩
  | cont => obtain ⟨σ', H', J', q⟩ := sp; exact ⟨σ', H', J'.ofTry I.ok, q⟩
  | ret u => obtain ⟨v, σ', H', J', r, q⟩ := sp; exact ⟨v, σ', H', J'.ofTry I.ok, r, q⟩
end
/-- isinstance(e, c) in the suite, e the error with its own dict -/
def rIsS (K : PySem.W.Frag) (a C dx : Addr) : List V → Hp → VK → Prop := fun vs H Q => ∃ (c : V) (u : Value) (b : Bool), vs = [.ref a, c] ∧ ClsV c u ∧ (∃ fs, H dx = some (.xd fs)) ∧ PySem.W.kitOne K (.ref C) u = some b ∧ Q (.bl b) H
theorem call_isS {X : Cx} {a C dx : Addr} {oe : Obj} {pn : List (Addr × Obj)} (T : ExcC X.K C) (hz : Zc (.ref C) (some dx) oe) (hf : ∃ vs, oe.data = .fields vs) : CallR (X.suite a ((a, oe) :: pn)) (.builtin "isinstance") (rIsS X.K a C dx) := by
  intro pins s σ H vs us Q I r h
  obtain ⟨c, u, b, rfl, kc, ⟨fs, hd⟩, e, q⟩ := h
  obtain ⟨u1, u2, rfl, r1, r2⟩ := vals2 r
  cases (show u1 = Value.ref a from r1)
  cases kc.eq r2
  obtain ⟨here, _⟩ := I.pin (a, oe) (List.mem_append.mpr (.inl List.mem_cons_self))
  obtain ⟨fv, hv⟩ := hf
  have at_d : ObjOk X.prog X.w H s.heap dx (.xd fs) := I.hok dx _ hd
  obtain ⟨mA, hns, _⟩ := at_d
  obtain ⟨od, ho, _⟩ := lookIn_ns hns
  have J : PySem.W.InstAt s.heap a oe C (some od) := ⟨here, hz.1, by unfold PySem.W.notCls; rw [hv] <;> rfl, by rw [hz.2]; exact ho⟩
  exact PySem.W.kia_one (al_kitx T) I.kIn J e (fun z => nomatch z) fun tk => ⟨.bl b, H, I.kept (t' := tk) fun _ _ z => z, rfl, q⟩
end AL
set_option Elab.async false
set_option maxRecDepth 100000
set_option maxHeartbeats 4000000
/-! isinstance of a caught own error, its class told where it is read. -/
namespace AL
open PySem PySem.Spec PyProof.Rows L2
def rIsC (K : PySem.W.Frag) (a C : Addr) (cls : Value) (d : Option Addr) : List V → Hp → VK → Prop := fun vs H Q => cls = .ref C ∧ ∃ (dx : Addr), d = some dx ∧ rIsS K a C dx vs H Q
theorem call_isC2 {X : Cx} {a C : Addr} {cls : Value} {d : Option Addr} {oe : Obj} {pn : List (Addr × Obj)} (T : ExcC X.K C) (hz : Zc cls d oe) (hf : ∃ vs, oe.data = .fields vs) : CallR (X.suite a ((a, oe) :: pn)) (.builtin "isinstance") (rIsC X.K a C cls d) := by
  intro pins s σ H vs us Q I r h
  obtain ⟨rfl, dx, rfl, h⟩ := h
  exact call_isS T hz hf pins s σ H vs us Q I r h
end AL
namespace AL
open PySem PySem.Spec PyProof.Rows L2
theorem op_eqS {X : Cx} {a : Addr} {oe : Obj} {pn : List (Addr × Obj)} (hu : X.A.units + 64 < cLine) : OpR (X.suite a ((a, oe) :: pn)) (compareOp .Eq) (rEqD X.K) := op_eqD hu
end AL
set_option Elab.async false
set_option maxRecDepth 100000
set_option exponentiation.threshold 20000
set_option maxHeartbeats 4000000
/-! int(text) and str(int) of up to 4,300 digits, // of ints of any size. -/
namespace PySem
open PySem.W PySem.Calls PySem.NumText PyProof.Rows
theorem al_wp_text {M : Model} {A : Around} {E : Value → Shared → Prop} {s : Shared} {Q : Value → Shared → Prop} {v : Value} {x : Str} {n : Int} (nd : s.heap.NoDigits)
    (rd : (int_private% "readNumeral") (numLimitOf x) 10 (numSeenOf x) = (int_private% "Numeral.value") n) (whole : ((numSeenOf x).length == (numTextOf x).length) = true) (h : Q (.int n s.toks) { s with toks := s.toks + 1 }) :
    wpAny M A ((int_private% "intFromText") v (numTextOf x) 10) Q E s := by
  by_cases short : (numSeenOf x).length ≤ 640
  · have e : numLimitOf x = 0 := if_pos short
    rw [e] at rd
    exact PySem.W.KIN.wp_text short rd whole h
  · have e : numLimitOf x = 4300 := if_neg short
    rw [e] at rd
    obtain ⟨mc, hns, hnone⟩ := nd
    obtain ⟨hp, ge, dr, tk, os⟩ := s
    have lim : ∀ {Q' : Nat → Shared → Prop}, Q' 4300 ⟨hp, ge, dr, tk, os⟩ → wpAny M A Builtin.intMaxStrDigits Q' E ⟨hp, ge, dr, tk, os⟩ := by
      intro Q' q'
      unfold Builtin.intMaxStrDigits
      refine wpAny_bind (wpAny_nsGet hns ?_)
      rw [hnone]
      exact wpAny_pure q'
    repeat (any_goals (first
      | assumption
      | (with_reducible refine wpAny_ite_false (decide_eq_false short) ?_)
      | (with_reducible refine wpAny_ite_true (decide_eq_true whole) ?_)
      | (with_reducible refine lim ?_)
      | wp_step))
    all_goals (try rw [rd])
    all_goals (try dsimp only)
    repeat (any_goals (first
      | assumption
      | (with_reducible refine wpAny_ite_true (decide_eq_true whole) ?_)
      | wp_step))

theorem al_meets_text {x : PySem.Str} {u : Tok} {n : Int} (hx : x.length ≤ sizeLine) (hn : PySem.intText? x = some n) :
    Meets (Builtin.«int.__new__» ⟨[.type "int", .str x u], []⟩) (fun _ R s => s.heap.NoDigits ∧ R (.ok (.ret (.int n s.toks))) { s with toks := s.toks + 1 }) := by
  intro prog w A R s h
  have f1 := F.conv_sub_int
  have f2 := F.madeHere_int
  have f3 := PySem.W.KIN.str_int
  have f4 := PySem.W.KIN.str_idx
  have f5 := PySem.W.KIN.str_trunc
  have f6 : typeOf (.str x u) = pure (.type "str") := rfl
  have rd : (int_private% "readNumeral") (numLimitOf x) 10 (numSeenOf x) = (int_private% "Numeral.value") n ∧ ((numSeenOf x).length == (numTextOf x).length) = true := by
    rcases readAny x hx with ⟨m, h1, h2, h3⟩ | ⟨h1, _⟩
    · rw [hn] at h1
      cases h1
      exact ⟨h3, h2⟩
    · rw [hn] at h1
      cases h1
  have kept := PySem.W.KIN.Hid.mk (And.intro rd h)
  clear rd h hn hx
  obtain ⟨hp, ge, dr, tk, os⟩ := s
  repeat (any_goals (first
    | assumption
    | ((with_reducible show wpAny _ _ ((int_private% "intFromText") _ _ _) _ _ _); refine al_wp_text kept.out.2.1 kept.out.1.1 kept.out.1.2 ?_)
    | wp_step))
  all_goals first | exact kept.out.2.2 | skip
section
variable {prog : Program} {w : World} {A : Around} {E : Value → Shared → Prop} {s : Shared} {Q : Value → Shared → Prop} {x : PySem.Str} {t : Tok} {n : Int}
theorem al_call_text (nd : s.heap.NoDigits) (hx : x.length ≤ sizeLine) (hn : PySem.intText? x = some n) (h : Q (.int n s.toks) { s with toks := s.toks + 1 }) : wpAny (model prog w) A (call (.type "int") [.str x t]) Q E s :=
  call_int_1 (al_meets_text hx hn) ⟨nd, typeIs_int _ _ _, h⟩
end
end PySem
namespace AL
open PySem PySem.Spec PyProof.Rows L2
/-- the limit on digits is as it came -/
def digB (K : PySem.W.Frag) : Bool := decide (PySem.W.nsIn K cStatics "sys.int_max_str_digits" = some none)
theorem noDigits_of {K : PySem.W.Frag} {h : Heap} (X : K.In h) (lim : h.NoLimit) (b : digB K = true) : h.NoDigits := by
  obtain ⟨mc, ns, _⟩ := lim
  refine ⟨mc, ns, ?_⟩
  have e := of_decide_eq_true b
  obtain ⟨o, es, n, ho, hd, _, look⟩ := ns
  unfold PySem.W.nsIn at e
  split at e
  · rename_i c d es' n' sl at_
    have z := (X _ _ at_).symm.trans ho
    cases z
    cases hd
    split at e
    · cases e
    · rename_i none_
      rw [← look]
      unfold nsFind findBy
      rw [← Array.find?_toList, none_]; rfl
  · cases e
section
variable {X : Cx} {k : Nat}
theorem call_int_strL (b : digB X.K = true) : CallR X (.type "int") (fun xs H Q => ∃ a n, xs = [.str a] ∧ PySem.intText? a = some n ∧ a.length ≤ sizeLine ∧ Q (.int n) H) := by
  intro pins s σ H xs us Q I r h
  obtain ⟨a, n, rfl, hn, hl, q⟩ := h
  obtain ⟨u, rfl, t, rfl⟩ := vals1 r
  exact al_call_text (noDigits_of I.kIn I.nolimit b) hl hn ⟨.int n, H, I.tok _, ⟨_, rfl⟩, q⟩
theorem call_str_intL (hd : X.A.handled = none) (b : digB X.K = true) : CallR X (.type "str") (fun xs H Q => ∃ i, xs = [.int i] ∧ i.natAbs < 10 ^ 4300 ∧ Q (.str (toString i)) H) := by
  intro pins s σ H xs us Q I r h
  obtain ⟨i, rfl, hz, q⟩ := h
  obtain ⟨u, rfl, t, rfl⟩ := vals1 r
  exact str_of_int_or hd (noDigits_of I.kIn I.nolimit b) (fun _ => ⟨.str _, H, I.tok _, ⟨_, rfl⟩, q⟩) (fun z => absurd hz (Nat.not_lt.mpr z))
/-- // of an int below 2 ^ 13500 by any divisor but 0 -/
def CDivB (i j : Int) : Prop := j ≠ 0 ∧ i.natAbs < 2 ^ 13500
theorem noPylong_big {i j : Int} (h : i.natAbs < 2 ^ 13500) : Builtin.divisionGoesByPylong i j = false := by
  have hl : i.natAbs.log2 < 13500 := log2_small (by decide) h
  have key : ((if j == 0 then 0 else j.natAbs.log2 / 30 + 1) > 300) → ¬ ((if i == 0 then 0 else i.natAbs.log2 / 30 + 1) > (if j == 0 then 0 else j.natAbs.log2 / 30 + 1) + 150) := by
    intro h1 h2
    split at h2 <;> omega
  show (decide ((if j == 0 then 0 else j.natAbs.log2 / 30 + 1) > 300) && decide ((if i == 0 then 0 else i.natAbs.log2 / 30 + 1) > (if j == 0 then 0 else j.natAbs.log2 / 30 + 1) + 150)) = false
  by_cases h1 : (if j == 0 then 0 else j.natAbs.log2 / 30 + 1) > 300
  · rw [decide_eq_false (key h1), Bool.and_false]
  · rw [decide_eq_false h1, Bool.false_and]
theorem op_fdivB : OpR X (binaryOp .FloorDiv) (rI CDivB fun i j => .int (i.fdiv j)) := by
  intro pins s σ H x y v u Q I rx ry h
  obtain ⟨i, j, rfl, rfl, ⟨hj, hi⟩, q⟩ := h
  obtain ⟨t, rfl⟩ := rx
  obtain ⟨t', rfl⟩ := ry
  exact floordiv_int hj ⟨.int _, H, I.tok _, ⟨_, rfl⟩, q⟩ (.inl (noPylong_big hi))
end
end AL
set_option Elab.async false
set_option maxRecDepth 100000
set_option exponentiation.threshold 70000
set_option maxHeartbeats 4000000
/-! {i} of an int up to 4,300 digits; // where one side is small. -/
namespace PySem
open PySem.W PySem.Calls PySem.NumText PyProof.Rows PySem.Builtin PySem.Builtin.Int
theorem al_repr_at {a : Int} {t : Tok} (h : a.natAbs < 10 ^ 4300) : GivesAt (fun s => s.heap.NoDigits) (Builtin.«int.__repr__» ⟨[.int a t], []⟩) (.str (toString a)) := by
  intro prog w A R s hn hq
  unfold Builtin.«int.__repr__»
  show wpAny _ _ (do let r ← Builtin.overDigitLimit? a; _) _ _ s
  refine wpAny_bind (overDigitLimit_any hn (fun hlt => ?_) (fun hge => absurd h (Nat.not_lt.mpr hge)))
  exact wpAny_bind (wpAny_mkStr (wpAny_pure hq.2) (int_text_fits10 hlt))
theorem al_format_at {a : Int} {t u : Tok} (h : a.natAbs < 10 ^ 4300) : GivesAt (fun s => s.heap.NoDigits) (Builtin.«int.__format__» ⟨[.int a t, .str Str.empty u], []⟩) (.str (toString a)) := by
  intro prog w A R s hn hq
  show wpAny _ _ (do let _kind ← typeNameOf (.str Str.empty u); (do rule "int.format.empty"; again (.builtin "int.__repr__" ⟨[.int a t], []⟩))) _ _ s
  refine wpAny_bind (wpAny_typeNameOf (typeIs_str s _ _) (by decide) fun n => wpAny_bind (wpAny_rule ?_))
  exact wpAny_pure ⟨plainId_quiet (by decide +kernel) _, codeAny_builtin F.entry_int_repr (by rw [Around.under_plainId (by decide +kernel)]; exact al_repr_at h prog w A R s hn hq)⟩
section
variable {w : World} {prog : Program} {s : Shared} {E Q : Value → Shared → Prop} {A : Around} {i : Int} {t : Tok}
theorem al_formatField (free : s.heap.NoDigits) (short : i.natAbs < 10 ^ 4300) (goal : Q (.str (toString i) (s.toks + 1)) { s with toks := s.toks + 1 + 1 }) : wpAny (model prog w) A (formatField (.int i t) Str.empty) Q E s := by
  have text : ∀ s' : Shared, s'.TypeIs (.int i t) "int" := fun s' => typeIs_int s' i t
  refine (wpAny_holding ?_ : wpAny (model prog w) A (holding [.int i t] (pyFormat (.int i t) Str.empty)) Q E s)
  unfold pyFormat
  refine wpAny_bind (wpAny_mkStr (wpAny_bind (m := callSpecial? (.int i t) (Str.ofString "__format__") [.str Str.empty s.toks]) (wpAny_callSpecial?_slot (name := Str.ofString "__format__") (text _) F.slot_int_format
    (call_givesAt F.slot_int_format (text _) F.entry_int_format (F.args_int_format_2 _ _) (al_format_at short) free ⟨int_text_fits10 short, ?_⟩))) (by decide))
  exact (wpAny_bind (wpAny_isInstance (typeIs_str _ _ _) isSubtype_str_str (wpAny_pure goal)) : wpAny (model prog w) A (do if ← isInstance (.str (toString i) (s.toks + 1)) (.type "str") then return (.str (toString i) (s.toks + 1)) else _) Q E _)
end
end PySem
namespace AL
open PySem PySem.Spec PyProof.Rows L2
section
variable {X : Cx}
/-- {i}, i an int -/
def tFmtL (te : TE) : TE := fun σ H Q => te σ H fun x H1 => (∃ y : Str, x = .str y ∧ y.length ≤ sizeLine ∧ Q (.str y) H1) ∨ ∃ i : Int, x = .int i ∧ i.natAbs < 10 ^ 4300 ∧ Q (.str (toString i)) H1
theorem pe_fmtL {e : Expr} {te : TE} {pos : Pos} (b : digB X.K = true) (he : PE X e te) : PE X (.FormattedValue e (-1) none pos) (tFmtL te) := by
  refine ⟨fun pins s σ H Q I h => ?_⟩
  refine wpAny_FormattedValue_plain (thn (he.run pins s σ H _ I h) fun v s1 hv => ?_)
  obtain ⟨x, H1, I1, r1, q⟩ := hv
  rcases q with ⟨y, rfl, hz, q⟩ | ⟨i, rfl, hz, q⟩
  · obtain ⟨t, rfl⟩ := r1
    exact wpAny_formatField_str ⟨.str y, H1, I1, ⟨t, rfl⟩, q⟩ ⟨.str y, H1, I1.tok _, ⟨_, rfl⟩, q⟩ hz
  · obtain ⟨t, rfl⟩ := r1
    exact al_formatField (noDigits_of I1.kIn I1.nolimit b) hz ⟨.str (toString i), H1, I1.tok _, ⟨_, rfl⟩, q⟩
/-- //: the dividend below 2 ^ 13500, or the divisor below 2 ^ 8000 -/
def CDivC (i j : Int) : Prop := j ≠ 0 ∧ (i.natAbs < 2 ^ 13500 ∨ j.natAbs < 2 ^ 8000)
theorem noPylong_low {i j : Int} (h : j.natAbs < 2 ^ 8000) : Builtin.divisionGoesByPylong i j = false := by
  have hl : j.natAbs.log2 < 8000 := log2_small (by decide) h
  have key : ¬ ((if j == 0 then 0 else j.natAbs.log2 / 30 + 1) > 300) := by
    split <;> omega
  show (decide ((if j == 0 then 0 else j.natAbs.log2 / 30 + 1) > 300) && decide ((if i == 0 then 0 else i.natAbs.log2 / 30 + 1) > (if j == 0 then 0 else j.natAbs.log2 / 30 + 1) + 150)) = false
  rw [decide_eq_false key, Bool.false_and]
theorem op_fdivC : OpR X (binaryOp .FloorDiv) (rI CDivC fun i j => .int (i.fdiv j)) := by
  intro pins s σ H x y v u Q I rx ry h
  obtain ⟨i, j, rfl, rfl, ⟨hj, hi⟩, q⟩ := h
  obtain ⟨t, rfl⟩ := rx
  obtain ⟨t', rfl⟩ := ry
  rcases hi with hi | hi
  · exact floordiv_int hj ⟨.int _, H, I.tok _, ⟨_, rfl⟩, q⟩ (.inl (noPylong_big hi))
  · exact floordiv_int hj ⟨.int _, H, I.tok _, ⟨_, rfl⟩, q⟩ (.inl (noPylong_low hi))
end
end AL
set_option Elab.async false
set_option maxRecDepth 100000
set_option exponentiation.threshold 70000
set_option maxHeartbeats 4000000
/-! Texts as rows of codes: slices, prefixes, repeated texts, tuple(text). -/
namespace AL
open PySem PySem.Spec PyProof.Rows L2
abbrev S (l : List Nat) : Str := ⟨l.toArray⟩
theorem S_of (z : Str) : ∃ l, z = S l := ⟨z.cps.toList, by cases z; rfl⟩
theorem S_len (l : List Nat) : (S l).length = l.length := by simp [S, Str.length]
theorem S_tl (l : List Nat) : (S l).cps.toList = l := rfl
theorem S_inj {a b : List Nat} : S a = S b ↔ a = b := ⟨fun h => congrArg (fun x : Str => x.cps.toList) h, fun h => by rw [h]⟩
theorem cut_mid (l : List Nat) (i j : Nat) : cutS (S l) (some (i : Int)) (some (j : Int)) = S ((l.take j).drop i) := by
  unfold cutS
  rw [HT.sIx_nat, HT.sIx_nat, S_len]
  refine S_inj.mpr ?_
  show (l.drop (min i l.length)).take (min j l.length - min i l.length) = _
  rw [← List.drop_take]
  have e1 : l.take (min j l.length) = l.take j := by
    refine (List.take_eq_take_iff).mpr ?_
    omega
  rw [e1]
  by_cases h : i ≤ l.length
  · rw [Nat.min_eq_left h]
  · rw [Nat.min_eq_right (by omega), List.drop_eq_nil_of_le (by rw [List.length_take]; omega), List.drop_eq_nil_of_le (by rw [List.length_take]; omega)]
theorem cut_to (l : List Nat) (j : Nat) : cutS (S l) none (some (j : Int)) = S (l.take j) := by
  have e := cut_mid l 0 j
  have z : HT.sIx (S l).length 0 none = HT.sIx (S l).length 0 (some ((0 : Nat) : Int)) := by rw [HT.sIx_nat]; simp [HT.sIx]
  unfold cutS at e ⊢
  rw [z, e, List.drop_zero]
theorem minusS : ("-" : Str) = S [45] := by kernel_rfl
theorem slashS : ("/" : Str) = S [47] := by kernel_rfl
theorem emptyS : ("" : Str) = S [] := by kernel_rfl
theorem digitsS : ("0123456789" : Str) = S [48, 49, 50, 51, 52, 53, 54, 55, 56, 57] := by kernel_rfl
/-- whether a row of codes begins with a minus -/
def neg (l : List Nat) : Bool := decide (l[0]? = some 45)
theorem starts_minus (l : List Nat) : Txt.startswith (S l) "-" = neg l := by
  rw [minusS]
  unfold Txt.startswith neg
  rw [StrLaws.subAt_eq, S_len, S_len, S_tl, S_tl]
  cases l with
  | nil => rfl
  | cons c l =>
    by_cases h : c = 45
    · subst h; simp
    · simp [h]
theorem strip_minus {l : List Nat} (h : ∀ c, (l.drop (neg l).toNat)[0]? = some c → c ≠ 45) : Txt.lstripChars (S l) "-" = S (l.drop (neg l).toNat) := by
  rw [minusS]
  have key : ∀ m : List Nat, (∀ c, m[0]? = some c → c ≠ 45) → m.takeWhile ((S [45]).cps.contains) = [] := by
    intro m hm
    cases m with
    | nil => rfl
    | cons c m =>
      have : c ≠ 45 := hm c rfl
      have z : ((S [45]).cps.contains c) = false := by
        show (#[45] : Array Nat).contains c = false
        simp [this]
      rw [List.takeWhile_cons, z]; rfl
  unfold Txt.lstripChars Txt.stripBy
  cases l with
  | nil => rfl
  | cons c l =>
    by_cases hc : c = 45
    · subst hc
      have hn : neg (45 :: l) = true := by simp [neg]
      rw [hn] at h ⊢
      have hk := key l (fun d e => h d e)
      have lo : stripLo ((S [45]).cps.contains) true (S (45 :: l)) = 1 := by
        show ((45 :: l).takeWhile _).length = 1
        rw [List.takeWhile_cons, show ((S [45]).cps.contains 45) = true by show (#[45] : Array Nat).contains 45 = true; simp, if_pos rfl, hk]; rfl
      have ne : stripSame ((S [45]).cps.contains) true false (S (45 :: l)) = false := by
        unfold stripSame
        rw [lo]; rfl
      rw [ne, if_neg (by decide)]
      unfold stripped
      rw [lo]
      show Builtin.Str.strSub (S (45 :: l)) 1 (S (45 :: l)).length = S l
      rw [S_len, strSub_mk]
      refine S_inj.mpr ?_
      show List.take _ ((45 :: l).drop 1) = l
      simp
    · have hn : neg (c :: l) = false := by simp [neg, hc]
      rw [hn] at h ⊢
      have hk := key (c :: l) (fun d e => by simp at e; rw [← e]; exact hc)
      have same : stripSame ((S [45]).cps.contains) true false (S (c :: l)) = true := by
        unfold stripSame
        have lo : stripLo ((S [45]).cps.contains) true (S (c :: l)) = 0 := by
          show ((c :: l).takeWhile _).length = 0
          rw [hk]; rfl
        rw [lo]
        simp [stripHi]
      rw [same, if_pos rfl]
      rfl
theorem pair_ix {α β : Type} {F : α → β → Prop} : ∀ {xs : List α} {ys : List β}, xs.length = ys.length → (∀ (j : Nat) x y, xs[j]? = some x → ys[j]? = some y → F x y) → Paired F xs ys
  | [], [], _, _ => .nil
  | [], _ :: _, h, _ => by cases h
  | _ :: _, [], h, _ => by cases h
  | x :: xs, y :: ys, h, k => .cons (k 0 x y rfl rfl) (pair_ix (Nat.succ.inj h) fun j a b e f => k (j + 1) a b e f)
/-! ### the rules -/
section
variable {X : Cx}
/-- z * k, z a short text -/
theorem op_mulS : OpR X (binaryOp .Mult) (fun x y H Q => ∃ (z : Str) (k : Nat), x = .str z ∧ y = .int (k : Int) ∧ z.length ≤ 10 ∧ k ≤ 10000 ∧ ∀ z' : Str, z'.length ≤ z.length * k → Q (.str z') H) := by
  intro pins s σ H x y v u Q I rx ry h
  obtain ⟨z, k, rfl, rfl, hz, hk, q⟩ := h
  obtain ⟨t, rfl⟩ := rx
  obtain ⟨t', rfl⟩ := ry
  have hfit : z.length * k ≤ 100000 := Nat.le_trans (Nat.mul_le_mul hz hk) (by decide)
  refine SB.mul ⟨?_, fun h1 _ => ?_, fun _ _ => ?_⟩ fun tk n => ⟨.str _, H, I.tok _, ⟨_, rfl⟩, q _ ?_⟩
  · rw [Bool.or_eq_false_iff]
    exact ⟨decide_eq_false (by omega), decide_eq_false (by omega)⟩
  · have hk0 : 0 < (k : Int) := by omega
    have : ((2 : Int) ^ 63 - 1) / (k : Int) ≥ 10 := by
      rw [ge_iff_le, Int.le_ediv_iff_mul_le hk0]
      have : (10 : Int) * k ≤ 100000 := by omega
      exact Int.le_trans this (by decide)
    omega
  · unfold Builtin.Str.tooLong
    rw [Int.toNat_natCast]
    refine decide_eq_false (Nat.not_lt.mpr (Nat.le_trans hfit (by decide)))
  · unfold Txt.mul
    split
    · exact Nat.zero_le _
    · split
      · rename_i h1 h2
        have hk1 : 1 ≤ k := by omega
        exact Nat.le_mul_of_pos_right _ hk1
      · rw [Int.toNat_natCast]
        have key : ∀ (n : Nat) (acc : Array Nat), ((List.replicate n z.cps).foldl (· ++ ·) acc).size = acc.size + n * z.cps.size := by
          intro n
          induction n with
          | zero => intro acc; simp
          | succ n ih => intro acc; rw [List.replicate_succ, List.foldl_cons, ih, Array.size_append, Nat.succ_mul]; omega
        show ((List.replicate k z.cps).foldl (· ++ ·) #[]).size ≤ z.length * k
        rw [key, Nat.mul_comm k]
        show 0 + z.cps.size * k ≤ z.cps.size * k
        omega
/-- tuple(text) -/
theorem call_tuple_text (hh : X.A.handled = none) : CallR X (.type "tuple") (fun xs H Q => ∃ l : List Nat, xs = [.str (S l)] ∧ l.length ≤ sizeLine ∧ ∀ p, H p = none → Q (.ref p) (upd H p (.tup (l.map fun c => V.str (S [c]))))) := by
  intro pins s σ H xs us Q I r h
  obtain ⟨l, rfl, hl, q⟩ := h
  obtain ⟨u, rfl, t, rfl⟩ := vals1 r
  have hsz : (S l).cps.size = l.length := by simp [S]
  refine call_tuple_str hh _ _ (fun h' tk acc kp it => ?_) (by rw [hsz]; exact hl)
  have gone : s.heap.get? h'.objs.size = none := by
    cases e : s.heap.get? h'.objs.size with
    | none => rfl
    | some o =>
      have z := kp _ _ e
      rw [Heap.get?_none_of_le (Nat.le_refl _)] at z
      cases z
  have fresh : H h'.objs.size = none := I.hok.gone gone
  have vals : Vals (l.map fun c => V.str (S [c])) acc.toList := by
    obtain ⟨i1, i2⟩ := it
    rw [hsz] at i1
    refine pair_ix (by rw [List.length_map]; exact i1.symm.trans Array.length_toList.symm) fun j x y hx hy => ?_
    rw [List.getElem?_map] at hx
    rw [Array.getElem?_toList] at hy
    obtain ⟨c, u, e1, e2⟩ := i2 j y hy
    have e1' : l[j]? = some c := by simpa [S] using e1
    rw [e1'] at hx
    cases hx
    exact ⟨u, e2⟩
  have I2 : Inv X pins σ (upd H h'.objs.size (.tup (l.map fun c => V.str (S [c])))) { s with heap := h'.push { cls := .type "tuple", data := .seq acc }, toks := tk } :=
    I.laidN (t' := tk) (fun b o e => Heap.get?_push_of_some _ (kp b o e)) gone fresh (show ObjOk X.prog X.w _ _ _ (.tup _) from ⟨by rw [List.length_map]; exact hl, acc.toList, vals, by
      rw [show acc.toList.toArray = acc by simp]; exact IsTup.new _ _⟩)
  exact ⟨.ref h'.objs.size, _, I2, rfl, q _ fresh⟩
end
end AL
set_option Elab.async false
set_option maxRecDepth 100000
set_option exponentiation.threshold 70000
/-! What a text of a ratio is read as. -/
namespace AL
open PySem L2 PySem.NumText
def isD (c : Nat) : Bool := decide (48 ≤ c) && decide (c ≤ 57)
theorem isD_mem (c : Nat) : isD c = decide (c ∈ [48, 49, 50, 51, 52, 53, 54, 55, 56, 57]) := by
  unfold isD
  by_cases h : 48 ≤ c ∧ c ≤ 57
  · have : c ∈ [48, 49, 50, 51, 52, 53, 54, 55, 56, 57] := by simp; omega
    simp [h.1, h.2, this]
  · have : ¬ c ∈ [48, 49, 50, 51, 52, 53, 54, 55, 56, 57] := by simp; omega
    simp [this]; omega
/-- where the digits that begin at i end -/
def dEnd (l : List Nat) (i : Nat) : Nat := i + ((l.drop i).takeWhile isD).length
theorem dEnd_ge (l : List Nat) (i : Nat) : i ≤ dEnd l i := Nat.le_add_right _ _
theorem tw_le {p : Nat → Bool} : ∀ l : List Nat, (l.takeWhile p).length ≤ l.length
  | [] => Nat.le_refl _
  | c :: l => by
    rw [List.takeWhile_cons]
    split
    · exact Nat.succ_le_succ (tw_le l)
    · exact Nat.zero_le _
theorem tw_at {p : Nat → Bool} : ∀ (l : List Nat) (j : Nat) (c : Nat), j < (l.takeWhile p).length → l[j]? = some c → p c = true
  | [], j, c, h, _ => by cases h
  | d :: l, j, c, h, e => by
    rw [List.takeWhile_cons] at h
    split at h
    · rename_i hd
      cases j with
      | zero => cases e; exact hd
      | succ j => exact tw_at l j c (Nat.lt_of_succ_lt_succ h) e
    · cases h
theorem tw_end {p : Nat → Bool} : ∀ (l : List Nat) (c : Nat), l[(l.takeWhile p).length]? = some c → p c = false
  | [], c, e => by cases e
  | d :: l, c, e => by
    rw [List.takeWhile_cons] at e
    split at e
    · exact tw_end l c e
    · rename_i hd
      cases e
      exact Bool.eq_false_iff.mpr hd
theorem dEnd_le {l : List Nat} {i : Nat} (h : i ≤ l.length) : dEnd l i ≤ l.length := by
  have := tw_le (p := isD) (l.drop i)
  rw [List.length_drop] at this
  unfold dEnd; omega
theorem dEnd_in {l : List Nat} {i j c : Nat} (h0 : i ≤ j) (h : j < dEnd l i) (e : l[j]? = some c) : isD c = true := by
  refine tw_at (l.drop i) (j - i) c (by unfold dEnd at h; omega) ?_
  rw [List.getElem?_drop, show i + (j - i) = j by omega]
  exact e
theorem dEnd_out {l : List Nat} {i c : Nat} (e : l[dEnd l i]? = some c) : isD c = false := by
  refine tw_end (l.drop i) c ?_
  rw [List.getElem?_drop]
  exact e
/-- the row of digits from i on -/
def rowAt (l : List Nat) (i j : Nat) : List Nat := (l.take j).drop i
theorem rowAt_len {l : List Nat} {i j : Nat} (h : j ≤ l.length) : (rowAt l i j).length = j - i := by
  unfold rowAt
  rw [List.length_drop, List.length_take]; omega
theorem rowAt_digits {l : List Nat} {i : Nat} : AllDigits (rowAt l i (dEnd l i)) := by
  intro c hc
  obtain ⟨j, hj⟩ := List.mem_iff_getElem?.mp hc
  unfold rowAt at hj
  rw [List.getElem?_drop, List.getElem?_take] at hj
  split at hj
  · have := dEnd_in (Nat.le_add_right i j) (by assumption) hj
    unfold isD at this
    simpa using this
  · cases hj
inductive Res | text (c : Nat) | large (n : Nat) | ratio (p q : Int)
/-- the first sign's place behind a minus -/
def fst0 (l : List Nat) : Nat := if neg l = true then 1 else 0
def mid0 (l : List Nat) : Nat := dEnd l (fst0 l)
def end0 (l : List Nat) : Nat := dEnd l (mid0 l + 1)
def slash0 (l : List Nat) : Bool := decide (l[mid0 l]? = some 47)
def sgn (l : List Nat) (n : Int) : Int := if neg l = true then -n else n
def topV (l : List Nat) : Nat := digitsVal (rowAt l (fst0 l) (mid0 l))
def botV (l : List Nat) : Nat := digitsVal (rowAt l (mid0 l + 1) (end0 l))
def red (a b : Nat) : Int × Int := (((a / Nat.gcd a b : Nat) : Int), ((b / Nat.gcd a b : Nat) : Int))
def res (l : List Nat) : Res :=
  if mid0 l = fst0 l then .text (fst0 l + 1) else
  if slash0 l = true then
    if end0 l = mid0 l + 1 then .text (end0 l + 1) else
    if end0 l < l.length then .text (end0 l + 1) else
    if 4000 < mid0 l - fst0 l then .large (mid0 l - fst0 l) else
    if 4000 < end0 l - (mid0 l + 1) then .large (end0 l - (mid0 l + 1)) else
    if botV l = 0 then .text (mid0 l + 2) else .ratio (sgn l (red (topV l) (botV l)).1) (red (topV l) (botV l)).2
  else if mid0 l < l.length then .text (mid0 l + 1) else
    if 4000 < mid0 l - fst0 l then .large (mid0 l - fst0 l) else .ratio (sgn l (topV l)) 1
/-- the first wrong column, 0 if there is none -/
def wcol (l : List Nat) : Nat :=
  if mid0 l = fst0 l then fst0 l + 1 else
  if slash0 l = true then if end0 l = mid0 l + 1 ∨ end0 l < l.length then end0 l + 1 else 0
  else if mid0 l < l.length then mid0 l + 1 else 0
theorem fst0_le (l : List Nat) : fst0 l ≤ l.length := by
  unfold fst0 neg
  cases l with
  | nil => decide
  | cons c l => split <;> simp
theorem mid0_le (l : List Nat) : mid0 l ≤ l.length := dEnd_le (fst0_le l)
theorem fst_mid (l : List Nat) : fst0 l ≤ mid0 l := dEnd_ge _ _
theorem slash_lt {l : List Nat} (h : slash0 l = true) : mid0 l < l.length := by
  have := of_decide_eq_true h
  exact (List.getElem?_eq_some_iff.mp this).1
theorem end0_le {l : List Nat} (h : slash0 l = true) : end0 l ≤ l.length := dEnd_le (slash_lt h)
theorem res_bad {l : List Nat} (h : 0 < wcol l) : res l = .text (wcol l) := by
  unfold wcol at h ⊢
  unfold res
  by_cases h1 : mid0 l = fst0 l
  · rw [if_pos h1, if_pos h1]
  · rw [if_neg h1] at h ⊢
    rw [if_neg h1]
    by_cases h2 : slash0 l = true
    · rw [if_pos h2] at h ⊢
      rw [if_pos h2]
      by_cases h3 : end0 l = mid0 l + 1
      · rw [if_pos h3, if_pos (.inl h3)]
      · rw [if_neg h3]
        by_cases h4 : end0 l < l.length
        · rw [if_pos h4, if_pos (.inr h4)]
        · rw [if_neg (by omega)] at h
          omega
    · rw [if_neg h2] at h ⊢
      rw [if_neg h2]
      by_cases h4 : mid0 l < l.length
      · rw [if_pos h4, if_pos h4]
      · rw [if_neg h4] at h
        omega
/-- a text without a wrong column -/
theorem wcol0 {l : List Nat} (h : wcol l = 0) : fst0 l < mid0 l ∧ ((slash0 l = true ∧ mid0 l + 1 < end0 l ∧ end0 l = l.length) ∨ (slash0 l = false ∧ mid0 l = l.length)) := by
  have a1 := fst_mid l
  have a2 := mid0_le l
  unfold wcol at h
  by_cases h1 : mid0 l = fst0 l
  · rw [if_pos h1] at h; omega
  · rw [if_neg h1] at h
    refine ⟨by omega, ?_⟩
    by_cases h2 : slash0 l = true
    · rw [if_pos h2] at h
      have a3 := end0_le h2
      have a4 : mid0 l + 1 ≤ end0 l := dEnd_ge _ _
      by_cases h3 : end0 l = mid0 l + 1 ∨ end0 l < l.length
      · rw [if_pos h3] at h; omega
      · exact .inl ⟨h2, by omega, by omega⟩
    · rw [if_neg h2] at h
      by_cases h4 : mid0 l < l.length
      · rw [if_pos h4] at h; omega
      · exact .inr ⟨Bool.eq_false_iff.mpr h2, by omega⟩
theorem res_ok {l : List Nat} (h : wcol l = 0) : res l =
    if 4000 < mid0 l - fst0 l then .large (mid0 l - fst0 l) else
    if slash0 l = true then if 4000 < end0 l - (mid0 l + 1) then .large (end0 l - (mid0 l + 1)) else
      if botV l = 0 then .text (mid0 l + 2) else .ratio (sgn l (red (topV l) (botV l)).1) (red (topV l) (botV l)).2
    else .ratio (sgn l (topV l)) 1 := by
  obtain ⟨h1, h2⟩ := wcol0 h
  unfold res
  rw [if_neg (by omega)]
  rcases h2 with ⟨e, h3, h4⟩ | ⟨e, h3⟩
  · rw [if_pos e, if_pos e, if_neg (by omega), if_neg (by omega)]
  · rw [if_neg (by rw [e]; decide), if_neg (by omega)]
    split
    · rfl
    · rw [if_neg (by rw [e]; decide)]
/-! ### Euclid's steps -/
def pairOk (a b : Nat) (i x y : Nat) : Prop := Nat.gcd x y = Nat.gcd a b ∧ (i = 0 → x = a ∧ y = b) ∧ (0 < i → y ≤ x ∧ x * y * 2 ^ (i - 1) ≤ a * b)
theorem pairOk0 (a b : Nat) : pairOk a b 0 a b := ⟨rfl, fun _ => ⟨rfl, rfl⟩, fun h => absurd h (Nat.lt_irrefl _)⟩
theorem pairOk_step {a b i x y : Nat} (h : pairOk a b i x y) (hy : y ≠ 0) : pairOk a b (i + 1) y (x % y) := by
  obtain ⟨h1, h2, h3⟩ := h
  have hlt : x % y < y := Nat.mod_lt _ (by omega)
  refine ⟨?_, fun z => by omega, fun _ => ⟨Nat.le_of_lt hlt, ?_⟩⟩
  · rw [← h1, Nat.gcd_comm x y, Nat.gcd_rec y x, Nat.gcd_comm]
  · rw [Nat.add_sub_cancel]
    by_cases hi : i = 0
    · obtain ⟨rfl, rfl⟩ := h2 hi
      subst hi
      rw [Nat.pow_zero, Nat.mul_one, Nat.mul_comm x y]
      exact Nat.mul_le_mul_left _ (Nat.mod_le _ _)
    · obtain ⟨h4, h5⟩ := h3 (by omega)
      obtain ⟨j, rfl⟩ : ∃ j, i = j + 1 := ⟨i - 1, by omega⟩
      rw [Nat.add_sub_cancel] at h5
      have half : 2 * (x % y) ≤ x := by
        have e := Nat.div_add_mod x y
        have hq : 1 ≤ x / y := (Nat.le_div_iff_mul_le (by omega)).mpr (by omega)
        have hm : y ≤ y * (x / y) := Nat.le_mul_of_pos_right _ hq
        omega
      refine Nat.le_trans ?_ h5
      rw [Nat.pow_succ, Nat.mul_comm (2 ^ j) 2, ← Nat.mul_assoc]
      refine Nat.mul_le_mul_right _ ?_
      rw [Nat.mul_assoc, Nat.mul_comm (x % y) 2, Nat.mul_comm x y]
      exact Nat.mul_le_mul_left _ half
theorem pairOk_zero {a b x y : Nat} (h : pairOk a b 60000 x y) (ha : a < 10 ^ 6000) (hb : b < 10 ^ 6000) : y = 0 := by
  obtain ⟨_, _, h3⟩ := h
  obtain ⟨h4, h5⟩ := h3 (by decide)
  by_cases hz : y = 0
  · exact hz
  · exfalso
    have hab : a * b < 10 ^ 6000 * 10 ^ 6000 := Nat.mul_lt_mul_of_lt_of_lt ha hb
    have hxy : 1 ≤ x * y := Nat.mul_pos (by omega) (by omega)
    have : 1 * 2 ^ (60000 - 1) ≤ x * y * 2 ^ (60000 - 1) := Nat.mul_le_mul_right _ hxy
    have big : (10 : Nat) ^ 6000 * 10 ^ 6000 ≤ 1 * 2 ^ (60000 - 1) := by decide +kernel
    omega
theorem pairOk_end {a b i x : Nat} (h : pairOk a b i x 0) : x = Nat.gcd a b := by
  have := h.1
  rwa [Nat.gcd_zero_right] at this
end AL
set_option Elab.async false
set_option maxRecDepth 100000
set_option exponentiation.threshold 70000
/-! The texts within a text of a ratio. -/
namespace AL
open PySem L2 PySem.NumText
def N4 : Nat := 10 ^ 4000
def N6 : Nat := 10 ^ 6000
theorem pow4000 : N4 < 2 ^ 13500 := by unfold N4; decide +kernel
theorem pow46 : N4 ≤ N6 := Nat.pow_le_pow_right (by decide) (by decide)
theorem no_slash {l : List Nat} : ∀ c ∈ l.take (mid0 l), c ≠ 47 := by
  intro c hc
  obtain ⟨j, hj⟩ := List.mem_iff_getElem?.mp hc
  rw [List.getElem?_take] at hj
  split at hj
  · rename_i hlt
    by_cases h : fst0 l ≤ j
    · have := dEnd_in h hlt hj
      intro e
      rw [e] at this
      exact absurd this (by decide)
    · have hf : fst0 l = 1 ∧ neg l = true := by
        unfold fst0 at h ⊢
        by_cases hn : neg l = true
        · exact ⟨if_pos hn, hn⟩
        · rw [if_neg hn] at h; omega
      have hj0 : j = 0 := by omega
      subst hj0
      have := of_decide_eq_true hf.2
      rw [this] at hj
      cases hj
      decide
  · cases hj
theorem S_app (a b : List Nat) : S a ++ S b = S (a ++ b) := TL.ext_tl (TL.tl_append (S a) (S b))
theorem part_slash {l : List Nat} (e : slash0 l = true) : Txt.partition (S l) "/" = (S (l.take (mid0 l)), ("/" : Str), S (l.drop (mid0 l + 1))) := by
  have hs := of_decide_eq_true e
  have hl : l = l.take (mid0 l) ++ ([47] ++ l.drop (mid0 l + 1)) := by
    have h1 : l.drop (mid0 l) = 47 :: l.drop (mid0 l + 1) := by
      obtain ⟨h2, h3⟩ := List.getElem?_eq_some_iff.mp hs
      rw [List.drop_eq_getElem_cons h2, h3]
    rw [List.singleton_append, ← h1, List.take_append_drop]
  have := TL.partition_app (y := S [47]) (s := 47) (S := []) rfl (a := S (l.take (mid0 l))) (b := S (l.drop (mid0 l + 1))) (fun h => no_slash 47 h rfl)
  rw [S_app, S_app, List.append_assoc, ← hl] at this
  rw [slashS]
  exact this
theorem part_none {l : List Nat} (e : mid0 l = l.length) : Txt.partition (S l) "/" = (S l, Str.empty, Str.empty) := by
  rw [slashS]
  refine TL.partition_none (y := S [47]) (s := 47) (S := []) rfl fun h => ?_
  have h' : 47 ∈ l := h
  refine no_slash (l := l) 47 ?_ rfl
  rw [e, List.take_length]
  exact h'
theorem fst_eq (l : List Nat) : fst0 l = (neg l).toNat := by
  unfold fst0
  cases neg l <;> rfl
theorem neg_take {l : List Nat} (h : fst0 l < mid0 l) : neg (l.take (mid0 l)) = neg l := by
  unfold neg
  rw [List.getElem?_take, if_pos (by omega)]
theorem head_top {l : List Nat} (h : fst0 l < mid0 l) : ∃ c, (rowAt l (fst0 l) (mid0 l))[0]? = some c ∧ isD c = true := by
  have hl : fst0 l < l.length := Nat.lt_of_lt_of_le h (mid0_le l)
  have e : (rowAt l (fst0 l) (mid0 l))[0]? = some l[fst0 l] := by
    unfold rowAt
    rw [List.getElem?_drop, List.getElem?_take, Nat.add_zero, if_pos h, List.getElem?_eq_getElem hl]
  exact ⟨_, e, dEnd_in (Nat.le_refl _) h (List.getElem?_eq_getElem hl)⟩
theorem strip_top {l : List Nat} (h : fst0 l < mid0 l) : Txt.lstripChars (S (l.take (mid0 l))) "-" = S (rowAt l (fst0 l) (mid0 l)) := by
  obtain ⟨c, hc, hd⟩ := head_top h
  have e : (l.take (mid0 l)).drop (neg (l.take (mid0 l))).toNat = rowAt l (fst0 l) (mid0 l) := by
    rw [neg_take h, ← fst_eq]; rfl
  rw [strip_minus, e]
  intro d hdd
  rw [e, hc] at hdd
  cases hdd
  intro z
  rw [z] at hd
  exact absurd hd (by decide)
theorem row_int {l : List Nat} {i : Nat} (h : i < dEnd l i) (hi : i ≤ l.length) (h4 : dEnd l i - i ≤ 4000) : intText? (S (rowAt l i (dEnd l i))) = some ((digitsVal (rowAt l i (dEnd l i)) : Nat) : Int) := by
  have hlen := rowAt_len (l := l) (i := i) (dEnd_le hi)
  refine intText_digits rowAt_digits (fun z => ?_) ?_
  · have : (rowAt l i (dEnd l i)).length = 0 := congrArg List.length z
    omega
  · rw [S_len, hlen]; omega
theorem int_top {l : List Nat} (h : fst0 l < mid0 l) (h4 : mid0 l - fst0 l ≤ 4000) : intText? (S (l.take (mid0 l))) = some (sgn l (topV l)) := by
  have hlen := rowAt_len (l := l) (i := fst0 l) (mid0_le l)
  have hf := fst0_le l
  have hm := mid0_le l
  by_cases hn : neg l = true
  · have hf1 : fst0 l = 1 := by unfold fst0; rw [if_pos hn]
    have h0 : l[0]? = some 45 := of_decide_eq_true hn
    have ht : l.take (mid0 l) = 45 :: rowAt l (fst0 l) (mid0 l) := by
      unfold rowAt
      rw [hf1]
      cases l with
      | nil => cases h0
      | cons c l' =>
        simp at h0
        subst h0
        obtain ⟨j, hj⟩ : ∃ j, mid0 (45 :: l') = j + 1 := ⟨mid0 (45 :: l') - 1, by omega⟩
        rw [hj]; rfl
    rw [intText_neg (cs := rowAt l (fst0 l) (mid0 l)) ht rowAt_digits (fun z => by
      have : (rowAt l (fst0 l) (mid0 l)).length = 0 := congrArg List.length z
      omega) (by rw [S_len, List.length_take]; omega)]
    unfold sgn
    rw [if_pos hn]
    rfl
  · have hf0 : fst0 l = 0 := by unfold fst0; rw [if_neg hn]
    have ht : l.take (mid0 l) = rowAt l (fst0 l) (mid0 l) := by unfold rowAt; rw [hf0]; rfl
    rw [ht]
    unfold sgn
    rw [if_neg hn]
    exact row_int h hf h4
theorem bot_eq {l : List Nat} (e : end0 l = l.length) : l.drop (mid0 l + 1) = rowAt l (mid0 l + 1) (end0 l) := by
  unfold rowAt
  rw [e, List.take_length]
theorem topV_lt {l : List Nat} (h4 : mid0 l - fst0 l ≤ 4000) : topV l < N4 := by
  have := digitsVal_lt _ _ rfl (rowAt_digits (l := l) (i := fst0 l))
  rw [rowAt_len (dEnd_le (fst0_le l))] at this
  exact Nat.lt_of_lt_of_le this (Nat.pow_le_pow_right (by decide) h4)
theorem botV_lt {l : List Nat} (e : slash0 l = true) (h4 : end0 l - (mid0 l + 1) ≤ 4000) : botV l < N4 := by
  have := digitsVal_lt _ _ rfl (rowAt_digits (l := l) (i := mid0 l + 1))
  rw [rowAt_len (dEnd_le (slash_lt e))] at this
  exact Nat.lt_of_lt_of_le this (Nat.pow_le_pow_right (by decide) h4)
theorem sgn_abs (l : List Nat) (n : Nat) : (sgn l (n : Int)).natAbs = n := by
  unfold sgn
  split <;> omega
theorem sgn_div (l : List Nat) (a b : Nat) : (sgn l (a : Int)).fdiv ((Nat.gcd a b : Nat) : Int) = sgn l ((a / Nat.gcd a b : Nat) : Int) := by
  have hd : ((Nat.gcd a b : Nat) : Int) ∣ (a : Int) := Int.natCast_dvd_natCast.mpr (Nat.gcd_dvd_left a b)
  unfold sgn
  split
  · rw [Int.fdiv_eq_ediv_of_nonneg _ (Int.natCast_nonneg _), Int.neg_ediv_of_dvd hd]
    rfl
  · rw [Int.fdiv_eq_ediv_of_nonneg _ (Int.natCast_nonneg _)]
    rfl
end AL
set_option Elab.async false
set_option maxRecDepth 100000
set_option exponentiation.threshold 70000
/-! Whole roots by Newton's steps; how many digits a number has. -/
namespace AL
open PySem L2 PySem.NumText
theorem tangent (g r : Nat) : ∀ k : Nat, (k + 1) * r * g ^ k ≤ r ^ (k + 1) + k * g ^ (k + 1)
  | 0 => by simp
  | k + 1 => by
    have ih := tangent g r k
    have h1 : (k + 1) * r * g ^ k * r ≤ (r ^ (k + 1) + k * g ^ (k + 1)) * r := Nat.mul_le_mul_right r ih
    have sq : 2 * (r * g) ≤ r * r + g * g := by
      rcases Nat.le_total r g with h | h
      · obtain ⟨d, rfl⟩ := Nat.le.dest h
        simp only [Nat.mul_add, Nat.add_mul]
        have : r * d = d * r := Nat.mul_comm _ _
        omega
      · obtain ⟨d, rfl⟩ := Nat.le.dest h
        simp only [Nat.mul_add, Nat.add_mul]
        have : g * d = d * g := Nat.mul_comm _ _
        omega
    have h2 := Nat.mul_le_mul_left ((k + 1) * g ^ k) sq
    have e1 : (k + 1) * r * g ^ k * r = (k + 1) * g ^ k * (r * r) := by
      simp only [Nat.mul_assoc, Nat.mul_comm, Nat.mul_left_comm]
    have e2 : (r ^ (k + 1) + k * g ^ (k + 1)) * r = r ^ (k + 2) + k * (g ^ (k + 1) * r) := by
      rw [Nat.add_mul, ← Nat.pow_succ, Nat.mul_assoc]
    have e3 : (k + 1) * g ^ k * (2 * (r * g)) = 2 * ((k + 1) * (g ^ (k + 1) * r)) := by
      rw [Nat.pow_succ]
      simp only [Nat.mul_assoc, Nat.mul_comm, Nat.mul_left_comm]
    have e4 : (k + 1) * g ^ k * (r * r + g * g) = (k + 1) * g ^ k * (r * r) + (k + 1) * g ^ (k + 2) := by
      rw [Nat.mul_add, Nat.pow_succ, Nat.pow_succ]
      simp only [Nat.mul_assoc]
    have e5 : (k + 1 + 1) * r * g ^ (k + 1) = (k + 1) * (g ^ (k + 1) * r) + g ^ (k + 1) * r := by
      rw [Nat.add_mul (k + 1) 1 r, Nat.one_mul, Nat.add_mul, Nat.mul_assoc, Nat.mul_comm r (g ^ (k + 1))]
    rw [e1, e2] at h1
    rw [e3, e4] at h2
    rw [e5]
    have e6 : (k + 1) * (g ^ (k + 1) * r) = k * (g ^ (k + 1) * r) + g ^ (k + 1) * r := by rw [Nat.add_mul, Nat.one_mul]
    have e7 : r ^ (k + 1 + 1) = r ^ (k + 2) := rfl
    have e8 : (k + 1) * g ^ (k + 1 + 1) = (k + 1) * g ^ (k + 2) := rfl
    rw [e7, e8]
    rw [e6] at h2 ⊢
    omega
/-- the next guess for the root j + 1 -/
def nstep (n j g : Nat) : Nat := (j * g + n / g ^ j) / (j + 1)
theorem nstep_ge {n j g r : Nat} (hg : 0 < g) (h : r ^ (j + 1) ≤ n) : r ≤ nstep n j g := by
  have t := tangent g r j
  have hp : 0 < g ^ j := Nat.pow_pos hg
  unfold nstep
  rw [Nat.le_div_iff_mul_le (Nat.succ_pos j)]
  have e : j * g + n / g ^ j = (n + j * g * g ^ j) / g ^ j := by
    rw [Nat.add_mul_div_right _ _ hp, Nat.add_comm]
  rw [e, Nat.le_div_iff_mul_le hp]
  have e2 : j * g ^ (j + 1) = j * g * g ^ j := by rw [Nat.pow_succ, Nat.mul_comm (g ^ j) g, Nat.mul_assoc]
  rw [Nat.mul_comm r (j + 1)]
  omega
theorem nstep_end {n j g : Nat} (hg : 0 < g) (h : g ≤ nstep n j g) : g ^ (j + 1) ≤ n := by
  have hp : 0 < g ^ j := Nat.pow_pos hg
  unfold nstep at h
  rw [Nat.le_div_iff_mul_le (Nat.succ_pos j)] at h
  have : g ≤ n / g ^ j := by
    rw [Nat.mul_succ, Nat.mul_comm g j] at h
    omega
  rw [Nat.le_div_iff_mul_le hp] at this
  rw [Nat.pow_succ, Nat.mul_comm]
  exact this
/-- the greatest number whose power k is at most n -/
def isRoot (n k g : Nat) : Prop := g ^ k ≤ n ∧ ∀ r, r ^ k ≤ n → r ≤ g
theorem isRoot_eq {n k g r : Nat} (h : isRoot n k g) (hk : 0 < k) (e : r ^ k = n) : g = r := by
  have h1 := h.2 r (Nat.le_of_eq e)
  rcases Nat.lt_or_ge r g with h2 | h2
  · have := Nat.pow_lt_pow_left h2 (by omega : k ≠ 0)
    have := h.1
    omega
  · omega
theorem start_ok {n k r : Nat} (hk : 0 < k) (h : r ^ k ≤ n) : r ≤ 2 ^ ((n.log2 + 1) / k + 1) := by
  rcases Nat.lt_or_ge (2 ^ ((n.log2 + 1) / k + 1)) r with h2 | h2
  · exfalso
    have h3 := Nat.pow_lt_pow_left h2 (by omega : k ≠ 0)
    rw [← Nat.pow_mul] at h3
    have h4 : n.log2 + 1 ≤ ((n.log2 + 1) / k + 1) * k := by
      have := Nat.div_add_mod (n.log2 + 1) k
      have hm := Nat.mod_lt (n.log2 + 1) hk
      rw [Nat.add_mul, Nat.one_mul, Nat.mul_comm]
      omega
    have h5 : 2 ^ (n.log2 + 1) ≤ 2 ^ (((n.log2 + 1) / k + 1) * k) := Nat.pow_le_pow_right (by decide) h4
    have h6 : n < 2 ^ (n.log2 + 1) := Nat.lt_log2_self
    omega
  · exact h2
/-- how many digits -/
def ndig (n : Nat) : Nat := (TL.numL n).length
theorem ndig_pos (n : Nat) : 0 < ndig n := List.length_pos_iff.mpr (TL.numL_ne n)
theorem lt_ndig (n : Nat) : n < 10 ^ ndig n := by
  have := digitsVal_lt _ _ rfl (TL.numL_digits n)
  rwa [TL.numL_val] at this
theorem ndig_le {n k : Nat} (hk : 0 < k) (h : n < 10 ^ k) : ndig n ≤ k := TL.numL_len hk h
theorem ndig_lt {n k : Nat} (h : 10 ^ k ≤ n) : k < ndig n := by
  rcases Nat.lt_or_ge k (ndig n) with h1 | h1
  · exact h1
  · have := Nat.pow_le_pow_right (by decide : 0 < 10) h1
    have := lt_ndig n
    omega
theorem ndig_eq {n k : Nat} (h0 : 10 ^ k ≤ n) (h1 : n < 10 ^ (k + 1)) : ndig n = k + 1 := by
  have := ndig_lt h0
  have := ndig_le (Nat.succ_pos k) h1
  omega
theorem ndig_cut {n k : Nat} (h : 10 ^ k ≤ n) : ndig n = k + ndig (n / 10 ^ k) := by
  have hp : 0 < 10 ^ k := Nat.pow_pos (by decide)
  have hx : 1 ≤ n / 10 ^ k := (Nat.le_div_iff_mul_le hp).mpr (by omega)
  have a1 := lt_ndig (n / 10 ^ k)
  have a2 : n < 10 ^ (k + ndig (n / 10 ^ k)) := by
    rw [Nat.pow_add, Nat.mul_comm]
    exact (Nat.div_lt_iff_lt_mul hp).mp a1
  have b1 := ndig_le (by have := ndig_pos (n / 10 ^ k); omega) a2
  have c1 := ndig_lt h
  have c2 : n / 10 ^ k < 10 ^ (ndig n - k) := by
    rw [Nat.div_lt_iff_lt_mul hp, ← Nat.pow_add]
    rw [show ndig n - k + k = ndig n by omega]
    exact lt_ndig n
  have c3 := ndig_le (by omega) c2
  omega
end AL
set_option Elab.async false
set_option maxRecDepth 100000
set_option exponentiation.threshold 3000
/-! Data that stay, and that can be shown. -/
namespace AL
open PySem L2
mutual
theorem dp_mono {K : PySem.W.Frag} {H H' : Hp} (kl : ∀ a xs, SqL K H a xs → SqL K H' a xs) (kt : ∀ a xs, SqT K H a xs → SqT K H' a xs) : ∀ (d : PyData) (v : V), Dp K H v d → Dp K H' v d
  | .none, _, h => by cases h; exact .non
  | .bool b, _, h => by cases h; exact .bl b
  | .int i, _, h => by cases h; exact .int i
  | .str x, _, h => by cases h; exact .str x
  | .list ds, _, h => by
    cases h with
    | lst hs ha => exact .lst (kl _ _ hs) (dpAll_mono kl kt ds _ ha)
  | .tuple ds, _, h => by
    cases h with
    | tup hs ha => exact .tup (kt _ _ hs) (dpAll_mono kl kt ds _ ha)
  | .dict _, _, h => by cases h
theorem dpAll_mono {K : PySem.W.Frag} {H H' : Hp} (kl : ∀ a xs, SqL K H a xs → SqL K H' a xs) (kt : ∀ a xs, SqT K H a xs → SqT K H' a xs) : ∀ (ds : List PyData) (vs : List V), DpAll K H vs ds → DpAll K H' vs ds
  | [], _, h => by cases h; exact .nil
  | d :: ds, _, h => by
    cases h with
    | cons h1 h2 => exact .cons (dp_mono kl kt d _ h1) (dpAll_mono kl kt ds _ h2)
end
theorem same_seqT {K : PySem.W.Frag} {H H' : Hp} {a : Addr} {xs : List V} (e : Same H H') (h : SqT K H a xs) : SqT K H' a xs := by
  rcases h with (h | ⟨o, h⟩) | h
  · exact .inl (.inl (e _ _ h))
  · exact .inl (.inr ⟨o, e _ _ h⟩)
  · exact .inr h
theorem dp_same {K : PySem.W.Frag} {H H' : Hp} {v : V} {d : PyData} (s : Same H H') (h : Dp K H v d) : Dp K H' v d := dp_mono (fun _ _ z => Same.seq s z) (fun _ _ z => same_seqT s z) d v h
theorem dp_keep {K : PySem.W.Frag} {H H' : Hp} {p c : Addr} {m : Nat} {v : V} {d : PyData} (k : Keep p H H') (P : Pen H p c m) (h : Dp K H v d) : Dp K H' v d := dp_mono (fun _ _ z => k.seqL P z) (fun _ _ z => k.seqT P z) d v h
/-- can be shown, by few signs -/
structure OkD (d : PyData) : Prop where
  sh : d.showable = true
  nd : d.hasDict = false
  dp : d.depth ≤ 10
  ln : d.shown.length ≤ 1000
/-- some data that can be shown -/
def Datum (K : PySem.W.Frag) (H : Hp) (v : V) : Prop := ∃ d, Dp K H v d ∧ OkD d
theorem Datum.same {K : PySem.W.Frag} {H H' : Hp} {v : V} (h : Datum K H v) (s : Same H H') : Datum K H' v := by
  obtain ⟨d, h1, h2⟩ := h
  exact ⟨d, dp_same s h1, h2⟩
theorem Datum.keep {K : PySem.W.Frag} {H H' : Hp} {p c : Addr} {m : Nat} {v : V} (h : Datum K H v) (k : Keep p H H') (P : Pen H p c m) : Datum K H' v := by
  obtain ⟨d, h1, h2⟩ := h
  exact ⟨d, dp_keep k P h1, h2⟩
theorem datum_non {K : PySem.W.Frag} {H : Hp} : Datum K H .non := ⟨.none, .non, by decide +kernel, by decide +kernel, by decide +kernel, by decide +kernel⟩
theorem datum_bl {K : PySem.W.Frag} {H : Hp} (b : Bool) : Datum K H (.bl b) := by
  refine ⟨.bool b, .bl b, rfl, rfl, by show 0 ≤ 10; decide, ?_⟩
  cases b <;> decide +kernel
theorem okD_int {i : Int} (h : i.natAbs < 10 ^ 400) : OkD (.int i) := by
  have h2 : i.natAbs < 2 ^ 1920 := Nat.lt_trans (Nat.lt_of_lt_of_le h (Nat.pow_le_pow_right (by decide) (by decide : 400 ≤ 402))) pow402
  refine ⟨decide_eq_true (log2_small (by decide) h2), rfl, by show 0 ≤ 10; decide, ?_⟩
  show (Str.ofString (toString i)).length ≤ 1000
  have e : (Str.ofString (toString i)).length = (toString i).length := by
    rw [Str.ofString_eq_toList]
    show (((toString i).toList.map Char.toNat).toArray).size = _
    rw [List.size_toArray, List.length_map, String.length_toList]
  rw [e]
  have := int_text_length_le10 (by decide) h
  omega
theorem datum_int {K : PySem.W.Frag} {H : Hp} {i : Int} (h : i.natAbs < 10 ^ 400) : Datum K H (.int i) := ⟨.int i, .int i, okD_int h⟩
theorem datum_str {K : PySem.W.Frag} {H : Hp} {z : Str} (h : z.length ≤ 90) (hc : ∀ c ∈ z.cps.toList, c < 128) : Datum K H (.str z) := by
  refine ⟨.str z, .str z, rfl, rfl, by show 0 ≤ 10; decide, ?_⟩
  show (reprText z).length ≤ 1000
  have := StrLaws.reprText_len z (fun c hcc => Nat.lt_trans (hc c hcc) (by decide))
  omega
theorem okD_tup : ∀ (ds : List PyData), ds.length ≤ 3 → (∀ d ∈ ds, OkD d) → (PyData.tuple ds).showable = true ∧ (PyData.tuple ds).hasDict = false ∧ (PyData.tuple ds).depth ≤ 60 ∧ (PyData.tuple ds).shown.length ≤ sizeLine := by
  intro ds hl h
  have all : ∀ (ds : List PyData), (∀ d ∈ ds, OkD d) → PyData.showableAll ds = true ∧ PyData.hasDictAll ds = false ∧ PyData.depthAll ds ≤ 10 ∧ ((PyData.shownAll ds).map (·.length)).sum ≤ 1000 * ds.length ∧ (PyData.shownAll ds).length = ds.length := by
    intro ds
    induction ds with
    | nil => intro _; exact ⟨rfl, rfl, by decide, by decide, rfl⟩
    | cons d ds ih =>
      intro h
      obtain ⟨a1, a2, a3, a4, a5⟩ := ih fun x hx => h x (List.mem_cons_of_mem _ hx)
      have o := h d List.mem_cons_self
      have o1 := o.sh
      have o2 := o.nd
      have o3 := o.dp
      have o4 := o.ln
      refine ⟨?_, ?_, ?_, ?_, ?_⟩
      · simp only [PyData.showableAll, o1, a1, Bool.and_self]
      · simp only [PyData.hasDictAll, o2, a2, Bool.or_self]
      · simp only [PyData.depthAll]; omega
      · simp only [PyData.shownAll, List.map_cons, List.sum_cons, List.length_cons]; omega
      · simp only [PyData.shownAll, List.length_cons, a5]
  obtain ⟨a1, a2, a3, a4, a5⟩ := all ds h
  refine ⟨?_, ?_, ?_, ?_⟩
  · simpa only [PyData.showable] using a1
  · simpa only [PyData.hasDict] using a2
  · simp only [PyData.depth]; omega
  · simp only [PyData.shown]
    have := tupleText_len_le (PyData.shownAll ds)
    rw [a5] at this
    refine Nat.le_trans this ?_
    refine Nat.le_trans (show _ ≤ 10000 by omega) (by decide)
theorem dpAll_bl {K : PySem.W.Frag} {H : Hp} : ∀ l : List Bool, DpAll K H (l.map V.bl) (l.map PyData.bool)
  | [] => .nil
  | b :: l => .cons (.bl b) (dpAll_bl l)
theorem shaped_bl (l : List Bool) : SeqAt.shaped (.list (l.map PyData.bool)) = true := by
  have h1 : ∀ l : List Bool, PyData.canLayAll0 (l.map PyData.bool) = true ∧ PyData.depthAll (l.map PyData.bool) = 0 := by
    intro l
    induction l with
    | nil => exact ⟨rfl, rfl⟩
    | cons b l ih => exact ⟨by simp [PyData.canLayAll0, PyData.canLay0, ih.1], by simp [PyData.depthAll, PyData.depth, ih.2]⟩
  unfold SeqAt.shaped
  rw [show PyData.canLay0 (.list (l.map PyData.bool)) = true by simpa [PyData.canLay0] using (h1 l).1]
  simp [PyData.depth, (h1 l).2]
end AL
set_option Elab.async false
set_option maxRecDepth 100000
set_option exponentiation.threshold 70000
set_option maxHeartbeats 1000000
namespace AL
open PySem L2

/-- one sign, a digit -/
def oneD (m : List Nat) : Bool := match m with | [c] => isD c | _ => false
theorem in_dig (m : List Nat) : inV (.str (S m)) (([48, 49, 50, 51, 52, 53, 54, 55, 56, 57] : List Nat).map fun c => V.str (S [c])) = oneD m := by
  unfold inV
  have e : ∀ c, eqV (.str (S [c])) (.str (S m)) = decide ([c] = m) := fun c => by
    show decide (S [c] = S m) = decide ([c] = m)
    exact decide_eq_decide.mpr S_inj
  simp only [List.map_cons, List.map_nil, List.any_cons, List.any_nil, e]
  match m with
  | [] => rfl
  | [d] =>
    show _ = isD d
    rw [isD_mem]
    simp [eq_comm]
  | _ :: _ :: _ => simp [oneD]
theorem row_one {l : List Nat} {j : Nat} : rowAt l j (j + 1) = (l[j]?).toList := by
  unfold rowAt
  rw [List.take_add_one, List.drop_append]
  by_cases h : j ≤ l.length
  · rw [List.length_take, Nat.min_eq_left h, Nat.sub_self, List.drop_eq_nil_of_le (by rw [List.length_take]; omega), List.nil_append, List.drop_zero]
  · rw [List.getElem?_eq_none (by omega), List.drop_eq_nil_of_le (by rw [List.length_take]; omega)]
    simp

theorem fmod_nat (a b : Nat) : ((a : Int)).fmod ((b : Nat) : Int) = ((a % b : Nat) : Int) := by
  rw [Int.fmod_eq_emod_of_nonneg _ (Int.natCast_nonneg b)]
  rfl
theorem fdiv_nat (a b : Nat) : ((a : Int)).fdiv ((b : Nat) : Int) = ((a / b : Nat) : Int) := by
  rw [Int.fdiv_eq_ediv_of_nonneg _ (by omega)]
  rfl

/-- _law_gcd(a, b) -/
def spGcdL : Sp := fun vs H Q _ => ∃ (a b : Int), vs = [.int a, .int b] ∧ a.natAbs < N6 ∧ b.natAbs < N6 ∧ Q (.int ((Nat.gcd a.natAbs b.natAbs : Nat) : Int)) H
/-- _law_q(a, b) -/
def spQ : Sp := fun vs H Q _ => ∃ (a b : Nat), vs = [.int (a : Int), .int (b : Int)] ∧ a < N4 ∧ b < N4 ∧ b ≠ 0 ∧ ∀ t, H t = none → Q (.ref t) (upd H t (.tup [.int (red a b).1, .int (red a b).2]))
/-- _law_is_whole(i) -/
def spWhole : Sp := fun vs H Q _ => ∃ (i : Int), vs = [.int i] ∧ Q (.bl true) H
/-- _law_is_ratio(t) -/
def spIsRat (K : PySem.W.Frag) : Sp := fun vs H Q _ => ∃ (t : Addr) (a b : Int), vs = [.ref t] ∧ H t = some (.tup [.int a, .int b]) ∧ a.natAbs < N6 ∧ b.natAbs < N6 ∧ 0 < b ∧ Nat.gcd a.natAbs b.natAbs = 1 ∧ Q (.bl true) H
/-- _law_digits_end(text, at) -/
def spEndL : Sp := fun vs H Q _ => ∃ (l : List Nat) (i : Nat), vs = [.str (S l), .int (i : Int)] ∧ i ≤ l.length ∧ l.length ≤ 20000 ∧ ∀ H', Same H H' → Q (.int ((dEnd l i : Nat) : Int)) H'
/-- digits_end(text, start) -/
def spEnd : Sp := fun vs H Q _ => ∃ (l : List Nat) (i : Nat), vs = [.str (S l), .int (i : Int)] ∧ i ≤ l.length ∧ l.length ≤ 20000 ∧ Q (.int ((dEnd l i : Nat) : Int)) H
/-- wrong_column(text) -/
def spCol : Sp := fun vs H Q _ => ∃ (l : List Nat), vs = [.str (S l)] ∧ l.length ≤ 20000 ∧ Q (.int ((wcol l : Nat) : Int)) H
/-- lowest(top, bottom) -/
def spLow : Sp := fun vs H Q _ => ∃ (a : Int) (b : Nat), vs = [.int a, .int (b : Int)] ∧ a.natAbs < N4 ∧ b < N4 ∧ b ≠ 0 ∧
  ∀ t, H t = none → Q (.ref t) (upd H t (.tup [.int (a.fdiv ((Nat.gcd a.natAbs b : Nat) : Int)), .int ((b / Nat.gcd a.natAbs b : Nat) : Int)]))


/-- ratio_of(x) -/
def spRatio (K : PySem.W.Frag) (BT TL : Addr) : Sp := fun vs H Q E => ∃ x, vs = [x] ∧
  ((∃ l, x = .str (S l) ∧ l.length ≤ 20000 ∧
    (∀ c, res l = .text c → ∀ d H1, H1 d = none → Same H H1 → E (.ref BT) (some d) (upd H1 d (.xd [("column", .int (c : Int)), ("line", .int 1)]))) ∧
    (∀ n, res l = .large n → ∀ d H1, H1 d = none → Same H H1 → E (.ref TL) (some d) (upd H1 d (.xd [("limit", .int 4000), ("number", .int (n : Int)), ("what", .str "digits")]))) ∧
    (∀ p r, res l = .ratio p r → ∀ t H1, H1 t = none → Same H H1 → Q (.ref t) (upd H1 t (.tup [.int p, .int r])))) ∨
   (∃ u, TyX K H x u ∧ PySem.W.kitOne K u (.type "str") = some false ∧ ∀ d H1, H1 d = none → Same H H1 → E (.ref BT) (some d) (upd H1 d (.xd [("column", .int 0), ("line", .int 0)]))))
theorem one4 : 1 < N4 := by unfold N4; decide +kernel
theorem none_of_same {H H' : Hp} {a : Addr} (s : Same H H') (h : H' a = none) : H a = none := by
  cases e : H a with
  | none => rfl
  | some o => rw [s _ _ e] at h; cases h
theorem Same.updn {H H' : Hp} {a : Addr} {o : HO} (s : Same H H') (h : H a = none) : Same H (upd H' a o) := fun b u e => by
  rw [upd_ne (fun z => by rw [z, h] at e; cases e)]; exact s _ _ e
/-- what a text is told to be -/
def resD : Res → PyData
  | .text c => .tuple [.str "text", .int (c : Int)]
  | .large n => .tuple [.str "large", .int (n : Int)]
  | .ratio p r => .tuple [.str "ratio", .tuple [.int p, .int r]]
/-- _law_due(text) -/
def spDue (K : PySem.W.Frag) : Sp := fun vs H Q _ => ∃ (l : List Nat), vs = [.str (S l)] ∧ l.length ≤ 20000 ∧ ∀ t H', Same H H' → Dp K H' (.ref t) (resD (res l)) → Q (.ref t) H'


theorem res_ratio {l : List Nat} {p r : Int} (h : res l = .ratio p r) : p.natAbs < N6 ∧ r.natAbs < N6 ∧ 0 < r ∧ Nat.gcd p.natAbs r.natAbs = 1 := by
  have hw : wcol l = 0 := by
    rcases Nat.eq_zero_or_pos (wcol l) with z | z
    · exact z
    · rw [res_bad z] at h; cases h
  rw [res_ok hw] at h
  have red_ok : ∀ a b : Nat, a < N4 → b < N4 → b ≠ 0 → (sgn l (red a b).1).natAbs < N6 ∧ (red a b).2.natAbs < N6 ∧ 0 < (red a b).2 ∧ Nat.gcd (sgn l (red a b).1).natAbs (red a b).2.natAbs = 1 := by
    intro a b ha hb h0
    have hg : 0 < Nat.gcd a b := Nat.gcd_pos_of_pos_right a (Nat.pos_of_ne_zero h0)
    have e1 : (sgn l (red a b).1).natAbs = a / Nat.gcd a b := sgn_abs l _
    have e2 : (red a b).2.natAbs = b / Nat.gcd a b := Int.natAbs_natCast _
    have p46 := pow46
    refine ⟨?_, ?_, ?_, ?_⟩
    · rw [e1]; exact Nat.lt_of_le_of_lt (Nat.div_le_self _ _) (by omega)
    · rw [e2]; exact Nat.lt_of_le_of_lt (Nat.div_le_self _ _) (by omega)
    · have : 0 < b / Nat.gcd a b := Nat.div_pos (Nat.le_of_dvd (Nat.pos_of_ne_zero h0) (Nat.gcd_dvd_right a b)) hg
      show (0 : Int) < ((b / Nat.gcd a b : Nat) : Int)
      omega
    · rw [e1, e2, Nat.gcd_div (Nat.gcd_dvd_left a b) (Nat.gcd_dvd_right a b), Nat.div_self hg]
  by_cases h1 : 4000 < mid0 l - fst0 l
  · rw [if_pos h1] at h; cases h
  · rw [if_neg h1] at h
    have ht := topV_lt (l := l) (by omega)
    by_cases h2 : slash0 l = true
    · rw [if_pos h2] at h
      by_cases h3 : 4000 < end0 l - (mid0 l + 1)
      · rw [if_pos h3] at h; cases h
      · rw [if_neg h3] at h
        by_cases h4 : botV l = 0
        · rw [if_pos h4] at h; cases h
        · rw [if_neg h4] at h
          injection h with e1 e2
          subst e1 e2
          exact red_ok _ _ ht (botV_lt h2 (by omega)) h4
    · rw [if_neg h2] at h
      injection h with e1 e2
      subst e1 e2
      have := red_ok (topV l) 1 ht one4 (by decide)
      unfold red at this
      rw [Nat.gcd_one_right, Nat.div_one] at this
      exact this
/-- _law_read(text) -/
def spRead (K : PySem.W.Frag) : Sp := fun vs H Q _ => ∃ (l : List Nat), vs = [.str (S l)] ∧ l.length ≤ 20000 ∧ ∀ t H', Same H H' → Dp K H' (.ref t) (resD (res l)) → Q (.ref t) H'
theorem cut_from (l : List Nat) (i : Nat) : cutS (S l) (some (i : Int)) none = S (l.drop i) := by
  have e := cut_mid l i l.length
  rw [List.take_length] at e
  rw [← e]
  unfold cutS
  have h1 : HT.sIx (S l).length (S l).length none = HT.sIx (S l).length (S l).length (some ((l.length : Nat) : Int)) := by
    rw [HT.sIx_nat, HT.sIx_none, S_len, Nat.min_self]
  rw [h1]
theorem str_len {n k : Nat} (hk : 0 < k) (h : n < 10 ^ k) : (Str.ofString (toString ((n : Nat) : Int))).length ≤ k := by
  rw [show (Str.ofString (toString ((n : Nat) : Int))).length = (TL.numL n).length by rw [TL.len_tl]; exact congrArg List.length (TL.tl_num n)]
  exact TL.numL_len hk h
/-- _law_begin(pen) -/
def spBegin : Sp := fun vs H Q _ => ∃ (p c : Addr) (m : Nat), vs = [.ref p] ∧ Pen H p c m ∧ m < 800000000 ∧ ∀ (l : List Nat) H', l.length ≤ 15000 → Pen H' p c (m + 1000) → Q (.str (S l)) H'
/-- _law_bent(pen, text) -/
def spBent : Sp := fun vs H Q _ => ∃ (p c : Addr) (m : Nat) (l : List Nat), vs = [.ref p, .str (S l)] ∧ Pen H p c m ∧ m < 800000000 ∧ l.length ≤ 19000 ∧ ∀ (l' : List Nat) H', l'.length ≤ l.length + 1 → Pen H' p c (m + 10) → Q (.str (S l')) H'

/-- law's: a list of at most 63 ints is handed in, True comes out -/
def spLaw (K : PySem.W.Frag) : Sp := fun vs H Q _ => ∃ (a : Addr) (ns : List Int), vs = [.ref a] ∧ SqL K H a (ns.map V.int) ∧ ns.length ≤ 63 ∧ ∀ H', Q (.bl true) H'
theorem resD_ok (r : Res) : SeqAt.shaped (resD r) = true := by
  have h1 : PyData.strOk (Str.ofString "text") = true := by decide +kernel
  have h2 : PyData.strOk (Str.ofString "large") = true := by decide +kernel
  have h3 : PyData.strOk (Str.ofString "ratio") = true := by decide +kernel
  cases r <;> simp [h1, h2, h3, SeqAt.shaped, resD, PyData.canLay0, PyData.canLayAll0, PyData.depth, PyData.depthAll]

end AL
set_option Elab.async false
set_option maxRecDepth 100000
set_option exponentiation.threshold 70000
set_option maxHeartbeats 1000000
namespace AL
open PySem PySem.Spec PyProof.Rows L2 RZ
def top (i : Nat) : Stmt := PySem.Challenge.pw_allscales_k77_whole_letters_become_one.main.body.getD i (.Pass ⟨0, 0, 0, 0⟩)
section
variable {P : Program} {w : World} {K : PySem.W.Frag} {mg : Str → Option Value} {base : Heap}
abbrev st_law_pen : Stmt := top 39
theorem sc_law_pen : FnScope ["_law_script", "_law_fold", "_law_cell"] ["_law_script"] (defScope st_law_pen) := ⟨rfl, rfl, rfl, by decide +kernel, rfl, by decide +kernel, by decide +kernel⟩
theorem ok_law_pen (B : Blt mg)  {f_law_pen : Addr} {fd_law_pen : FuncData} (D_law_pen : DefAt K mg "_law_pen" st_law_pen ["_law_script"] f_law_pen fd_law_pen) : FnOk P w K mg base CX0 1 f_law_pen fd_law_pen ["_law_script"] (spPen K) := by
  refine D_law_pen.F.ok sc_law_pen (fun vs H Q E h => ?_) (fun cdv A outer s H vs Q E hr h => ?_)
  · obtain ⟨a, ns, rfl, _⟩ := h; rfl
  · have hu := hu_of hr
    refine ⟨_, (pss_cons (ps_set (i := 1) sc_law_pen.nd rfl (Or.inl rfl) pe_int)
    (pss_cons (ps_for PassesOwn.never rfl (pi_list (pv 0)) (pg_name (i := 2) sc_law_pen.nd rfl (Or.inl rfl))
      (pss_one (ps_set (i := 1) sc_law_pen.nd rfl (Or.inl rfl) (pe_op op_modN (pe_callTy call_int1 (by rfl) B.int_ (by decide +kernel) (pa_cons (pe_op op_add (pe_op op_mul (pv 1) pe_int) (pv 2)) pa_nil)) pe_int))))
    (pss_one (ps_ret (pe_disp (pps_cons pe_str (pe_callTy call_list_of (by rfl) B.list_ (by decide +kernel) (pa_cons (pv 0) pa_nil)) (pps_cons pe_str pe_int (pps_cons pe_str pe_int (pps_cons pe_str pe_int (pps_cons pe_str (pv 1) pps_nil))))) (by rfl) (by rfl) (fun z => by cases z) (by decide)))))), ?_⟩
    obtain ⟨a, ns, rfl, hS, k⟩ := h
    refine ⟨_, rfl, a, rfl, ⟨_, hS⟩, for_list (K := K) (a := a) (xs := ns.map V.int) (fun i σ H' => ∃ (f : Int) (v : Option V), σ = [some (.ref a), some (.int f), v] ∧ H' = H ∧ 0 ≤ f ∧ f < 2147483648) ⟨0, none, rfl, rfl, by decide, by decide⟩ (fun i σ H' _ ⟨_, _, _, e, _⟩ => by rw [e]; exact hS) ?_ ?_⟩
    · rintro i y σ H' hi ⟨f, v, rfl, rfl, h0, h1⟩
      obtain ⟨z, hz, rfl⟩ := map_int hi
      refine ⟨_, rfl, _, _, rfl, rfl, .inr ⟨by decide, by decide⟩, _, rfl, _, _, rfl, rfl, .inl ⟨_, rfl, _, _, rfl, rfl, (by show (1000000007 : Int) ≠ 0; decide), ?_⟩⟩
      have hb := fmod_in (a := f * 41 + z) (b := 1000000007) (by decide)
      exact ⟨_, _, rfl, rfl, hb.1, by omega⟩
    · rintro σ H' ⟨f, v, rfl, rfl, h0, h1⟩
      intro p hp
      refine ⟨_, rfl, a, _, rfl, .inl (Same.seq (AL.Same.new hp) hS), fun l hl => ?_⟩
      have hlp : p ≠ l := fun e => by rw [e, upd_same] at hl; cases hl
      have hl0 : H' l = none := by rw [upd_ne hlp.symm] at hl; exact hl
      refine ⟨_, rfl, Eq.trans (upd_ne hlp) upd_same, penK l 0 0 0 f, rfl, (by show 5 ≤ 15; decide), ?_⟩
      refine k p l _ hp hl0 hlp ⟨ns, 0, 0, 0, f, Eq.trans upd_same (by kernel_rfl), ?_, by decide, by decide, by decide, by decide, h0, h1⟩ fun b o e => ?_
      · rw [upd_ne hlp.symm, upd_same]
      · rw [upd_ne (ne_of_none e hp), upd_ne (ne_of_none e hl0), upd_ne (ne_of_none e hp)]; exact e
abbrev st_law_draw : Stmt := top 40
theorem sc_law_draw : FnScope ["_law_pen_here", "_law_many", "_law_cell", "_law_digit", "_law_blend"] ["_law_pen_here", "_law_many"] (defScope st_law_draw) := ⟨rfl, rfl, rfl, by decide +kernel, rfl, by decide +kernel, by decide +kernel⟩
theorem ok_law_draw (B : Blt mg)  {f_law_draw : Addr} {fd_law_draw : FuncData} (D_law_draw : DefAt K mg "_law_draw" st_law_draw ["_law_pen_here", "_law_many"] f_law_draw fd_law_draw) : FnOk P w K mg base CX0 1 f_law_draw fd_law_draw ["_law_pen_here", "_law_many"] spDraw := by
  refine D_law_draw.F.ok sc_law_draw (fun vs H Q E h => ?_) (fun cdv A outer s H vs Q E hr h => ?_)
  · obtain ⟨p, c, m, k, rfl, _⟩ := h; rfl
  · have hu := hu_of hr
    refine ⟨_, (pss_cons (ps_dput hu (pv 0) pe_str (pe_op op_add (pe_dget hu (pv 0) pe_str (fun _ _ => rfl)) pe_int) rfl)
    (Evl.pss_cut (ps_if (PW.pt (pw_and (pt_cmpR op_eq (pe_dget hu (pv 0) pe_str (fun _ _ => rfl)) pe_int (nomark _)) (pw_and1 (pt_cmpR op_lt (pe_dget hu (pv 0) pe_str (fun _ _ => rfl)) (pe_callB call_len_seq (by rfl) B.len_ (by decide +kernel) (pa_cons (pe_dget hu (pv 0) pe_str (fun _ _ => rfl)) pa_nil)) (nomark _))))) (pss_cons (ps_set (i := 2) sc_law_draw.nd rfl (Or.inl rfl) (pe_ix ix_seq (pe_dget hu (pv 0) pe_str (fun _ _ => rfl)) (pe_dget hu (pv 0) pe_str (fun _ _ => rfl)) (fun _ _ => rfl)))
    (pss_cons (ps_dput hu (pv 0) pe_str (pe_op op_add (pe_dget hu (pv 0) pe_str (fun _ _ => rfl)) pe_int) rfl)
    (pss_one (ps_if (pt_cmpR op_ge (pv 2) (pe_op op_pow pe_int pe_int) (nomark _)) (pss_one (ps_dput hu (pv 0) pe_str (pe_op op_sub (pv 2) (pe_op op_pow pe_int pe_int)) rfl)) (pss_one (ps_dput hu (pv 0) pe_str (pe_op op_modN (pe_callTy call_int1 (by rfl) B.int_ (by decide +kernel) (pa_cons (pe_op op_add (pe_op op_mul (pe_dget hu (pv 0) pe_str (fun _ _ => rfl)) pe_int) (pv 2)) pa_nil)) pe_int) rfl)))))) pss_nil)
    (pss_cons (ps_if (pt_cmpR op_gt (pe_dget hu (pv 0) pe_str (fun _ _ => rfl)) pe_int (nomark _)) (pss_cons (ps_set (i := 3) sc_law_draw.nd rfl (Or.inl rfl) (pe_op op_modN (pe_callTy call_int1 (by rfl) B.int_ (by decide +kernel) (pa_cons (pe_dget hu (pv 0) pe_str (fun _ _ => rfl)) pa_nil)) (pv 1)))
    (pss_cons (ps_dput hu (pv 0) pe_str (pe_op op_fdivN (pe_dget hu (pv 0) pe_str (fun _ _ => rfl)) (pv 1)) rfl)
    (pss_one (ps_ret (pv 3))))) pss_nil)
    (pss_cons (ps_set (i := 4) sc_law_draw.nd rfl (Or.inl rfl) (pe_op op_add (pe_op op_add (pe_dget hu (pv 0) pe_str (fun _ _ => rfl)) (pe_op op_mul (pe_dget hu (pv 0) pe_str (fun _ _ => rfl)) pe_int)) pe_int))
    (pss_one (ps_ret (pe_op op_modN (pe_op op_fdivN (pe_callTy call_int1 (by rfl) B.int_ (by decide +kernel) (pa_cons (pe_op op_modN (pe_op op_pow (pv 4) pe_int) pe_int) pa_nil)) pe_int) (pv 1)))))))), ?_⟩
    obtain ⟨p, c, m, k, rfl, P, hm, hk0, hk1, q⟩ := h
    obtain ⟨ns, i, d, n, f, hp, hc, hi, hd, hn, hnm, hf0, hf1⟩ := P.ex
    have hcp : c ≠ p := fun e => by rw [e, hp] at hc; cases hc
    have s5 : (5 : Nat) < sizeLine := by decide
    -- count
    refine ⟨_, rfl, p, _, rfl, dget (k := Sum.inr "count") hp pen_count, _, _, rfl, rfl, _, rfl, p, _, rfl, dput (k := Sum.inr "count") hp s5 put_count, ?_⟩
    refine ⟨fun σ' H' => ∃ (i' d' f' : Int) (v : Option V), σ' = [some (.ref p), some (.int k), v, none, none] ∧ H' p = some (.dK (penK c i' d' (n + 1) f')) ∧ 0 ≤ i' ∧ 0 ≤ d' ∧ 0 ≤ f' ∧ f' < 2147483648 ∧ Keep p H H', ?_, ?_⟩
    · -- digits == 0 and at < len(cells)
      have n1 : ∀ {o}, upd H p o c = some (.lst (ns.map V.int)) := fun {o} => by rw [upd_ne hcp]; exact hc
      refine ⟨_, rfl, p, _, rfl, dget (k := Sum.inr "digits") upd_same pen_digits, rfl, _, rfl, ?_⟩
      refine ite2 (fun hd0 => ?_) (fun hd0 => ?_)
      · refine ⟨_, rfl, p, _, rfl, dget (k := Sum.inr "at") upd_same pen_at, _, rfl, p, _, rfl, dget (k := Sum.inr "cells") upd_same pen_cells, c, _, rfl, .inl (SqL.of n1), _, _, rfl, rfl, _, rfl, ?_⟩
        refine ite2 (fun hlt => ?_) (fun hlt => ?_)
        · have hlt' := of_decide_eq_true hlt
          rw [List.length_map] at hlt'
          obtain ⟨j, rfl⟩ := Int.eq_ofNat_of_zero_le hi
          have hj : j < ns.length := by omega
          -- cell, at
          refine ⟨_, rfl, p, _, rfl, dget (k := Sum.inr "cells") upd_same pen_cells, _, rfl, p, _, rfl, dget (k := Sum.inr "at") upd_same pen_at, .inl ⟨c, _, _, .int ns[j], rfl, rfl, SqL.of n1, at_of rfl (by rw [List.getElem?_map, List.getElem?_eq_getElem hj]; rfl), ?_⟩⟩
          refine ⟨_, rfl, p, _, rfl, dget (k := Sum.inr "at") upd_same pen_at, _, _, rfl, rfl, _, rfl, p, _, rfl, dput (k := Sum.inr "at") upd_same s5 put_at, ?_⟩
          refine ⟨_, rfl, _, _, rfl, rfl, ⟨by decide, by decide, by decide⟩, _, _, rfl, rfl, _, rfl, ?_⟩
          refine ite2 (fun hc18 => ?_) (fun hc18 => ?_)
          · have hc18' := of_decide_eq_true hc18
            refine ⟨_, rfl, _, _, rfl, rfl, ⟨by decide, by decide, by decide⟩, _, _, rfl, rfl, _, rfl, p, _, rfl, dput (k := Sum.inr "digits") upd_same s5 put_digits, ?_⟩
            refine ⟨_, _, _, _, rfl, upd_same, by omega, by omega, hf0, hf1, fun b o nb e => ?_⟩
            rw [upd_ne nb, upd_ne nb, upd_ne nb]; exact e
          · refine ⟨_, rfl, p, _, rfl, dget (k := Sum.inr "fold") upd_same pen_fold, _, _, rfl, rfl, .inr ⟨by decide, by decide⟩, _, rfl, _, _, rfl, rfl, .inl ⟨_, rfl, _, _, rfl, rfl, (by show (2147483587 : Int) ≠ 0; decide), _, rfl, p, _, rfl, dput (k := Sum.inr "fold") upd_same s5 put_fold, ?_⟩⟩
            have hb := fmod_in (a := f * 69069 + ns[j]) (b := 2147483587) (by decide)
            refine ⟨_, _, _, _, rfl, upd_same, by omega, hd, hb.1, by omega, fun b o nb e => ?_⟩
            rw [upd_ne nb, upd_ne nb, upd_ne nb]; exact e
        · exact ⟨_, _, _, _, rfl, upd_same, hi, hd, hf0, hf1, Keep.upd⟩
      · exact iteF ⟨_, _, _, _, rfl, upd_same, hi, hd, hf0, hf1, Keep.upd⟩
    · rintro σ H1 ⟨i1, d1, f1, v, rfl, hp1, hi1, hd1, hf01, hf11, kp⟩
      have pen' : ∀ {H2 : Hp} {i2 d2 f2 : Int}, H2 p = some (.dK (penK c i2 d2 (n + 1) f2)) → 0 ≤ i2 → 0 ≤ d2 → 0 ≤ f2 → f2 < 2147483648 → Keep p H H2 → Pen H2 p c (m + 1) := fun {H2 i2 d2 f2} e a1 a2 a3 a4 kk =>
        ⟨ns, i2, d2, n + 1, f2, e, kk c _ hcp hc, a1, a2, by omega, by omega, a3, a4⟩
      refine ⟨_, rfl, p, _, rfl, dget (k := Sum.inr "digits") hp1 pen_digits, _, _, rfl, rfl, _, rfl, ?_⟩
      refine ite2 (fun hpos => ?_) (fun hpos => ?_)
      · have hpos' := of_decide_eq_true hpos
        refine ⟨_, rfl, p, _, rfl, dget (k := Sum.inr "digits") hp1 pen_digits, .inl ⟨_, rfl, _, rfl, _, _, rfl, rfl, by show k ≠ 0; omega, ?_⟩⟩
        refine ⟨_, rfl, p, _, rfl, dget (k := Sum.inr "digits") hp1 pen_digits, _, rfl, _, _, rfl, rfl, ⟨by show k ≠ 0; omega, by show k.natAbs < 1073741824; omega⟩, _, rfl, p, _, rfl, dput (k := Sum.inr "digits") hp1 s5 put_digits, _, rfl, ?_⟩
        have hb := fmod_in (a := d1) (b := k) hk0
        have kk : Keep p H (upd H1 p (.dK (penK c i1 (d1.fdiv k) (n + 1) f1))) := kp.trans Keep.upd
        exact q _ _ hb.1 hb.2 (pen' upd_same hi1 (fdiv_nn hd1 hk0) hf01 hf11 kk) kk
      · refine ⟨_, rfl, p, _, rfl, dget (k := Sum.inr "fold") hp1 pen_fold, _, rfl, p, _, rfl, dget (k := Sum.inr "count") hp1 pen_count, _, _, rfl, rfl, .inr ⟨by decide, by decide⟩, _, _, rfl, rfl, _, _, rfl, rfl, ?_⟩
        refine ⟨_, rfl, _, _, rfl, rfl, ⟨by decide, by decide, by show (f1 + (n + 1) * 7907 + 37).natAbs < 2 ^ 64; omega⟩, _, _, rfl, rfl, (by show (2305843009213693951 : Int) ≠ 0; decide), .inl ⟨_, rfl, _, _, rfl, rfl, ⟨by decide, by decide⟩, _, rfl, _, _, rfl, rfl, by show k ≠ 0; omega, ?_⟩⟩
        have hb := fmod_in (a := (((f1 + (n + 1) * 7907 + 37) ^ ((17 : Int)).toNat).fmod 2305843009213693951).fdiv 128) (b := k) hk0
        exact q _ _ hb.1 hb.2 (pen' hp1 hi1 hd1 hf01 hf11 kp) kp
abbrev st_law_pick : Stmt := top 41
theorem sc_law_pick : FnScope ["_law_pen_here", "_law_some"] ["_law_pen_here", "_law_some"] (defScope st_law_pick) := ⟨rfl, rfl, rfl, by decide +kernel, rfl, by decide +kernel, by decide +kernel⟩
theorem ok_law_pick (B : Blt mg)  {f_law_draw : Addr} {fd_law_draw : FuncData} (D_law_draw : DefAt K mg "_law_draw" st_law_draw ["_law_pen_here", "_law_many"] f_law_draw fd_law_draw) {f_law_pick : Addr} {fd_law_pick : FuncData} (D_law_pick : DefAt K mg "_law_pick" st_law_pick ["_law_pen_here", "_law_some"] f_law_pick fd_law_pick) : FnOk P w K mg base CX0 2 f_law_pick fd_law_pick ["_law_pen_here", "_law_some"] (spPick K) := by
  have OK_law_draw : FnOk P w K mg base CX0 1 f_law_draw fd_law_draw ["_law_pen_here", "_law_many"] spDraw := ok_law_draw B  D_law_draw
  refine D_law_pick.F.ok sc_law_pick (fun vs H Q E h => ?_) (fun cdv A outer s H vs Q E hr h => ?_)
  · obtain ⟨p, c, a, m, xs, rfl, _⟩ := h; rfl
  · have hu := hu_of hr
    refine ⟨_, (pss_one (ps_ret (pe_ix ix_list (pv 1) (pe_call OK_law_draw (hr.mono (by decide)) rfl D_law_draw.m D_law_draw.F.kp D_law_draw.b .nil pass0 (pa_cons (pv 0) (pa_cons (pe_callB call_len_seq (by rfl) B.len_ (by decide +kernel) (pa_cons (pv 1) pa_nil)) pa_nil))) (fun _ _ => rfl)))), ?_⟩
    obtain ⟨p, c, a, m, xs, rfl, P, hm, hS, hl0, hl1, q⟩ := h
    refine ⟨_, rfl, _, rfl, _, rfl, a, xs, rfl, .inl hS, p, c, m, _, rfl, P, hm, by omega, by omega, fun r H' h0 h1 P' kp => ?_⟩
    obtain ⟨j, rfl⟩ := Int.eq_ofNat_of_zero_le h0
    have hj : j < xs.length := by omega
    exact ⟨a, xs, _, xs[j], rfl, rfl, kp.seqL P hS, at_of rfl (List.getElem?_eq_getElem hj), q j _ H' (List.getElem?_eq_getElem hj) P' kp⟩
end
end AL
set_option Elab.async false
set_option maxRecDepth 100000
set_option exponentiation.threshold 70000
set_option maxHeartbeats 1000000
/-! math.lcm of two ints below 2 ^ 13000. -/
namespace AL
open PySem PySem.Spec PyProof.Rows L2 PySem.W PySem.Calls
theorem lcm_lt {x y : Nat} (hx : x < 2 ^ 13000) (hy : y < 2 ^ 13000) : x.lcm y < 2 ^ 26000 := by
  have h1 : x.lcm y ≤ x * y := by
    unfold Nat.lcm
    exact Nat.div_le_self _ _
  have h2 : x * y < 2 ^ 13000 * 2 ^ 13000 := Nat.mul_lt_mul_of_lt_of_lt hx hy
  rw [← Nat.pow_add] at h2
  exact Nat.lt_of_le_of_lt h1 h2
section
variable {X : Cx}
theorem cr_lcm : CallR X (.builtin "math.lcm") (fun vs H Q => ∃ a b : Int, vs = [.int a, .int b] ∧ a.natAbs < 2 ^ 13000 ∧ b.natAbs < 2 ^ 13000 ∧ Q (.int ((Nat.lcm a.natAbs b.natAbs : Nat) : Int)) H) := by
  intro pins s σ H vs us Q I r h
  obtain ⟨a, b, rfl, ha, hb, q⟩ := h
  obtain ⟨t, u, rfl⟩ := Vals.int2 r
  have k : ∀ n : Nat, n < 2 ^ 13000 → ¬ n.log2 / 30 + 1 > 450 := fun n hn => by
    have := log2_small (k := 13000) (by decide) hn
    omega
  have e1 : Nat.lcm 1 a.natAbs = a.natAbs := Nat.lcm_one_left _
  have one : (1 : Nat) < 2 ^ 13000 := Nat.one_lt_two_pow (by decide)
  have sz : (((a.natAbs.lcm b.natAbs : Nat) : Int)).natAbs.log2 < bitsLine := by
    rw [Int.natAbs_natCast]
    exact Nat.lt_of_lt_of_le (log2_small (k := 26000) (by decide) (lcm_lt ha hb)) (by decide +kernel)
  have g := mg_run_lcm a t b u (k _ (Nat.max_lt.mpr ⟨one, ha⟩)) (k _ (Nat.max_lt.mpr ⟨ha, hb⟩)) (by rw [e1]; exact sz)
  rw [e1] at g
  exact call_function_meets MGF.kind_lcm MGF.plain_lcm MGF.entry_lcm (MGF.args_lcm _ _) g.meets ⟨.int _, H, I.tok _, ⟨_, rfl⟩, q⟩
end
end AL
set_option Elab.async false
set_option maxRecDepth 100000
set_option maxHeartbeats 2000000
/-! Operators that a class of the program writes itself; repr of any datum. -/
namespace AL
open PySem PySem.Spec PyProof.Rows L2
/-- repr(x), x any datum -/
def rReprV (K : PySem.W.Frag) : List V → Hp → VK → Prop := fun vs H Q => ∃ (v : V) (d : PyData), vs = [v] ∧ Dp K H v d ∧ d.showable = true ∧ d.hasDict = false ∧ d.depth ≤ 60 ∧ d.shown.length ≤ sizeLine ∧ Q (.str d.shown) H
theorem call_reprV {X : Cx} (gd : X.A.guards = some []) (hu : X.A.units + 64 < cLine) : CallR X (.builtin "repr") (rReprV X.K) := by
  intro pins s σ H vs us Q I r h
  obtain ⟨v, d, rfl, hd, h1, h2, h3, h4, q⟩ := h
  obtain ⟨u, rfl, ru⟩ := vals1 r
  have big : ∀ a : Addr, v = .ref a → wpAny (model X.prog X.w) X.A (call (.builtin "repr") [u]) (EP X pins σ Q) X.xe s := by
    intro a e
    subst e
    obtain rfl : u = Value.ref a := ru
    obtain ⟨as, rd⟩ := Dp.reads I d (.ref a) (.ref a) hd rfl
    exact repr_of_reads' rd h1 (PyData.noDict_hsm h2) gd (by omega) (fun _ _ z => z) (fun h' u tk kk => ⟨.str d.shown, H, I.kept (t' := tk) kk, ⟨u, rfl⟩, q⟩) h4
  cases hd with
  | non =>
    obtain rfl : u = Value.none := ru
    exact PySem.P.repr_of_none ⟨.str _, H, I.tok _, ⟨_, rfl⟩, q⟩
  | bl b =>
    obtain rfl : u = Value.bool b := ru
    refine PySem.P.repr_of_bool ⟨.str _, H, I.tok _, ⟨_, rfl⟩, ?_⟩
    cases b <;> exact q
  | int i =>
    obtain ⟨t, rfl⟩ := (show ∃ t, u = Value.int i t from ru)
    exact PySem.P.repr_of_int (by simpa [PyData.showable] using h1) ⟨.str _, H, I.tok _, ⟨_, rfl⟩, q⟩
  | str x =>
    obtain ⟨t, rfl⟩ := (show ∃ t, u = Value.str x t from ru)
    exact PySem.P.repr_of_str ⟨.str _, H, I.tok _, ⟨_, rfl⟩, q⟩ h4
  | lst hs ha => exact big _ rfl
  | tup hs ha => exact big _ rfl
/-- an instance -/
def InsAt (H : Hp) (a C : Addr) : Prop := ∃ dx fs, H a = some (.ins C dx fs)
/-- values that an own operator may hand back -/
def Told (v : V) : Prop := (∃ a, v = .ref a) ∨ ∃ b, v = .bl b
theorem cmpBack {Q : VK} {X : Cx} {pins : List (Addr × Obj)} {σ : L2.St} {u : Value} {s : Shared} (h : EP X pins σ (fun v H' => Told v ∧ Q v H') u s) : PySem.W.CmpBack (EP X pins σ Q) u s := by
  obtain ⟨v, H', I, r, t, q⟩ := h
  rcases t with ⟨a, rfl⟩ | ⟨b, rfl⟩
  · cases (show u = Value.ref a from r)
    exact ⟨.ref a, H', I, rfl, q⟩
  · cases (show u = Value.bool b from r)
    exact ⟨.bl b, H', I, rfl, q⟩
section
variable {X : Cx} {CX : CXT} {k : Nat} {f C : Addr} {fd : FuncData} {ps : List Str} {sp : Sp} {E : XK}
/-- x op y, both of the class at C, by its own method -/
def rOwn2 (C : Addr) (sp : Sp) (E : XK) : R2 := fun x y H Q => ∃ a b, x = .ref a ∧ y = .ref b ∧ InsAt H a C ∧ InsAt H b C ∧ sp [.ref a, .ref b] H (fun v H' => Told v ∧ Q v H') E
theorem op_own2 {op : Operator} (sf : PySem.W.selfFirst X.K C = true) (M : Meth X.K C (PySem.dunder op.info.2) f) (F : FnOk X.prog X.w X.K X.mg X.base CX k f fd ps sp) (hr : Room k X.A) (hb : Binds X.K fd ps []) (hx : Passes CX X E) : OpR X (binaryOp op) (rOwn2 C sp E) := by
  intro pins s σ H x y v u Q I rx ry h
  obtain ⟨a, b, rfl, rfl, ⟨dx, fs, ha⟩, ⟨dy, gs, hb'⟩, q⟩ := h
  cases rx
  cases ry
  obtain ⟨mA, J, _⟩ := ins_get I.hok ha
  obtain ⟨mB, J', _⟩ := ins_get I.hok hb'
  obtain ⟨od, J, _⟩ := J.look
  obtain ⟨od', J', _⟩ := J'.look
  obtain ⟨m, hF⟩ := I.fr
  refine PySem.W.binop_K (op := op) hF I.ok.mod.kin J J'.type sf M.at_ M.fn ?_
  exact wpAny_mono (run_fn F hr hb .nil hx I (vs := [.ref a, .ref b]) (.cons rfl (.cons rfl .nil)) q) (fun _ _ z => cmpBack z) fun _ _ z => z
/-- -x -/
def rOwn1 (C : Addr) (sp : Sp) (E : XK) : V → Hp → VK → Prop := fun x H Q => ∃ a, x = .ref a ∧ InsAt H a C ∧ sp [.ref a] H Q E
theorem un_own (M : Meth X.K C "__neg__" f) (F : FnOk X.prog X.w X.K X.mg X.base CX k f fd ps sp) (hr : Room k X.A) (hb : Binds X.K fd ps []) (hx : Passes CX X E) : UnR X (unaryOp .USub) (rOwn1 C sp E) := by
  intro pins s σ H x v Q I rx h
  obtain ⟨a, rfl, ⟨dx, fs, ha⟩, q⟩ := h
  cases rx
  obtain ⟨mA, J, _⟩ := ins_get I.hok ha
  obtain ⟨od, J, _⟩ := J.look
  unfold unaryOp
  refine wpAny_holding ?_
  show wpAny _ _ (callSpecial? (.ref a) "__neg__" >>= _) _ _ _
  refine wpAny_bind (PySem.W.special_fn I.kIn J M.at_ (beq_iff_eq.mp M.fn) ?_)
  exact wpAny_mono (run_fn F hr hb .nil hx I (vs := [.ref a]) (.cons rfl .nil) q) (fun _ _ z => wpAny_pure z) fun _ _ z => z
/-- x == y, x of the class at C -/
def rOwnE (K : PySem.W.Frag) (C : Addr) (sp : Sp) (E : XK) : R2 := fun x y H Q => ∃ a tb, x = .ref a ∧ InsAt H a C ∧ TyX K H y tb ∧ PySem.W.notFirst K C tb = true ∧ sp [.ref a, y] H (fun v H' => Told v ∧ Q v H') E
theorem op_ownE (M : Meth X.K C "__eq__" f) (F : FnOk X.prog X.w X.K X.mg X.base CX k f fd ps sp) (hr : Room k X.A) (hb : Binds X.K fd ps []) (hx : Passes CX X E) : OpR X (compareOp .Eq) (rOwnE X.K C sp E) := by
  intro pins s σ H x y v u Q I rx ry h
  obtain ⟨a, tb, rfl, ⟨dx, fs, ha⟩, ty, nf, q⟩ := h
  cases rx
  obtain ⟨mA, J, _⟩ := ins_get I.hok ha
  obtain ⟨od, J, _⟩ := J.look
  obtain ⟨m, hF⟩ := I.fr
  obtain ⟨P, Z, p, _⟩ := kit_of I ry ty
  show wpAny (model X.prog X.w) X.A (richCompare .Eq (.ref a) u) (EP X pins σ Q) X.xe s
  refine PySem.W.cmp_K (op := .Eq) (tb := tb) hr.units0 hF I.ok.mod.kin J (Z.ty _ _ I.kIn p) nf M.at_ M.fn ?_
  exact wpAny_mono (run_fn F hr hb .nil hx I (vs := [.ref a, y]) (.cons rfl (.cons ry .nil)) q) (fun _ _ z => cmpBack z) fun _ _ z => z
end
end AL
set_option Elab.async false
set_option maxRecDepth 100000
set_option exponentiation.threshold 70000
set_option maxHeartbeats 1000000
/-! Ratios as they are passed, and what the helpers of the program promise of them. -/
namespace AL
open PySem L2
def LowOk (a : Int) (b : Nat) : Prop := (a.natAbs < N4 ∧ b < N4) ∨ Nat.gcd a.natAbs b < 2 ^ 8000
/-- the pair in lowest terms -/
def nrm (a : Int) (b : Nat) : Int × Nat := (a.fdiv ((Nat.gcd a.natAbs b : Nat) : Int), b / Nat.gcd a.natAbs b)
theorem nrm_one (i : Int) : nrm i 1 = (i, 1) := by
  unfold nrm
  rw [Nat.gcd_one_right]
  show (i.fdiv ((1 : Nat) : Int), 1 / 1) = (i, 1)
  rw [Int.fdiv_eq_ediv_of_nonneg _ (by decide)]
  simp
/-- lowest(a, b) -/
def spLowC : Sp := fun vs H Q _ => ∃ (a : Int) (b : Nat), vs = [.int a, .int (b : Int)] ∧ LowOk a b ∧ b ≠ 0 ∧ ∀ t, H t = none → Q (.ref t) (upd H t (.tup [.int (nrm a b).1, .int ((nrm a b).2 : Int)]))
/-- _law_q(a, b) -/
def spQC : Sp := fun vs H Q _ => ∃ (a : Int) (b : Nat), vs = [.int a, .int (b : Int)] ∧ a.natAbs < N6 ∧ b < N6 ∧ LowOk a b ∧ b ≠ 0 ∧ ∀ t, H t = none → Q (.ref t) (upd H t (.tup [.int (nrm a b).1, .int ((nrm a b).2 : Int)]))
/-- is_whole(x), of a value of any kind -/
def spWholeV (K : PySem.W.Frag) : Sp := fun vs H Q _ => ∃ (x : V) (u : Value) (b c : Bool), vs = [x] ∧ TyX K H x u ∧ PySem.W.kitOne K u (.type "int") = some b ∧ PySem.W.kitOne K u (.type "bool") = some c ∧ Q (.bl (b && !c)) H
def flatW : V → Option Bool
  | .int _ => some true
  | .bl _ => some false
  | .non => some false
  | .str _ => some false
  | _ => none
theorem flat_ty {K : PySem.W.Frag} {H : Hp} {x : V} {w : Bool} (h : flatW x = some w) : ∃ u b c, TyX K H x u ∧ PySem.W.kitOne K u (.type "int") = some b ∧ PySem.W.kitOne K u (.type "bool") = some c ∧ (b && !c) = w := by
  cases x with
  | int i => cases h; exact ⟨_, true, false, TyX.base (.int i), rfl, rfl, rfl⟩
  | bl b => cases h; exact ⟨_, true, true, TyX.base (.bl b), rfl, rfl, rfl⟩
  | non => cases h; exact ⟨_, false, false, TyX.base .non, rfl, rfl, rfl⟩
  | str z => cases h; exact ⟨_, false, false, TyX.base (.str z), rfl, rfl, rfl⟩
  | _ => cases h
theorem flat_not {K : PySem.W.Frag} {H : Hp} {x : V} {w : Bool} (h : flatW x = some w) : ∃ u, TyX K H x u ∧ PySem.W.kitOne K u (.type "tuple") = some false := by
  cases x with
  | int i => exact ⟨_, TyX.base (.int i), rfl⟩
  | bl b => exact ⟨_, TyX.base (.bl b), rfl⟩
  | non => exact ⟨_, TyX.base .non, rfl⟩
  | str z => exact ⟨_, TyX.base (.str z), rfl⟩
  | _ => cases h
/-- are_integers(t), t a tuple of flat values -/
def spAre (K : PySem.W.Frag) : Sp := fun vs H Q _ => ∃ (t : Addr) (xs : List V) (f : V → Bool), vs = [.ref t] ∧ H t = some (.tup xs) ∧ xs.length ≤ 100 ∧ (∀ x ∈ xs, flatW x = some (f x)) ∧ ∀ H', Same H H' → Q (.bl (xs.all f)) H'
/-- what may be passed for a ratio: none where it is none -/
inductive RatV (K : PySem.W.Frag) (H : Hp) : V → Option (Int × Nat) → Prop
  | int (i : Int) : RatV K H (.int i) (some (i, 1))
  | pair {t : Addr} {p : Int} {q : Nat} (h : H t = some (.tup [.int p, .int (q : Int)])) (h0 : 0 < q) : RatV K H (.ref t) (some (p, q))
  | other {x : V} {u : Value} {b c : Bool} (h : TyX K H x u) (ht : PySem.W.kitOne K u (.type "tuple") = some false) (hb : PySem.W.kitOne K u (.type "int") = some b) (hc : PySem.W.kitOne K u (.type "bool") = some c) (no : (b && !c) = false) : RatV K H x none
  | long {t : Addr} {xs : List V} (h : H t = some (.tup xs)) (hl : xs.length ≠ 2) : RatV K H (.ref t) none
  | item {t : Addr} {x y : V} {b c : Bool} (h : H t = some (.tup [x, y])) (hx : flatW x = some b) (hy : flatW y = some c) (no : (b && c) = false) : RatV K H (.ref t) none
  | sign {t : Addr} {p q : Int} (h : H t = some (.tup [.int p, .int q])) (h0 : q ≤ 0) : RatV K H (.ref t) none
theorem RatV.same {K : PySem.W.Frag} {H H' : Hp} {x : V} {r : Option (Int × Nat)} (h : RatV K H x r) (s : Same H H') (ty : ∀ u, TyX K H x u → TyX K H' x u) : RatV K H' x r := by
  cases h with
  | int i => exact .int i
  | pair h h0 => exact .pair (s _ _ h) h0
  | other h ht hb hc no => exact .other (ty _ h) ht hb hc no
  | long h hl => exact .long (s _ _ h) hl
  | item h hx hy no => exact .item (s _ _ h) hx hy no
  | sign h h0 => exact .sign (s _ _ h) h0
/-- is_ratio(x) -/
def spIsRatV (K : PySem.W.Frag) : Sp := fun vs H Q _ => ∃ (x : V) (r : Option (Int × Nat)), vs = [x] ∧ RatV K H x r ∧ ∀ H', Same H H' → Q (.bl r.isSome) H'
/-- as_ratio(x) -/
def spAs (K : PySem.W.Frag) : Sp := fun vs H Q _ => ∃ (x : V) (p : Int) (q : Nat), vs = [x] ∧ RatV K H x (some (p, q)) ∧ LowOk p q ∧ ∀ t, H t = none → Q (.ref t) (upd H t (.tup [.int (nrm p q).1, .int ((nrm p q).2 : Int)]))
/-- whole_power(b, n) -/
def spPow : Sp := fun vs H Q _ => ∃ (b : Int) (n a : Nat), vs = [.int b, .int (n : Int)] ∧ b.natAbs < 2 ^ a ∧ 0 < a ∧ a * n ≤ 400000 ∧ a ≤ 400000 ∧ Q (.int (b ^ n)) H
/-- digits_of(i) -/
def spDig : Sp := fun vs H Q _ => ∃ (i : Int), vs = [.int i] ∧ Q (.int ((ndig i.natAbs : Nat) : Int)) H
/-- newton_step(n, j + 1, g) -/
def spStep : Sp := fun vs H Q _ => ∃ (n j g : Nat), vs = [.int (n : Int), .int ((j + 1 : Nat) : Int), .int (g : Int)] ∧ n < 2 ^ 8000 ∧ j < 1000 ∧ 0 < g ∧ g < 2 ^ 8100 ∧ g ^ j < 2 ^ 13500 ∧ Q (.int ((nstep n j g : Nat) : Int)) H
/-- floor_root(n, k) -/
def spFloor : Sp := fun vs H Q _ => ∃ (n k : Nat), vs = [.int (n : Int), .int (k : Int)] ∧ n < 2 ^ 4000 ∧ 0 < k ∧ k < 1000 ∧ ∀ g, isRoot n k g → Q (.int (g : Int)) H
/-- whole_root(n, k) -/
def spRoot : Sp := fun vs H Q _ => ∃ (n k : Nat), vs = [.int (n : Int), .int (k : Int)] ∧ n < 2 ^ 4000 ∧ 0 < k ∧ k < 1000 ∧ (∀ r, r ^ k = n → Q (.int (r : Int)) H) ∧ ((∀ r, r ^ k ≠ n) → Q .non H)
/-- ratio_root((p, q), k) -/
def spRatRoot (K : PySem.W.Frag) : Sp := fun vs H Q _ => ∃ (t : Addr) (p q k : Nat), vs = [.ref t, .int (k : Int)] ∧ H t = some (.tup [.int (p : Int), .int (q : Int)]) ∧ p < 2 ^ 4000 ∧ q < 2 ^ 4000 ∧ 0 < k ∧ k < 1000 ∧
  (∀ a b t', a ^ k = p → b ^ k = q → H t' = none → Q (.ref t') (upd H t' (.tup [.int (a : Int), .int (b : Int)]))) ∧ ((∀ a b, ¬ (a ^ k = p ∧ b ^ k = q)) → Q .non H)
end AL
set_option Elab.async false
set_option maxRecDepth 100000
set_option exponentiation.threshold 70000
set_option maxHeartbeats 1000000
/-! What ratio_text and root_of promise. -/
namespace AL
open PySem L2
def numI (a : Int) : Str := Str.ofString (toString a)
/-- the shortest text of a ratio in lowest terms -/
def txt (a : Int) (b : Nat) : Str := if b = 1 then numI a else numI a ++ "/" ++ numI (b : Int)
def many (a : Int) (b : Nat) : Nat := max (ndig a.natAbs) (ndig b)
/-- ratio_text(x) -/
def spText (K : PySem.W.Frag) (BN TL : Addr) : Sp := fun vs H Q E => ∃ (x : V) (r : Option (Int × Nat)), vs = [x] ∧ RatV K H x r ∧
  (r = none → ∀ d H1, H1 d = none → Same H H1 → E (.ref BN) (some d) (upd H1 d (.xd [("number", x), ("what", .str "ratio")]))) ∧
  (∀ p q, r = some (p, q) → LowOk p q ∧
    (4000 < many (nrm p q).1 (nrm p q).2 → ∀ d H1, H1 d = none → Same H H1 → E (.ref TL) (some d) (upd H1 d (.xd [("limit", .int 4000), ("number", .int ((many (nrm p q).1 (nrm p q).2 : Nat) : Int)), ("what", .str "digits")]))) ∧
    (many (nrm p q).1 (nrm p q).2 ≤ 4000 → ∀ H1, Same H H1 → Q (.str (txt (nrm p q).1 (nrm p q).2)) H1))
theorem RatV.someSame {K : PySem.W.Frag} {H H' : Hp} {x : V} {r : Int × Nat} (h : RatV K H x (some r)) (s : Same H H') : RatV K H' x (some r) := by
  cases h with
  | int i => exact .int i
  | pair h h0 => exact .pair (s _ _ h) h0
theorem RatV.pos {K : PySem.W.Frag} {H : Hp} {x : V} {p : Int} {q : Nat} (h : RatV K H x (some (p, q))) : 0 < q := by
  cases h with
  | int i => decide
  | pair h h0 => exact h0
/-- what may be passed for a root -/
inductive RootV (K : PySem.W.Frag) (H : Hp) : V → Option Nat → Prop
  | ok (k : Nat) (h1 : 1 ≤ k) (h2 : k ≤ 60) : RootV K H (.int (k : Int)) (some k)
  | far (i : Int) (h : i < 1 ∨ 60 < i) : RootV K H (.int i) none
  | other {x : V} {u : Value} {b c : Bool} (h : ∀ H', Same H H' → TyX K H' x u) (hb : PySem.W.kitOne K u (.type "int") = some b) (hc : PySem.W.kitOne K u (.type "bool") = some c) (no : (b && !c) = false) : RootV K H x none
/-- the ratio is none, or below 0 -/
def badRat : Option (Int × Nat) → Bool
  | none => true
  | some (p, q) => decide ((nrm p q).1 < 0)
/-- root_of(x, y) -/
def spRootOf (K : PySem.W.Frag) (BN : Addr) : Sp := fun vs H Q E => ∃ (x y : V) (r : Option (Int × Nat)) (k : Option Nat), vs = [x, y] ∧ RatV K H x r ∧ RootV K H y k ∧ (∀ p q, r = some (p, q) → LowOk p q) ∧
  (badRat r = true → ∀ d H1, H1 d = none → Same H H1 → E (.ref BN) (some d) (upd H1 d (.xd [("number", x), ("what", .str "ratio")]))) ∧
  (badRat r = false → k = none → ∀ d H1, H1 d = none → Same H H1 → E (.ref BN) (some d) (upd H1 d (.xd [("number", y), ("what", .str "root")]))) ∧
  (∀ p q n, r = some (p, q) → badRat r = false → k = some n → (nrm p q).1.natAbs < 2 ^ 4000 ∧ (nrm p q).2 < 2 ^ 4000 ∧
    (∀ u v t H1, u ^ n = (nrm p q).1.natAbs → v ^ n = (nrm p q).2 → H1 t = none → Same H H1 → Q (.ref t) (upd H1 t (.tup [.int (u : Int), .int (v : Int)]))) ∧
    ((∀ u v, ¬ (u ^ n = (nrm p q).1.natAbs ∧ v ^ n = (nrm p q).2)) → ∀ H1, Same H H1 → Q .non H1))
theorem empty_app (x : Str) : Str.empty ++ x = x := by
  cases x with
  | mk a =>
    show (⟨#[] ++ a⟩ : Str) = ⟨a⟩
    rw [Array.empty_append]
theorem numI_len {a : Int} {k : Nat} (hk : 0 < k) (h : a.natAbs < 10 ^ k) : (numI a).length ≤ k + 1 := by
  have e : (numI a).length = (toString a).length := by
    unfold numI
    rw [Str.ofString_eq_toList]
    show (((toString a).toList.map Char.toNat).toArray).size = _
    rw [List.size_toArray, List.length_map, String.length_toList]
  rw [e]
  have := int_text_length_le10 hk h
  omega
end AL
set_option Elab.async false
set_option maxRecDepth 100000
set_option exponentiation.threshold 70000
set_option maxHeartbeats 1000000
/-! What the law's own helpers promise. -/
namespace AL
open PySem L2
/-- _law_written(t) -/
def spWritten : Sp := fun vs H Q _ => ∃ (t : Addr) (a : Int) (b : Nat), vs = [.ref t] ∧ H t = some (.tup [.int a, .int (b : Int)]) ∧ many a b ≤ 4000 ∧ Q (.str (txt a b)) H
/-- _law_passed(pen, t) -/
def spPassed (K : PySem.W.Frag) : Sp := fun vs H Q _ => ∃ (p c t : Addr) (m : Nat) (a b : Nat), vs = [.ref p, .ref t] ∧ Pen H p c m ∧ m < 800000000 ∧ H t = some (.tup [.int (a : Int), .int (b : Int)]) ∧ 0 < b ∧ a < 2 ^ 4000 ∧ b < 2 ^ 4000 ∧
  ∀ (x : V) (k : Nat) H', 0 < k → k ≤ 10 → RatV K H' x (some (((a * k : Nat) : Int), b * k)) → Pen H' p c (m + 2) → Keep p H H' → Q x H'
/-- _law_power(t, n) -/
def spPower : Sp := fun vs H Q _ => ∃ (t : Addr) (a b n e : Nat), vs = [.ref t, .int (n : Int)] ∧ H t = some (.tup [.int (a : Int), .int (b : Int)]) ∧ a < 2 ^ e ∧ b < 2 ^ e ∧ 0 < e ∧ e * n ≤ 400000 ∧ e ≤ 400000 ∧ n ≤ 60 ∧
  ∀ t' H', Same H H' → H' t' = some (.tup [.int ((a ^ n : Nat) : Int), .int ((b ^ n : Nat) : Int)]) → Q (.ref t') H'
/-- _law_whole_power(a, n) -/
def spWP : Sp := fun vs H Q _ => ∃ (a n e : Nat), vs = [.int (a : Int), .int (n : Int)] ∧ a < 2 ^ e ∧ 0 < e ∧ e * n ≤ 400000 ∧ e ≤ 400000 ∧ n ≤ 60 ∧ Q (.int ((a ^ n : Nat) : Int)) H
/-- _law_is_power(n, k) -/
def spIsPow : Sp := fun vs H Q _ => ∃ (n k : Nat), vs = [.int (n : Int), .int (k : Int)] ∧ n < 2 ^ 4000 ∧ 0 < k ∧ k ≤ 60 ∧ ∀ (w : Bool) H', Same H H' → (w = true ↔ ∃ r, r ^ k = n) → Q (.bl w) H'
theorem pow_fit {a e i n : Nat} (ha : a < 2 ^ e) (he : 0 < e) (hin : i ≤ n) (hn : e * n ≤ 400000) : ((a ^ i : Nat) : Int).natAbs < 2 ^ 400001 := by
  rw [Int.natAbs_natCast]
  refine Nat.lt_of_le_of_lt (Nat.pow_le_pow_left (Nat.le_of_lt ha) i) ?_
  rw [← Nat.pow_mul]
  have := Nat.mul_le_mul_left e hin
  exact Nat.pow_lt_pow_right (by decide) (by omega)
theorem half_le {w j : Nat} (h : w ≤ 2 ^ (j + 1)) : (w + 1) / 2 ≤ 2 ^ j := by
  rw [Nat.pow_succ] at h
  omega
end AL
set_option Elab.async false
set_option maxRecDepth 100000
set_option exponentiation.threshold 70000
set_option maxHeartbeats 1000000
/-! Sums and products of ratios: both sides' promises, and what they mean. -/
namespace AL
open PySem L2
def DivOk (a b : Int) : Prop := (a.natAbs < 2 ^ 13500 ∧ b.natAbs < 2 ^ 13500) ∨ Nat.gcd a.natAbs b.natAbs < 2 ^ 8000
/-- lowest terms, the bottom of any sign -/
def shr (a b : Int) : Int := if b < 0 then -((Nat.gcd a.natAbs b.natAbs : Nat) : Int) else ((Nat.gcd a.natAbs b.natAbs : Nat) : Int)
def lowI (a b : Int) : Int × Int := (a.fdiv (shr a b), b.fdiv (shr a b))
theorem nrm_spec (a : Int) {b : Nat} (hb : 0 < b) : 0 < (nrm a b).2 ∧ Nat.gcd (nrm a b).1.natAbs (nrm a b).2 = 1 ∧ (nrm a b).1 * (b : Int) = a * ((nrm a b).2 : Int) := by
  have hg : 0 < Nat.gcd a.natAbs b := Nat.gcd_pos_of_pos_right _ hb
  have d1 : ((Nat.gcd a.natAbs b : Nat) : Int) ∣ a := Int.ofNat_dvd_left.mpr (Nat.gcd_dvd_left _ _)
  have d2 := Nat.gcd_dvd_right a.natAbs b
  have e1 : (nrm a b).1 = a / ((Nat.gcd a.natAbs b : Nat) : Int) := by
    unfold nrm
    exact Int.fdiv_eq_ediv_of_nonneg _ (by omega)
  have e2 : (nrm a b).2 = b / Nat.gcd a.natAbs b := rfl
  refine ⟨?_, ?_, ?_⟩
  · rw [e2]; exact Nat.div_pos (Nat.le_of_dvd hb d2) hg
  · rw [e1, e2, Int.natAbs_ediv_of_dvd d1, Int.natAbs_natCast, Nat.gcd_div (Nat.gcd_dvd_left _ _) d2, Nat.div_self hg]
  · rw [e1, e2]
    generalize hgg : Nat.gcd a.natAbs b = g at *
    obtain ⟨x, hx⟩ := d1
    obtain ⟨y, hy⟩ := d2
    have hg0 : (g : Int) ≠ 0 := by omega
    rw [hx, hy, Int.mul_ediv_cancel_left _ hg0, Nat.mul_div_cancel_left _ hg, Int.natCast_mul]
    rw [Int.mul_assoc, Int.mul_left_comm]
/-- two ratios in lowest terms that are the same number -/
theorem low_unique {p a : Int} {q b : Nat} (hq : 0 < q) (hb : 0 < b) (c1 : Nat.gcd p.natAbs q = 1) (c2 : Nat.gcd a.natAbs b = 1) (e : p * (b : Int) = a * (q : Int)) : p = a ∧ q = b := by
  have en : p.natAbs * b = a.natAbs * q := by
    have := congrArg Int.natAbs e
    rwa [Int.natAbs_mul, Int.natAbs_mul, Int.natAbs_natCast, Int.natAbs_natCast] at this
  have d1 : q ∣ b := (Nat.Coprime.dvd_of_dvd_mul_left (Nat.Coprime.symm c1) ⟨a.natAbs, by rw [en, Nat.mul_comm]⟩)
  have d2 : b ∣ q := (Nat.Coprime.dvd_of_dvd_mul_left (Nat.Coprime.symm c2) ⟨p.natAbs, by rw [← en, Nat.mul_comm]⟩)
  have hqb := Nat.dvd_antisymm d1 d2
  refine ⟨?_, hqb⟩
  subst hqb
  exact Int.eq_of_mul_eq_mul_right (by omega) e
theorem nrm_eq {p a : Int} {q b : Nat} (hq : 0 < q) (hb : 0 < b) (c1 : Nat.gcd p.natAbs q = 1) (e : p * (b : Int) = a * (q : Int)) : nrm a b = (p, q) := by
  obtain ⟨h1, h2, h3⟩ := nrm_spec a hb
  have e2 : p * ((nrm a b).2 : Int) = (nrm a b).1 * (q : Int) := by
    have hb0 : (b : Int) ≠ 0 := by omega
    refine Int.eq_of_mul_eq_mul_right hb0 ?_
    calc p * ((nrm a b).2 : Int) * (b : Int) = p * (b : Int) * ((nrm a b).2 : Int) := by rw [Int.mul_assoc, Int.mul_assoc, Int.mul_comm ((nrm a b).2 : Int)]
      _ = a * (q : Int) * ((nrm a b).2 : Int) := by rw [e]
      _ = a * ((nrm a b).2 : Int) * (q : Int) := by rw [Int.mul_assoc, Int.mul_assoc, Int.mul_comm (q : Int)]
      _ = (nrm a b).1 * (b : Int) * (q : Int) := by rw [← h3]
      _ = (nrm a b).1 * (q : Int) * (b : Int) := by rw [Int.mul_assoc, Int.mul_assoc, Int.mul_comm (b : Int)]
  obtain ⟨r1, r2⟩ := low_unique hq h1 c1 h2 e2
  exact Prod.ext r1.symm r2.symm
theorem lowI_pos (a : Int) (b : Nat) : lowI a (b : Int) = ((nrm a b).1, ((nrm a b).2 : Int)) := by
  have hs : shr a (b : Int) = ((Nat.gcd a.natAbs b : Nat) : Int) := by
    unfold shr
    rw [if_neg (by omega), Int.natAbs_natCast]
  unfold lowI nrm
  rw [hs, fdiv_nat]
theorem lowI_neg (a : Int) {b : Int} (h : 0 < b) : lowI a (-b) = lowI (-a) b := by
  unfold lowI shr
  rw [if_pos (by omega), if_neg (by omega), Int.natAbs_neg, Int.natAbs_neg]
  generalize ((Nat.gcd a.natAbs b.natAbs : Nat) : Int) = g
  have e : ∀ x : Int, x.fdiv (-g) = (-x).fdiv g := fun x => by
    have := Int.neg_fdiv_neg (a := -x) (b := g)
    rw [Int.neg_neg] at this
    exact this
  rw [e, e, Int.neg_neg]
/-- lowest(a, b), _law_q(a, b) -/
def spLowG : Sp := fun vs H Q _ => ∃ (a b : Int), vs = [.int a, .int b] ∧ DivOk a b ∧ b ≠ 0 ∧ ∀ t, H t = none → Q (.ref t) (upd H t (.tup [.int (lowI a b).1, .int (lowI a b).2]))
def spQG : Sp := fun vs H Q _ => ∃ (a b : Int), vs = [.int a, .int b] ∧ a.natAbs < N6 ∧ b.natAbs < N6 ∧ DivOk a b ∧ b ≠ 0 ∧ ∀ t, H t = none → Q (.ref t) (upd H t (.tup [.int (lowI a b).1, .int (lowI a b).2]))
/-- a ratio at t -/
def RatAt (H : Hp) (t : Addr) (a : Int) (b : Nat) : Prop := H t = some (.tup [.int a, .int (b : Int)])
def Mid (a : Int) (b : Nat) : Prop := 0 < b ∧ a.natAbs < 2 ^ 6000 ∧ b < 2 ^ 6000
/-- what two ratios make -/
def spTwo (f : Int → Nat → Int → Nat → Int × Nat) : Sp := fun vs H Q _ => ∃ (s t : Addr) (a c : Int) (b d : Nat), vs = [.ref s, .ref t] ∧ RatAt H s a b ∧ RatAt H t c d ∧ Mid a b ∧ Mid c d ∧ ∀ u, H u = none → Q (.ref u) (upd H u (.tup [.int (f a b c d).1, .int ((f a b c d).2 : Int)]))
def sumR (a : Int) (b : Nat) (c : Int) (d : Nat) : Int × Nat := nrm (a * (d : Int) + c * (b : Int)) (b * d)
def difR (a : Int) (b : Nat) (c : Int) (d : Nat) : Int × Nat := nrm (a * (d : Int) - c * (b : Int)) (b * d)
def mulR (a : Int) (b : Nat) (c : Int) (d : Nat) : Int × Nat := nrm (a * c) (b * d)
theorem mid_mul {x y : Int} (hx : x.natAbs < 2 ^ 6000) (hy : y.natAbs < 2 ^ 6000) : CMulW x y ∧ (x * y).natAbs < 2 ^ 12000 := by
  refine ⟨wide_mul (a := 6000) (b := 6000) hx hy (by decide) (by decide) (by decide), ?_⟩
  rw [Int.natAbs_mul, show (2 : Nat) ^ 12000 = 2 ^ 6000 * 2 ^ 6000 by rw [← Nat.pow_add]]
  exact Nat.mul_lt_mul_of_lt_of_lt hx hy
theorem mid_div {x y : Int} (hx : x.natAbs < 2 ^ 12001) (hy : y.natAbs < 2 ^ 12001) : DivOk x y ∧ x.natAbs < N6 ∧ y.natAbs < N6 := by
  have h1 : (2 : Nat) ^ 12001 ≤ 2 ^ 13500 := Nat.pow_le_pow_right (by decide) (by decide)
  have h2 : (2 : Nat) ^ 12001 ≤ N6 := by unfold N6; decide +kernel
  exact ⟨.inl ⟨Nat.lt_of_lt_of_le hx h1, Nat.lt_of_lt_of_le hy h1⟩, Nat.lt_of_lt_of_le hx h2, Nat.lt_of_lt_of_le hy h2⟩
theorem up12 {x : Nat} (h : x < 2 ^ 12000) : x < 2 ^ 12001 := Nat.lt_trans h (Nat.pow_lt_pow_right (by decide) (by decide))
theorem add12 {x y : Int} (hx : x.natAbs < 2 ^ 12000) (hy : y.natAbs < 2 ^ 12000) : (x + y).natAbs < 2 ^ 12001 ∧ (x - y).natAbs < 2 ^ 12001 := by
  have e : (2 : Nat) ^ 12001 = 2 ^ 12000 + 2 ^ 12000 := by rw [show 12001 = 12000 + 1 from rfl, Nat.pow_succ, Nat.mul_two]
  rw [e]
  generalize (2 : Nat) ^ 12000 = z at hx hy ⊢
  omega
end AL
set_option Elab.async false
set_option maxRecDepth 100000
set_option exponentiation.threshold 70000
set_option maxHeartbeats 1000000
/-! Amounts: what stands in the heap, what each method promises, and the arithmetic of both sides. -/
namespace AL
open PySem L2
/-! ### ratios in lowest terms -/
def Low (p : Int) (q : Nat) : Prop := 0 < q ∧ Nat.gcd p.natAbs q = 1
theorem nrm_low {p : Int} {q : Nat} (h : Low p q) : nrm p q = (p, q) := nrm_eq h.1 h.1 h.2 rfl
theorem low_nrm (a : Int) {b : Nat} (hb : 0 < b) : Low (nrm a b).1 (nrm a b).2 := by
  obtain ⟨h1, h2, _⟩ := nrm_spec a hb
  exact ⟨h1, h2⟩
theorem nrm_le (a : Int) (b : Nat) : (nrm a b).1.natAbs ≤ a.natAbs ∧ (nrm a b).2 ≤ b := by
  unfold nrm
  refine ⟨?_, Nat.div_le_self _ _⟩
  rw [Int.fdiv_eq_ediv_of_nonneg _ (by omega), Int.natAbs_ediv_of_dvd (Int.ofNat_dvd_left.mpr (Nat.gcd_dvd_left _ _)), Int.natAbs_natCast]
  exact Nat.div_le_self _ _
theorem low_neg {p : Int} {q : Nat} (h : Low p q) : Low (-p) q := ⟨h.1, by rw [Int.natAbs_neg]; exact h.2⟩
theorem low_one (i : Int) : Low i 1 := ⟨by decide, Nat.gcd_one_right _⟩
def Sm (p : Int) (q : Nat) : Prop := p.natAbs < 2 ^ 1000 ∧ q < 2 ^ 1000
theorem sm_mid {p : Int} {q : Nat} (h : Sm p q) (l : 0 < q) : Mid p q :=
  ⟨l, Nat.lt_of_lt_of_le h.1 (Nat.pow_le_pow_right (by decide) (by decide)), Nat.lt_of_lt_of_le h.2 (Nat.pow_le_pow_right (by decide) (by decide))⟩
/-- what a quotient of two ratios is -/
def ovR (p : Int) (q : Nat) (c : Int) (d : Nat) : Int × Nat := if c < 0 then nrm (-(p * d)) (q * c.natAbs) else nrm (p * d) (q * c.natAbs)
theorem ovR_eq (p : Int) (q : Nat) (c : Int) (d : Nat) (hq : 0 < q) (hc : c ≠ 0) : lowI (p * d) ((q : Int) * c) = ((ovR p q c d).1, ((ovR p q c d).2 : Int)) := by
  unfold ovR
  by_cases h : c < 0
  · rw [if_pos h]
    have e : (q : Int) * c = -(((q * c.natAbs : Nat) : Int)) := by
      rw [Int.natCast_mul, show ((c.natAbs : Nat) : Int) = -c by omega, Int.mul_neg, Int.neg_neg]
    have pos : (0 : Int) < ((q * c.natAbs : Nat) : Int) := by
      have : 0 < q * c.natAbs := Nat.mul_pos hq (Int.natAbs_pos.mpr hc)
      omega
    rw [e, lowI_neg _ pos, lowI_pos]
  · rw [if_neg h]
    have e : (q : Int) * c = (((q * c.natAbs : Nat) : Int)) := by
      rw [Int.natCast_mul, show ((c.natAbs : Nat) : Int) = c by omega]
    rw [e, lowI_pos]
theorem ovR_low (p : Int) (q : Nat) (c : Int) (d : Nat) (hq : 0 < q) (hc : c ≠ 0) : Low (ovR p q c d).1 (ovR p q c d).2 := by
  have pos : 0 < q * c.natAbs := Nat.mul_pos hq (Int.natAbs_pos.mpr hc)
  unfold ovR
  split
  · exact low_nrm _ pos
  · exact low_nrm _ pos
theorem mul2 {x y : Nat} (a b : Nat) (hx : x < 2 ^ a) (hy : y < 2 ^ b) : x * y < 2 ^ (a + b) := by
  rw [Nat.pow_add]
  exact Nat.mul_lt_mul_of_lt_of_lt hx hy
theorem up6 {x a : Nat} (h : x < 2 ^ a) (ha : a ≤ 6000) : x < 2 ^ 6000 := Nat.lt_of_lt_of_le h (Nat.pow_le_pow_right (by decide) ha)
theorem nrm_mid {a : Int} {b : Nat} (hb : 0 < b) (h1 : a.natAbs < 2 ^ 6000) (h2 : b < 2 ^ 6000) : Mid (nrm a b).1 (nrm a b).2 :=
  ⟨(low_nrm a hb).1, Nat.lt_of_le_of_lt (nrm_le a b).1 h1, Nat.lt_of_le_of_lt (nrm_le a b).2 h2⟩
theorem sm_prod {a : Int} {b : Nat} (h1 : a.natAbs < 2 ^ 1000) (h2 : b < 2 ^ 1000) : (a * (b : Int)).natAbs < 2 ^ 2000 := by
  rw [Int.natAbs_mul, Int.natAbs_natCast]
  exact mul2 1000 1000 h1 h2
theorem sum_ok {p c : Int} {q d : Nat} (s : Sm p q) (t : Sm c d) (hq : 0 < q) (hd : 0 < d) : Low (sumR p q c d).1 (sumR p q c d).2 ∧ Mid (sumR p q c d).1 (sumR p q c d).2 := by
  have pos := Nat.mul_pos hq hd
  have n1 := sm_prod s.1 t.2
  have n2 := sm_prod t.1 s.2
  have e : (2 : Nat) ^ 2001 = 2 ^ 2000 + 2 ^ 2000 := by rw [show 2001 = 2000 + 1 from rfl, Nat.pow_succ, Nat.mul_two]
  have n3 : (p * (d : Int) + c * (q : Int)).natAbs < 2 ^ 2001 := by
    rw [e]; generalize (2 : Nat) ^ 2000 = z at n1 n2 ⊢; omega
  exact ⟨low_nrm _ pos, nrm_mid pos (up6 n3 (by decide)) (up6 (mul2 1000 1000 s.2 t.2) (by decide))⟩
theorem dif_eq (p : Int) (q : Nat) (c : Int) (d : Nat) : difR p q c d = sumR p q (-c) d := by
  unfold difR sumR
  rw [Int.neg_mul, Int.sub_eq_add_neg]
theorem sm_neg {p : Int} {q : Nat} (h : Sm p q) : Sm (-p) q := ⟨by rw [Int.natAbs_neg]; exact h.1, h.2⟩
theorem mul_ok {p c : Int} {q d : Nat} (s : Sm p q) (t : Sm c d) (hq : 0 < q) (hd : 0 < d) : Low (mulR p q c d).1 (mulR p q c d).2 ∧ Mid (mulR p q c d).1 (mulR p q c d).2 := by
  have pos := Nat.mul_pos hq hd
  refine ⟨low_nrm _ pos, nrm_mid pos ?_ (up6 (mul2 1000 1000 s.2 t.2) (by decide))⟩
  rw [Int.natAbs_mul]
  exact up6 (mul2 1000 1000 s.1 t.1) (by decide)
theorem ov_ok {p c : Int} {q d : Nat} (s : Sm p q) (t : Sm c d) (hq : 0 < q) (hc : c ≠ 0) : Low (ovR p q c d).1 (ovR p q c d).2 ∧ Mid (ovR p q c d).1 (ovR p q c d).2 := by
  have pos : 0 < q * c.natAbs := Nat.mul_pos hq (Int.natAbs_pos.mpr hc)
  have h1 : (p * (d : Int)).natAbs < 2 ^ 6000 := up6 (sm_prod s.1 t.2) (by decide)
  have h2 : q * c.natAbs < 2 ^ 6000 := up6 (mul2 1000 1000 s.2 t.1) (by decide)
  refine ⟨ovR_low p q c d hq hc, ?_⟩
  unfold ovR
  split
  · exact nrm_mid pos (by rw [Int.natAbs_neg]; exact h1) h2
  · exact nrm_mid pos h1 h2
/-- the power n -/
def pwR (p : Int) (q : Nat) (n : Int) : Int × Nat := if n < 0 then ovR ((q ^ n.natAbs : Nat) : Int) 1 (p ^ n.natAbs) 1 else (p ^ n.natAbs, q ^ n.natAbs)
theorem pow6 {x n : Nat} (h : x < 2 ^ 1000) (hn : n ≤ 6) : x ^ n < 2 ^ 6000 := by
  rcases Nat.eq_zero_or_pos n with rfl | h0
  · exact Nat.one_lt_two_pow (by decide)
  · refine Nat.lt_of_lt_of_le (Nat.pow_lt_pow_left h (by omega)) ?_
    rw [← Nat.pow_mul]
    exact Nat.pow_le_pow_right (by decide) (by omega)
theorem pw_ok {p : Int} {q : Nat} {n : Int} (s : Sm p q) (l : Low p q) (hn : n.natAbs ≤ 6) (h0 : ¬ (n < 0 ∧ p = 0)) : Low (pwR p q n).1 (pwR p q n).2 ∧ Mid (pwR p q n).1 (pwR p q n).2 := by
  have hp : (p ^ n.natAbs).natAbs < 2 ^ 6000 := by rw [Int.natAbs_pow]; exact pow6 s.1 hn
  have hq := pow6 s.2 hn
  unfold pwR
  by_cases h : n < 0
  · rw [if_pos h]
    have hp0 : p ≠ 0 := fun z => h0 ⟨h, z⟩
    have e0 : p ^ n.natAbs ≠ 0 := Int.pow_ne_zero hp0
    have pos : 0 < 1 * (p ^ n.natAbs).natAbs := by rw [Nat.one_mul]; exact Int.natAbs_pos.mpr e0
    refine ⟨ovR_low _ _ _ _ (by decide) e0, ?_⟩
    have h1 : (((q ^ n.natAbs : Nat) : Int) * ((1 : Nat) : Int)).natAbs < 2 ^ 6000 := by rw [Int.natCast_one, Int.mul_one, Int.natAbs_natCast]; exact hq
    have h2 : 1 * (p ^ n.natAbs).natAbs < 2 ^ 6000 := by rw [Nat.one_mul]; exact hp
    unfold ovR
    split
    · exact nrm_mid pos (by rw [Int.natAbs_neg]; exact h1) h2
    · exact nrm_mid pos h1 h2
  · rw [if_neg h]
    have hq0 : 0 < q ^ n.natAbs := Nat.pow_pos l.1
    refine ⟨⟨hq0, ?_⟩, hq0, hp, hq⟩
    show Nat.gcd (p ^ n.natAbs).natAbs (q ^ n.natAbs) = 1
    rw [Int.natAbs_pow]
    exact Nat.Coprime.pow _ _ l.2
/-! ### the heap -/
/-- all but dicts stays -/
def KeepP (H H' : Hp) : Prop := ∀ b o, H b = some o → (∀ l, o ≠ .dK l) → H' b = some o
/-- all but dicts and tables stays -/
def KeepD (H H' : Hp) : Prop := ∀ b o, H b = some o → (∀ l, o ≠ .dK l) → (∀ ps, o ≠ .tbl ps) → H' b = some o
theorem KeepD.refl (H : Hp) : KeepD H H := fun _ _ h _ _ => h
theorem KeepP.refl (H : Hp) : KeepP H H := fun _ _ h _ => h
theorem KeepD.trans {H H1 H2 : Hp} (a : KeepD H H1) (b : KeepD H1 H2) : KeepD H H2 := fun c o h n t => b c o (a c o h n t) n t
theorem KeepP.trans {H H1 H2 : Hp} (a : KeepP H H1) (b : KeepP H1 H2) : KeepP H H2 := fun c o h n => b c o (a c o h n) n
theorem KeepP.d {H H1 : Hp} (a : KeepP H H1) : KeepD H H1 := fun c o h n _ => a c o h n
theorem Same.p {H H' : Hp} (s : Same H H') : KeepP H H' := fun b o h _ => s b o h
theorem Same.d {H H' : Hp} (s : Same H H') : KeepD H H' := (Same.p s).d
theorem Keep.p {p c : Addr} {m : Nat} {H H' : Hp} (k : Keep p H H') (P : Pen H p c m) : KeepP H H' := fun _ _ h n => k.at P h n
theorem ext_d {H H' : Hp} (e : LamX.ExtN H H') : KeepD H H' := fun b o h _ t => e b o h t
theorem pen_ext {H H' : Hp} {p c : Addr} {m : Nat} (P : Pen H p c m) (e : LamX.ExtN H H') : Pen H' p c m :=
  P.keep (fun o h => by
    obtain ⟨l, z⟩ := P.dict
    rw [z] at h; cases h
    exact e _ _ z (fun ps w => by cases w)) (fun o h => by
    obtain ⟨ns, i, d, n, f, h1, h2, _⟩ := P.ex
    rw [h2] at h; cases h
    exact e _ _ h2 (fun ps w => by cases w))
theorem tabs_p {T : List (Addr × Str)} {H H' : Hp} (t : LamX.Tabs T H) (k : KeepP H H') : LamX.Tabs T H' := fun p hp => by
  obtain ⟨ps, h1, h2, h3⟩ := t p hp
  refine ⟨ps, k _ _ h1 (fun l z => by cases z), h2, fun pos cv hc => ?_⟩
  obtain ⟨c, e1, e2⟩ := h3 pos cv hc
  exact ⟨c, e1, k _ _ e2 (fun l z => by unfold LamX.CodeO at z; cases z)⟩
theorem KeepD.tup {H H' : Hp} (k : KeepD H H') {a : Addr} {xs : List V} (h : H a = some (.tup xs)) : H' a = some (.tup xs) := k a _ h (fun l z => by cases z) (fun l z => by cases z)
theorem KeepD.lst {H H' : Hp} (k : KeepD H H') {a : Addr} {xs : List V} (h : H a = some (.lst xs)) : H' a = some (.lst xs) := k a _ h (fun l z => by cases z) (fun l z => by cases z)
theorem kEN : ¬ (("exponents" : Str) = "number") := by decide +kernel
def flA (t r : Addr) : List (Str × V) := putF "number" (.ref r) (putF "exponents" (.ref t) [])
theorem flA_e (t r : Addr) : (flA t r).lookup ("exponents" : Str) = some (.ref t) := by
  unfold flA
  rw [lookup_putF, if_neg kEN, lookup_putF, if_pos rfl]
theorem flA_n (t r : Addr) : (flA t r).lookup ("number" : Str) = some (.ref r) := by
  unfold flA
  rw [lookup_putF, if_pos rfl]
theorem flA_no (t r : Addr) {m : Str} (h1 : ¬ m = "number") (h2 : ¬ m = "exponents") : (flA t r).lookup m = none := by
  unfold flA
  rw [lookup_putF, if_neg h1, lookup_putF, if_neg h2]
  all_goals rfl
def TupI (H : Hp) (t : Addr) (es : List Int) : Prop := H t = some (.tup (es.map V.int))
/-- an amount stands at x -/
structure Amt (CA : Addr) (H : Hp) (x : Addr) (es : List Int) (p : Int) (q : Nat) : Prop where
  ex : ∃ dx t r, H x = some (.ins CA dx (flA t r)) ∧ TupI H t es ∧ RatAt H r p q
  ne : es ≠ []
  le : es.length ≤ 60
  low : Low p q
  mid : Mid p q
theorem Amt.keep {CA x : Addr} {H H' : Hp} {es : List Int} {p : Int} {q : Nat} (h : Amt CA H x es p q) (k : KeepD H H') : Amt CA H' x es p q := by
  obtain ⟨dx, t, r, h1, h2, h3⟩ := h.ex
  exact ⟨⟨dx, t, r, k x _ h1 (fun l z => by cases z) (fun l z => by cases z), k.tup h2, k.tup h3⟩, h.ne, h.le, h.low, h.mid⟩
theorem Amt.ins {CA x : Addr} {H : Hp} {es : List Int} {p : Int} {q : Nat} (h : Amt CA H x es p q) : InsAt H x CA := by
  obtain ⟨dx, t, r, h1, _⟩ := h.ex
  exact ⟨dx, _, h1⟩
theorem dpAll_int {K : PySem.W.Frag} {H : Hp} : ∀ l : List Int, DpAll K H (l.map V.int) (l.map PyData.int)
  | [] => .nil
  | i :: l => .cons (.int i) (dpAll_int l)
theorem dp_ints {K : PySem.W.Frag} {H : Hp} {t : Addr} {es : List Int} (h : TupI H t es) : Dp K H (.ref t) (.tuple (es.map PyData.int)) := .tup (SqT.of h) (dpAll_int es)
theorem can_ints (l : List Int) : PyData.canLayAll0 (l.map PyData.int) = true ∧ PyData.depthAll (l.map PyData.int) = 0 := by
  induction l with
  | nil => exact ⟨rfl, rfl⟩
  | cons b l ih => exact ⟨by simp [PyData.canLayAll0, PyData.canLay0, ih.1], by simp [PyData.depthAll, PyData.depth, ih.2]⟩
theorem shaped_ints (l : List Int) : SeqAt.shaped (.tuple (l.map PyData.int)) = true := by
  unfold SeqAt.shaped
  rw [show PyData.canLay0 (.tuple (l.map PyData.int)) = true by simpa [PyData.canLay0] using (can_ints l).1]
  simp [PyData.depth, (can_ints l).2]
theorem eqv_ints (a b : List Int) : PyData.eqv (.tuple (a.map PyData.int)) (.tuple (b.map PyData.int)) = decide (a = b) := by
  rw [PyData.eqv]
  exact PySem.W.ked_eqvAll a b
theorem rat_ints {H : Hp} {r : Addr} {p : Int} {q : Nat} (h : RatAt H r p q) : TupI H r [p, (q : Int)] := h
/-! ### what may be passed for exponents -/
inductive BadExp (K : PySem.W.Frag) (H : Hp) : V → Prop
  | other {x : V} {u : Value} (h : TyX K H x u) (ht : PySem.W.kitOne K u (.type "tuple") = some false) : BadExp K H x
  | empty {t : Addr} (h : H t = some (.tup [])) : BadExp K H (.ref t)
  | item {t : Addr} {xs : List V} (f : V → Bool) (h : H t = some (.tup xs)) (ne : xs ≠ []) (hl : xs.length ≤ 100)
      (hf : ∀ H', Same H H' → ∀ x ∈ xs, ∃ u b c, TyX K H' x u ∧ PySem.W.kitOne K u (.type "int") = some b ∧ PySem.W.kitOne K u (.type "bool") = some c ∧ (b && !c) = f x) (no : xs.all f = false) : BadExp K H (.ref t)
/-- are_integers(t) -/
def spAreG (K : PySem.W.Frag) : Sp := fun vs H Q _ => ∃ (t : Addr) (xs : List V) (f : V → Bool), vs = [.ref t] ∧ H t = some (.tup xs) ∧ xs.length ≤ 100 ∧
  (∀ H', Same H H' → ∀ x ∈ xs, ∃ u b c, TyX K H' x u ∧ PySem.W.kitOne K u (.type "int") = some b ∧ PySem.W.kitOne K u (.type "bool") = some c ∧ (b && !c) = f x) ∧ ∀ H', Same H H' → Q (.bl (xs.all f)) H'
theorem flat_all {K : PySem.W.Frag} {H : Hp} {xs : List V} {f : V → Bool} (h : ∀ x ∈ xs, flatW x = some (f x)) : ∀ H', Same H H' → ∀ x ∈ xs, ∃ u b c, TyX K H' x u ∧ PySem.W.kitOne K u (.type "int") = some b ∧ PySem.W.kitOne K u (.type "bool") = some c ∧ (b && !c) = f x :=
  fun _ _ x hx => flat_ty (h x hx)
theorem ints_all {K : PySem.W.Frag} {H : Hp} (es : List Int) : ∀ H', Same H H' → ∀ x ∈ es.map V.int, ∃ u b c, TyX K H' x u ∧ PySem.W.kitOne K u (.type "int") = some b ∧ PySem.W.kitOne K u (.type "bool") = some c ∧ (b && !c) = (fun _ => true) x :=
  flat_all (K := K) (H := H) (f := fun _ => true) fun x hx => by
    obtain ⟨i, _, rfl⟩ := List.mem_map.mp hx
    rfl
/-! ### the methods' promises -/
def errN (what : Str) (v : V) : HO := .xd [("number", v), ("what", .str what)]
def errU (t u : Addr) : HO := .xd [("other", .ref u), ("one", .ref t), ("place", .int 0)]
def errZ : HO := .xd [("place", .int 0)]
/-- the error of unlike exponents, at H -/
def ThrowU (UL : Addr) (H : Hp) (es fs : List Int) (E : XK) : Prop := ∀ t u d H1, TupI H1 t es → TupI H1 u fs → H1 d = none → Same H H1 → E (.ref UL) (some d) (upd H1 d (errU t u))
def spLike (CA UL : Addr) : Sp := fun vs H Q E => ∃ x y es fs p q c d, vs = [.ref x, .ref y] ∧ Amt CA H x es p q ∧ Amt CA H y fs c d ∧ (es = fs → Q .non H) ∧ (es ≠ fs → ThrowU UL H es fs E)
/-- Amount.__init__(self, exponents, number) -/
def spIniA (K : PySem.W.Frag) (CA BN : Addr) : Sp := fun vs H Q E => ∃ (x dx : Addr) (e n : V), vs = [.ref x, e, n] ∧ H x = some (.ins CA dx []) ∧
  ((BadExp K H e ∧ ∀ d H1, H1 d = none → Same H H1 → E (.ref BN) (some d) (upd H1 d (errN "exponents" e))) ∨
   (∃ t es, e = .ref t ∧ TupI H t es ∧ es ≠ [] ∧ es.length ≤ 60 ∧
     ((RatV K H n none ∧ ∀ d H1, H1 d = none → Same H H1 → E (.ref BN) (some d) (upd H1 d (errN "number" n))) ∨
      ∃ p q, RatV K H n (some (p, q)) ∧ Mid p q ∧
        ∀ r H', (∀ b o, b ≠ x → H b = some o → H' b = some o) → H' x = some (.ins CA dx (flA t r)) → RatAt H' r (nrm p q).1 (nrm p q).2 → Q .non H')))
/-- x + y, x - y -/
def spSumA (CA UL : Addr) (f : Int → Nat → Int → Nat → Int × Nat) : Sp := fun vs H Q E => ∃ x y es fs p q c d, vs = [.ref x, .ref y] ∧ Amt CA H x es p q ∧ Amt CA H y fs c d ∧ Sm p q ∧ Sm c d ∧
  (es = fs → ∀ z H', Same H H' → Amt CA H' z es (f p q c d).1 (f p q c d).2 → Q (.ref z) H') ∧ (es ≠ fs → ThrowU UL H es fs E)
def spLessA (CA UL : Addr) : Sp := fun vs H Q E => ∃ x y es fs p q c d, vs = [.ref x, .ref y] ∧ Amt CA H x es p q ∧ Amt CA H y fs c d ∧ (es = fs → Q (.bl (decide (p * (d : Int) < c * (q : Int)))) H) ∧ (es ≠ fs → ThrowU UL H es fs E)
def spMulA (CA : Addr) : Sp := fun vs H Q _ => ∃ x y es fs p q c d, vs = [.ref x, .ref y] ∧ Amt CA H x es p q ∧ Amt CA H y fs c d ∧ Sm p q ∧ Sm c d ∧ es.length = fs.length ∧
  ∀ z H', Same H H' → Amt CA H' z (List.zipWith (· + ·) es fs) (mulR p q c d).1 (mulR p q c d).2 → Q (.ref z) H'
def spNegA (CA : Addr) : Sp := fun vs H Q _ => ∃ x es p q, vs = [.ref x] ∧ Amt CA H x es p q ∧ ∀ z H', Same H H' → Amt CA H' z es (-p) q → Q (.ref z) H'
def spOverA (CA BZ : Addr) : Sp := fun vs H Q E => ∃ x y es fs p q c d, vs = [.ref x, .ref y] ∧ Amt CA H x es p q ∧ Amt CA H y fs c d ∧ Sm p q ∧ Sm c d ∧ es.length = fs.length ∧
  (c = 0 → ∀ dd, H dd = none → E (.ref BZ) (some dd) (upd H dd errZ)) ∧
  (c ≠ 0 → ∀ z H', Same H H' → Amt CA H' z (List.zipWith (· - ·) es fs) (ovR p q c d).1 (ovR p q c d).2 → Q (.ref z) H')
def spPowA (K : PySem.W.Frag) (CA BN BZ : Addr) : Sp := fun vs H Q E => ∃ x v es p q, vs = [.ref x, v] ∧ Amt CA H x es p q ∧ Sm p q ∧
  ((∃ u b c, TyX K H v u ∧ PySem.W.kitOne K u (.type "int") = some b ∧ PySem.W.kitOne K u (.type "bool") = some c ∧ (b && !c) = false ∧ ∀ dd, H dd = none → E (.ref BN) (some dd) (upd H dd (errN "power" v))) ∨
   ∃ n : Int, v = .int n ∧ n.natAbs ≤ 6 ∧ ((n < 0 ∧ p = 0) → ∀ dd, H dd = none → E (.ref BZ) (some dd) (upd H dd errZ)) ∧
     (¬ (n < 0 ∧ p = 0) → ∀ z H', Same H H' → Amt CA H' z (es.map (n * ·)) (pwR p q n).1 (pwR p q n).2 → Q (.ref z) H'))
def spEqA (K : PySem.W.Frag) (CA : Addr) : Sp := fun vs H Q _ => ∃ x v es p q, vs = [.ref x, v] ∧ Amt CA H x es p q ∧
  ((∃ y fs c d, v = .ref y ∧ Amt CA H y fs c d ∧ Q (.bl (decide (es = fs) && decide (p = c ∧ q = d))) H) ∨ (∃ tb, TyX K H v tb ∧ PySem.W.kitOne K tb (.ref CA) = some false ∧ Q (.bl false) H))
end AL
set_option Elab.async false
set_option maxRecDepth 100000
set_option exponentiation.threshold 70000
set_option maxHeartbeats 1000000
/-! Sums and products of ratios in lowest terms, with small divisors. -/
namespace AL
open PySem L2
theorem tyx_same {K : PySem.W.Frag} {H H' : Hp} (s : Same H H') {x : V} {u : Value} (h : TyX K H x u) : TyX K H' x u := by
  cases h with
  | base b =>
    refine .base ?_
    cases b with
    | non => exact .non
    | bl x => exact .bl x
    | int i => exact .int i
    | str x => exact .str x
    | flt x => exact .flt x
    | lst e => exact .lst (s _ _ e)
    | frz e => exact .frz (s _ _ e)
    | tup e => exact .tup (s _ _ e)
    | dK e => exact .dK (s _ _ e)
    | dT e => exact .dT (s _ _ e)
    | ins e cl ha hn htk hm => exact .ins (s _ _ e) cl ha hn htk hm
  | byt b => exact .byt b
  | set e => exact .set (s _ _ e)
  | kList e c => exact .kList e c
  | kTuple e c => exact .kTuple e c
  | kDict e c => exact .kDict e c
  | fTuple e => exact .fTuple (s _ _ e)
  | fDict e => exact .fDict (s _ _ e)
theorem ratV_same {K : PySem.W.Frag} {H H' : Hp} {x : V} {r : Option (Int × Nat)} (h : RatV K H x r) (s : Same H H') : RatV K H' x r := h.same s fun _ z => tyx_same s z
theorem cop_mul {x y z : Nat} (h1 : Nat.gcd x y = 1) (h2 : Nat.gcd x z = 1) : Nat.gcd x (y * z) = 1 := Nat.Coprime.mul_right h1 h2
/-- the sum's parts -/
def shG (b d : Nat) : Nat := Nat.gcd b d
def totS (a : Int) (b : Nat) (c : Int) (d : Nat) : Int := a * ((d / Nat.gcd b d : Nat) : Int) + c * ((b / Nat.gcd b d : Nat) : Int)
def lefS (a : Int) (b : Nat) (c : Int) (d : Nat) : Nat := Nat.gcd (totS a b c d).natAbs (Nat.gcd b d)
theorem sum_short {a c : Int} {b d : Nat} (h : Low a b) (k : Low c d) : sumR a b c d = ((totS a b c d).fdiv ((lefS a b c d : Nat) : Int), b / lefS a b c d * (d / Nat.gcd b d)) := by
  have g0 : 0 < Nat.gcd b d := Nat.gcd_pos_of_pos_left _ h.1
  have l0 : 0 < lefS a b c d := Nat.gcd_pos_of_pos_right _ g0
  have co' : Nat.gcd (b / Nat.gcd b d) (d / Nat.gcd b d) = 1 := Nat.coprime_div_gcd_div_gcd g0
  have eb : b / Nat.gcd b d * Nat.gcd b d = b := Nat.div_mul_cancel (Nat.gcd_dvd_left _ _)
  have ed : d / Nat.gcd b d * Nat.gcd b d = d := Nat.div_mul_cancel (Nat.gcd_dvd_right _ _)
  have lt : lefS a b c d ∣ (totS a b c d).natAbs := Nat.gcd_dvd_left _ _
  have lg : lefS a b c d ∣ Nat.gcd b d := Nat.gcd_dvd_right _ _
  have eg : Nat.gcd b d / lefS a b c d * lefS a b c d = Nat.gcd b d := Nat.div_mul_cancel lg
  have cg : Nat.gcd ((totS a b c d).natAbs / lefS a b c d) (Nat.gcd b d / lefS a b c d) = 1 := Nat.coprime_div_gcd_div_gcd l0
  have lI : ((lefS a b c d : Nat) : Int) ∣ totS a b c d := Int.ofNat_dvd_left.mpr lt
  have eT : (totS a b c d).fdiv ((lefS a b c d : Nat) : Int) * ((lefS a b c d : Nat) : Int) = totS a b c d := by
    rw [Int.fdiv_eq_ediv_of_nonneg _ (by omega)]
    exact Int.ediv_mul_cancel lI
  have aT : ((totS a b c d).fdiv ((lefS a b c d : Nat) : Int)).natAbs = (totS a b c d).natAbs / lefS a b c d := by
    rw [Int.fdiv_eq_ediv_of_nonneg _ (by omega), Int.natAbs_ediv_of_dvd lI, Int.natAbs_natCast]
  have defT : totS a b c d = a * ((d / Nat.gcd b d : Nat) : Int) + c * ((b / Nat.gcd b d : Nat) : Int) := rfl
  generalize lefS a b c d = l at *
  generalize totS a b c d = T at *
  generalize hg : Nat.gcd b d = g at *
  generalize hb' : b / g = b' at *
  generalize hd' : d / g = d' at *
  generalize hg' : g / l = g' at *
  have hbl : b / l = b' * g' := by
    rw [← eb, ← eg, ← Nat.mul_assoc, Nat.mul_div_cancel _ l0]
  have hT0 : (T.fdiv (l : Int)).natAbs * l = T.natAbs := by rw [aT]; exact Nat.div_mul_cancel lt
  have dT : (T.fdiv (l : Int)).natAbs ∣ T.natAbs := ⟨l, hT0.symm⟩
  -- no divisor with b', none with d'
  have key : ∀ {x : Int} {y z w : Nat}, Nat.gcd x.natAbs (y * g) = 1 → Nat.gcd y z = 1 → (∀ e : Nat, e ∣ y → e ∣ T.natAbs → e ∣ (x * (z : Int)).natAbs) → Nat.gcd (T.fdiv (l : Int)).natAbs y = 1 := by
    intro x y z w h1 h2 h3
    have e1 := Nat.gcd_dvd_left (T.fdiv (l : Int)).natAbs y
    have e2 := Nat.gcd_dvd_right (T.fdiv (l : Int)).natAbs y
    generalize Nat.gcd (T.fdiv (l : Int)).natAbs y = e at e1 e2 ⊢
    have e3 := h3 e e2 (Nat.dvd_trans e1 dT)
    rw [Int.natAbs_mul, Int.natAbs_natCast] at e3
    have ce : Nat.gcd e z = 1 := Nat.Coprime.coprime_dvd_left e2 h2
    have e4 : e ∣ x.natAbs := Nat.Coprime.dvd_of_dvd_mul_right ce e3
    have e5 : e ∣ y * g := Nat.dvd_trans e2 (Nat.dvd_mul_right _ _)
    have e6 : e ∣ Nat.gcd x.natAbs (y * g) := Nat.dvd_gcd e4 e5
    rw [h1] at e6
    exact Nat.dvd_one.mp e6
  have dvd_sub : ∀ {e : Nat} {x y : Int}, e ∣ (x + y).natAbs → e ∣ y.natAbs → e ∣ x.natAbs := by
    intro e x y h1 h2
    have i1 := Int.ofNat_dvd_left.mpr h1
    have i2 := Int.ofNat_dvd_left.mpr h2
    have i3 := Int.dvd_sub i1 i2
    rw [Int.add_sub_cancel] at i3
    exact Int.ofNat_dvd_left.mp i3
  have k1 : Nat.gcd (T.fdiv (l : Int)).natAbs b' = 1 := by
    refine key (x := a) (z := d') (w := 0) (by rw [eb]; exact h.2) co' fun e he ht => ?_
    rw [defT] at ht
    refine dvd_sub ht ?_
    rw [Int.natAbs_mul, Int.natAbs_natCast]
    exact Nat.dvd_trans he (Nat.dvd_mul_left _ _)
  have k2 : Nat.gcd (T.fdiv (l : Int)).natAbs d' = 1 := by
    refine key (x := c) (z := b') (w := 0) (by rw [ed]; exact k.2) (by rw [Nat.gcd_comm]; exact co') fun e he ht => ?_
    rw [defT, Int.add_comm] at ht
    refine dvd_sub ht ?_
    rw [Int.natAbs_mul, Int.natAbs_natCast]
    exact Nat.dvd_trans he (Nat.dvd_mul_left _ _)
  have k3 : Nat.gcd (T.fdiv (l : Int)).natAbs g' = 1 := by rw [aT]; exact cg
  have b'0 : 0 < b' := Nat.pos_of_ne_zero fun z => by rw [z, Nat.zero_mul] at eb; have := h.1; omega
  have d'0 : 0 < d' := Nat.pos_of_ne_zero fun z => by rw [z, Nat.zero_mul] at ed; have := k.1; omega
  have g'0 : 0 < g' := Nat.pos_of_ne_zero fun z => by rw [z, Nat.zero_mul] at eg; omega
  unfold sumR
  refine nrm_eq ?_ (Nat.mul_pos h.1 k.1) ?_ ?_
  · rw [hbl]; exact Nat.mul_pos (Nat.mul_pos b'0 g'0) d'0
  · rw [hbl]; exact cop_mul (cop_mul k1 k3) k2
  · rw [hbl]
    have eb2 : (b : Int) = (b' : Int) * (g' : Int) * (l : Int) := by rw [← eb, ← eg]; push_cast; rw [Int.mul_assoc]
    have ed2 : (d : Int) = (d' : Int) * (g' : Int) * (l : Int) := by rw [← ed, ← eg]; push_cast; rw [Int.mul_assoc]
    have eS : a * (d : Int) + c * (b : Int) = T * ((g' : Int) * (l : Int)) := by
      rw [defT, eb2, ed2, Int.add_mul]
      congr 1
      · simp only [Int.mul_assoc]
      · simp only [Int.mul_assoc]
    rw [eS, Int.natCast_mul, Int.natCast_mul, Int.natCast_mul]
    have e3 : T * ((g' : Int) * (l : Int)) = T.fdiv (l : Int) * (l : Int) * ((g' : Int) * (l : Int)) := by rw [eT]
    rw [e3, eb2, ed2]
    generalize T.fdiv (l : Int) = t
    simp only [Int.mul_assoc, Int.mul_comm, Int.mul_left_comm]
theorem mul_short {a c : Int} {b d : Nat} (h : Low a b) (k : Low c d) : mulR a b c d = (a.fdiv ((Nat.gcd a.natAbs d : Nat) : Int) * c.fdiv ((Nat.gcd c.natAbs b : Nat) : Int), b / Nat.gcd c.natAbs b * (d / Nat.gcd a.natAbs d)) := by
  have f0 : 0 < Nat.gcd a.natAbs d := Nat.gcd_pos_of_pos_right _ k.1
  have s0 : 0 < Nat.gcd c.natAbs b := Nat.gcd_pos_of_pos_right _ h.1
  have part : ∀ {x : Int} {y : Nat}, 0 < Nat.gcd x.natAbs y → x.fdiv ((Nat.gcd x.natAbs y : Nat) : Int) * ((Nat.gcd x.natAbs y : Nat) : Int) = x ∧ (x.fdiv ((Nat.gcd x.natAbs y : Nat) : Int)).natAbs = x.natAbs / Nat.gcd x.natAbs y ∧ Nat.gcd (x.natAbs / Nat.gcd x.natAbs y) (y / Nat.gcd x.natAbs y) = 1 ∧ y / Nat.gcd x.natAbs y * Nat.gcd x.natAbs y = y := by
    intro x y g0
    have dI : ((Nat.gcd x.natAbs y : Nat) : Int) ∣ x := Int.ofNat_dvd_left.mpr (Nat.gcd_dvd_left _ _)
    refine ⟨?_, ?_, Nat.coprime_div_gcd_div_gcd g0, Nat.div_mul_cancel (Nat.gcd_dvd_right _ _)⟩
    · rw [Int.fdiv_eq_ediv_of_nonneg _ (by omega)]
      exact Int.ediv_mul_cancel dI
    · rw [Int.fdiv_eq_ediv_of_nonneg _ (by omega), Int.natAbs_ediv_of_dvd dI, Int.natAbs_natCast]
  obtain ⟨a1, a2, a3, a4⟩ := part f0
  obtain ⟨c1, c2, c3, c4⟩ := part s0
  have da : a.natAbs / Nat.gcd a.natAbs d ∣ a.natAbs := Nat.div_dvd_of_dvd (Nat.gcd_dvd_left _ _)
  have dc : c.natAbs / Nat.gcd c.natAbs b ∣ c.natAbs := Nat.div_dvd_of_dvd (Nat.gcd_dvd_left _ _)
  have db : b / Nat.gcd c.natAbs b ∣ b := Nat.div_dvd_of_dvd (Nat.gcd_dvd_right _ _)
  have dd : d / Nat.gcd a.natAbs d ∣ d := Nat.div_dvd_of_dvd (Nat.gcd_dvd_right _ _)
  have x1 : Nat.gcd (a.natAbs / Nat.gcd a.natAbs d) (b / Nat.gcd c.natAbs b) = 1 := Nat.Coprime.coprime_dvd_left da (Nat.Coprime.coprime_dvd_right db h.2)
  have x2 : Nat.gcd (c.natAbs / Nat.gcd c.natAbs b) (d / Nat.gcd a.natAbs d) = 1 := Nat.Coprime.coprime_dvd_left dc (Nat.Coprime.coprime_dvd_right dd k.2)
  have b0 : 0 < b / Nat.gcd c.natAbs b := Nat.div_pos (Nat.le_of_dvd h.1 (Nat.gcd_dvd_right _ _)) s0
  have d0 : 0 < d / Nat.gcd a.natAbs d := Nat.div_pos (Nat.le_of_dvd k.1 (Nat.gcd_dvd_right _ _)) f0
  unfold mulR
  refine nrm_eq (Nat.mul_pos b0 d0) (Nat.mul_pos h.1 k.1) ?_ ?_
  · rw [Int.natAbs_mul, a2, c2]
    exact Nat.Coprime.mul_left (cop_mul x1 a3) (cop_mul c3 x2)
  · generalize Nat.gcd a.natAbs d = f at *
    generalize Nat.gcd c.natAbs b = s at *
    have eb2 : (b : Int) = ((b / s : Nat) : Int) * (s : Int) := by rw [← Int.natCast_mul, c4]
    have ed2 : (d : Int) = ((d / f : Nat) : Int) * (f : Int) := by rw [← Int.natCast_mul, a4]
    have e1 : a * c = a.fdiv (f : Int) * (f : Int) * (c.fdiv (s : Int) * (s : Int)) := by rw [a1, c1]
    rw [e1, Int.natCast_mul, Int.natCast_mul, eb2, ed2]
    generalize a.fdiv (f : Int) = x
    generalize c.fdiv (s : Int) = y
    generalize ((b / s : Nat) : Int) = u
    generalize ((d / f : Nat) : Int) = v
    simp only [Int.mul_assoc, Int.mul_comm, Int.mul_left_comm]
/-- what two ratios in lowest terms make -/
def spTwoL (f : Int → Nat → Int → Nat → Int × Nat) : Sp := fun vs H Q _ => ∃ (s t : Addr) (a c : Int) (b d : Nat), vs = [.ref s, .ref t] ∧ RatAt H s a b ∧ RatAt H t c d ∧ Mid a b ∧ Mid c d ∧ Low a b ∧ Low c d ∧ ∀ u, H u = none → Q (.ref u) (upd H u (.tup [.int (f a b c d).1, .int ((f a b c d).2 : Int)]))
/-- the same, where more than the answer may be new -/
def spTwoS (f : Int → Nat → Int → Nat → Int × Nat) : Sp := fun vs H Q _ => ∃ (s t : Addr) (a c : Int) (b d : Nat), vs = [.ref s, .ref t] ∧ RatAt H s a b ∧ RatAt H t c d ∧ Mid a b ∧ Mid c d ∧ Low a b ∧ Low c d ∧ ∀ u H', Same H H' → RatAt H' u (f a b c d).1 (f a b c d).2 → Q (.ref u) H'
/-- over -/
def spTwoO : Sp := fun vs H Q _ => ∃ (s t : Addr) (a c : Int) (b d : Nat), vs = [.ref s, .ref t] ∧ RatAt H s a b ∧ RatAt H t c d ∧ Mid a b ∧ Mid c d ∧ c ≠ 0 ∧ ∀ u, H u = none → Q (.ref u) (upd H u (.tup [.int (ovR a b c d).1, .int ((ovR a b c d).2 : Int)]))
def spLessL : Sp := fun vs H Q _ => ∃ (s t : Addr) (a c : Int) (b d : Nat), vs = [.ref s, .ref t] ∧ RatAt H s a b ∧ RatAt H t c d ∧ Mid a b ∧ Mid c d ∧ Q (.bl (decide (a * (d : Int) < c * (b : Int)))) H
def spPowR : Sp := fun vs H Q _ => ∃ (s : Addr) (a : Int) (b : Nat) (n : Int), vs = [.ref s, .int n] ∧ RatAt H s a b ∧ Sm a b ∧ Low a b ∧ n.natAbs ≤ 6 ∧ ¬ (n < 0 ∧ a = 0) ∧ ∀ u, H u = none → Q (.ref u) (upd H u (.tup [.int (pwR a b n).1, .int ((pwR a b n).2 : Int)]))
/-- the law's own power -/
def spPowL : Sp := fun vs H Q _ => ∃ (s : Addr) (a : Int) (b : Nat) (n : Int), vs = [.ref s, .int n] ∧ RatAt H s a b ∧ Sm a b ∧ Low a b ∧ n.natAbs ≤ 6 ∧ ¬ (n < 0 ∧ a = 0) ∧ ∀ u H', Same H H' → RatAt H' u (pwR a b n).1 (pwR a b n).2 → Q (.ref u) H'
def spAsG (K : PySem.W.Frag) : Sp := fun vs H Q _ => ∃ (x : V) (p : Int) (q : Nat), vs = [x] ∧ RatV K H x (some (p, q)) ∧ Mid p q ∧ ∀ t, H t = none → Q (.ref t) (upd H t (.tup [.int (nrm p q).1, .int ((nrm p q).2 : Int)]))
end AL
set_option Elab.async false
set_option linter.all false
set_option maxRecDepth 100000
/-! sorted(d.items()) for dicts whose keys are tuples of so many ints. -/
namespace AL
open PySem PySem.W PySem.Spec PyProof.Rows L2
theorem lex_code {B : Int} : ∀ (k : Nat) (ns ms : List Int) (i : Nat), ns.length = i + k → ms.length = i + k → TS.Bd B ns → TS.Bd B ms →
    Ob.lexAt (fun j => decide (ns.getD j 0 = ms.getD j 0)) (fun j => decide (ns.getD j 0 < ms.getD j 0)) false i k = decide (TS.code B (ns.drop i) < TS.code B (ms.drop i))
  | 0, ns, ms, i, l1, l2, _, _ => by
    rw [Ob.lexAt_zero, List.drop_eq_nil_of_le (by omega), List.drop_eq_nil_of_le (by omega)]
    exact (decide_eq_false (Int.lt_irrefl _)).symm
  | k + 1, ns, ms, i, l1, l2, b1, b2 => by
    have i1 : i < ns.length := by omega
    have i2 : i < ms.length := by omega
    have ih := lex_code k ns ms (i + 1) (by omega) (by omega) b1 b2
    have dl : (ns.drop (i + 1)).length = (ms.drop (i + 1)).length := by rw [List.length_drop, List.length_drop]; omega
    have c1 : TS.Bd B (ns.drop (i + 1)) := fun m hm => b1 m (List.mem_of_mem_drop hm)
    have c2 : TS.Bd B (ms.drop (i + 1)) := fun m hm => b2 m (List.mem_of_mem_drop hm)
    rw [Ob.lexAt_succ, List.drop_eq_getElem_cons i1, List.drop_eq_getElem_cons i2]
    have g1 : ns.getD i 0 = ns[i] := by simp [List.getD, i1]
    have g2 : ms.getD i 0 = ms[i] := by simp [List.getD, i2]
    rw [g1, g2]
    generalize ns[i] = x
    generalize ms[i] = y
    by_cases e : x = y
    · rw [decide_eq_true e, if_pos rfl, ih, e]
      exact (decide_eq_decide.mpr (TS.code_same dl)).symm
    · rw [decide_eq_false e, if_neg (by decide)]
      refine decide_eq_decide.mpr ⟨fun z => TS.code_lt dl c1 c2 z, fun z => ?_⟩
      rcases Int.lt_trichotomy x y with w1 | w1 | w1
      · exact w1
      · exact absurd w1 e
      · have := TS.code_lt dl.symm c2 c1 w1
        omega
theorem inl_inj : ∀ u v : List Int, (u.map Sum.inl : List L2.Key) = v.map Sum.inl → u = v
  | [], [], _ => rfl
  | [], _ :: _, t => nomatch t
  | _ :: _, [], t => nomatch t
  | a :: u, b :: v, t => by
    injection t with t1 t2
    injection t1 with t1
    rw [t1, inl_inj u v t2]
section
variable {prog : Program} {w : World} {A : Around} {E : Value → Shared → Prop} {s : Shared}
theorem lt_ints {B : Int} {l b : Addr} {xs ys : Array Value} {ns ms : List Int} {Q : Value → Shared → Prop} (hl : IsTup s.heap l xs) (hb : IsTup s.heap b ys) (ix : IntsAre xs.toList ns) (iy : IntsAre ys.toList ms)
    (len : ns.length = ms.length) (b1 : TS.Bd B ns) (b2 : TS.Bd B ms) (hu : A.units < cLine) (h : Q (.bool (decide (TS.code B ns < TS.code B ms))) s) :
    wpAny (model prog w) A (compareOp .Lt (.ref l) (.ref b)) Q E s := by
  have e1 : xs.size = ns.length := by rw [← Array.length_toList]; exact ix.length
  have e2 : ys.size = ms.length := by rw [← Array.length_toList]; exact iy.length
  have at1 : ∀ j (z : j < xs.size), ∃ t, xs[j] = .int (ns.getD j 0) t := fun j z => IntsAre.int_at ix _ _ (by rw [Array.getElem?_toList]; exact Array.getElem?_eq_getElem z)
  have at2 : ∀ j (z : j < ys.size), ∃ t, ys[j] = .int (ms.getD j 0) t := fun j z => IntsAre.int_at iy _ _ (by rw [Array.getElem?_toList]; exact Array.getElem?_eq_getElem z)
  have R := Ob.RcOp.tuples_lt (A := A) (s := s) (e := fun j => decide (ns.getD j 0 = ms.getD j 0)) (r := fun j => decide (ns.getD j 0 < ms.getD j 0)) hl hb hu
    (fun j z1 z2 => by
      obtain ⟨t, et⟩ := at1 j z1
      obtain ⟨t', et'⟩ := at2 j z2
      rw [et, et', show decide (ns.getD j 0 = ms.getD j 0) = (ns.getD j 0 == ms.getD j 0) from rfl]
      exact SeqAt.EqAt.int_int _ _ _ _)
    (fun j z1 z2 _ => by
      obtain ⟨t, et⟩ := at1 j z1
      obtain ⟨t', et'⟩ := at2 j z2
      rw [et, et']
      exact Ob.RcOp.lt_int _ _ _ _)
  have hs : decide (xs.size < ys.size) = false := decide_eq_false (by omega)
  rw [hs, show min xs.size ys.size = ns.length by omega, lex_code (B := B) ns.length ns ms 0 (by omega) (by omega) b1 b2, List.drop_zero, List.drop_zero] at R
  exact R prog w E Q h
/-- v: a pair of a tuple of the ints y and a tuple of m -/
def PrD (prog : Program) (w : World) (h : Heap) (v : Value) (y : List Int) (m : List L2.Key) : Prop :=
  ∃ (a k b : Addr) (xs : Array Value), v = .ref a ∧ IsTup h a #[.ref k, .ref b] ∧ IsTup h k xs ∧ IntsAre xs.toList y ∧ IsTupleKey (L2.mixKind prog w) h (y.map Sum.inl) k ∧ IsTupleKey (L2.mixKind prog w) h m b
def keyD (h : Heap) (v : Value) : List Int := TS.intsOf h (.ref (DT.refOf (DT.seqAt0 h (DT.refOf (some v)))))
theorem PrD.key {h : Heap} {v : Value} {y : List Int} {m : List L2.Key} (x : PrD prog w h v y m) : keyD h v = y := by
  obtain ⟨a, k, b, xs, rfl, h1, h2, h3, _⟩ := x
  have e : DT.refOf (DT.seqAt0 h (DT.refOf (some (Value.ref a)))) = k := by
    show DT.refOf (DT.seqAt0 h a) = k
    rw [DT.seqAt0_of h1]
    rfl
  unfold keyD
  rw [e]
  exact TS.TupInts.ints ⟨k, xs, rfl, h2, h3⟩
theorem heads {h : Heap} {M : List Int → List L2.Key} : ∀ vs : List Value, (∀ v ∈ vs, ∃ y, PrD prog w h v y (M y)) →
    ∃ fs : List Value, KatTups h vs fs ∧ fs.length = vs.length ∧ ∀ f ∈ fs, ∃ (q : Addr) (o : Obj), f = Value.ref q ∧ h.get? q = some o ∧ o.cls = .type "tuple" := by
  intro vs
  induction vs with
  | nil => exact fun _ => ⟨[], .nil, rfl, fun f z => absurd z List.not_mem_nil⟩
  | cons v r ih =>
    intro x
    obtain ⟨fs, c1, c2, c3⟩ := ih fun u z => x u (.tail _ z)
    obtain ⟨y, a, k, b, xs, rfl, ⟨o, o1, o2, n, o3⟩, ⟨p, p1, p2, _⟩, _⟩ := x v (.head _)
    refine ⟨.ref k :: fs, .cons o1 o2 o3 rfl c1, congrArg Nat.succ c2, fun f z => ?_⟩
    cases z with
    | head => exact ⟨k, p, rfl, p1, p2⟩
    | tail _ z => exact c3 f z
theorem kindD {B : Int} {d : Nat} {vs : List Value} {M : List Int → List L2.Key} (few : 2 ≤ vs.length) (hu : A.units < cLine) (x : ∀ v ∈ vs, ∃ y, PrD prog w s.heap v y (M y) ∧ y.length = d ∧ TS.Bd B y) (Q : SortKind → Shared → Prop)
    (h : ∀ κ, TS.Cmp prog w A s κ (pairsOf vs) (fun v => TS.code B (keyD s.heap v)) → Q κ s) : wpAny (model prog w) A (keyKind' vs.toArray) Q E s := by
  obtain ⟨fs, c1, c2, c3⟩ := heads (M := M) vs fun v z => let ⟨y, p, _⟩ := x v z; ⟨y, p⟩
  refine kat_kind (T := Value.type "tuple") c1 (by omega) (fun f z => ?_) rfl (h _ ?_)
  · obtain ⟨q, o, rfl, o1, o2⟩ := c3 f z
    exact o2 ▸ (PySem.W.Looks.ld o1).andThen .now
  · have nb : (Value.type "tuple" != Value.type "tuple") = false := by first | rfl | decide | simp
    rw [nb]
    intro p q hp hq Q2 E2 z2
    rw [pairsOf_toList] at hp hq
    obtain ⟨y, py, ly, by_⟩ := x _ (mem_zip_self hp).2
    obtain ⟨z, pz, lz, bz⟩ := x _ (mem_zip_self hq).2
    have z3 : Q2 (decide (TS.code B y < TS.code B z)) s := by
      have z4 : Q2 (decide (TS.code B (keyD s.heap p.1) < TS.code B (keyD s.heap q.1))) s := z2
      rwa [py.key, pz.key] at z4
    obtain ⟨a, k, b, xs, e1, ⟨o, o1, o2, n, o3⟩, k1, k2, k3, k4⟩ := py
    obtain ⟨a', k', b', xs', e1', ⟨o', o1', o2', n', o3'⟩, k1', k2', k3', k4'⟩ := pz
    rw [e1, e1']
    refine kat_lt o1 o3 o1' o3' (kat_cons ?_)
    refine wpAny_eqBool_tuple hu k3 k3' ?_
    by_cases e : y = z
    · subst e
      rw [decide_eq_true rfl]
      rw [decide_eq_false (Int.lt_irrefl _)] at z3
      refine kat_yes (kat_cons (wpAny_eqBool_tuple hu k4 k4' ?_))
      rw [decide_eq_true rfl]
      exact kat_yes (kat_nil z3)
    · have ne : (y.map Sum.inl : List L2.Key) ≠ z.map Sum.inl := fun t => e (inl_inj _ _ t)
      rw [decide_eq_false ne]
      refine kat_no ?_
      show wpAny _ _ (oneLt' false _ _) _ _ _
      exact kat_one _ _ (lt_ints k1 k1' k2 k2' (by omega) by_ bz hu z3)
end
section
variable {X : Cx} {pins : List (Addr × Obj)} {σ : L2.St} {H : Hp} {s : Shared}
abbrev KDT (X : Cx) : HeapKind X.prog X.w (List L2.Key) := tupleKind (mixKind X.prog X.w)
/-- what the j-th pair that was made holds -/
theorem made_pair {kvs : List (List L2.Key × V)} {xs : List (List L2.Key × Addr × Value)} {es : Array DictEntry} {lo : Addr} {h' : Heap} {as : List Addr} (rel : KT H kvs xs) (hes : es.toList = xs.map (entryOfKey (KDT X))) (g : DT.Made es lo h' as)
    {j : Nat} {b : Addr} (hj : as[j]? = some b) : ∃ (e : List L2.Key × V) (kq : Addr) (v : Value), kvs[j]? = some e ∧ H kq = some (.tup (e.1.map kV)) ∧ RelV e.2 v ∧ h'.get? b = some { cls := .type "tuple", data := .seq #[Value.ref kq, v] } := by
  obtain ⟨en, ee, hb⟩ := g.pairs j b hj
  have z := entry_at hes j
  rw [ee] at z
  cases q : xs[j]? with
  | none => rw [q] at z; exact nomatch z
  | some x =>
    rw [q] at z
    cases Option.some.inj z
    obtain ⟨e, r0, r1, r2, r3⟩ := DX.pget rel q
    exact ⟨e, x.2.1, x.2.2, r0, r2, r3, hb⟩
/-- the pairs and the list of them are tracked -/
theorem track_pairs (I : Inv X pins σ H s) {kvs : List (List L2.Key × V)} {as rs : List Addr} {L : Addr} {hF : Heap} {tk c : Nat} {acc : Array Value} (nd : as.Nodup) (up : ∀ b ∈ as, s.heap.objs.size ≤ b ∧ b ≠ L) (uL : s.heap.objs.size ≤ L)
    (kS : ∀ b o, s.heap.get? b = some o → hF.get? b = some o) (hL : hF.get? L = some { cls := .type "list", dict := none, data := .seq acc c, slots := #[] }) (ea : acc.toList = rs.map Value.ref) (sz : rs.length ≤ sizeLine)
    (pr : ∀ (j : Nat) (b : Addr), as[j]? = some b → ∃ (e : List L2.Key × V) (kq : Addr) (v : Value), kvs[j]? = some e ∧ H kq = some (.tup (e.1.map kV)) ∧ RelV e.2 v ∧ hF.get? b = some { cls := .type "tuple", data := .seq #[Value.ref kq, v] }) :
    ∃ H2 : Hp, Inv X pins σ H2 { s with heap := hF, toks := tk } ∧ Gw H H2 ∧ H2 L = some (.lst (rs.map V.ref)) ∧
      ∀ (j : Nat) (b : Addr), as[j]? = some b → ∃ (e : List L2.Key × V) (kq : Addr), kvs[j]? = some e ∧ H kq = some (.tup (e.1.map kV)) ∧ H2 b = some (.tup [.ref kq, e.2]) := by
  have nL : H L = none := I.hok.fresh uL
  have I1 : Inv X pins σ H { s with heap := hF, toks := tk } := I.kept (t' := tk) kS
  have I2 : Inv X pins σ (upd H L (.lst (rs.map V.ref))) { s with heap := hF, toks := tk } :=
    I1.take (h' := hF) (t' := tk) (fun _ _ _ r => r) (I.fpOk uL nL) ⟨by rw [List.length_map]; exact sz, acc.toList, c, by rw [ea]; exact vals_refs rs, by rw [Array.toArray_toList]; exact hL⟩
  obtain ⟨H2, I3, w1, w2⟩ := DX.takeT (P := fun b vs => ∃ (j : Nat) (e : List L2.Key × V) (kq : Addr), as[j]? = some b ∧ kvs[j]? = some e ∧ H kq = some (.tup (e.1.map kV)) ∧ vs = [.ref kq, e.2]) I as _ I2 nd fun b hb => by
    obtain ⟨j, hj⟩ := List.mem_iff_getElem?.mp hb
    obtain ⟨e, kq, v, c1, c2, c3, c4⟩ := pr j b hj
    obtain ⟨u1, u2⟩ := up b hb
    refine ⟨u1, by rw [upd_ne u2]; exact I.hok.fresh u1, [.ref kq, e.2], ⟨j, e, kq, hj, c1, c2, rfl⟩, fun _ => ⟨by rw [sizeLine_eq]; exact (by decide : 2 ≤ 16777216), [Value.ref kq, v], .cons rfl (.cons c3 .nil), ⟨_, c4, rfl, 0, rfl⟩⟩⟩
  refine ⟨H2, I3, fun b o z => w1 b o (by rw [upd_ne (ne_of_none z nL)]; exact z), w1 _ _ upd_same, fun j b hj => ?_⟩
  obtain ⟨vs, ⟨i, e, kq, d1, d2, d3, rfl⟩, d4⟩ := w2 b (List.mem_of_getElem? hj)
  cases (List.getElem?_inj (List.getElem?_eq_some_iff.mp hj).1 nd).mp (hj.trans d1.symm)
  exact ⟨e, kq, d2, d3, d4⟩
theorem made_nodup {es : Array DictEntry} {lo : Addr} {h : Heap} {as : List Addr} (g : DT.Made es lo h as) : as.Nodup := g.rise.imp fun z => Nat.ne_of_lt z
/-- list(v), v the view d.items() -/
def rListD : List V → Hp → VK → Prop := fun vs H Q => ∃ (p a : Addr) (kvs : List (List L2.Key × V)), vs = [.ref p] ∧ H p = some (DX.itemsO p a) ∧ H a = some (.dT kvs) ∧
  ∀ (H' : Hp) (l : Addr) (ts : List Addr), Gw H H' → H' l = some (.lst (ts.map V.ref)) → ts.length = kvs.length → H l = none →
    (∀ (j : Nat) (b : Addr), ts[j]? = some b → ∃ (e : List L2.Key × V) (kq : Addr), kvs[j]? = some e ∧ H kq = some (.tup (e.1.map kV)) ∧ H' b = some (.tup [.ref kq, e.2])) → Q (.ref l) H'
abbrev entI (e : List Int × Addr) : List L2.Key × V := (e.1.map Sum.inl, V.ref e.2)
/-- sorted(v), v the view d.items(): keys tuples of d ints in [0, B), values tuples, M of the key -/
def rSortD (B : Int) : List V → Hp → VK → Prop := fun vs H Q => ∃ (p a : Addr) (ks : List (List Int × Addr)) (d : Nat) (M : List Int → List L2.Key), vs = [.ref p] ∧ H p = some (DX.itemsO p a) ∧ H a = some (.dT (ks.map entI)) ∧ ks.length < 64 ∧
  (∀ e ∈ ks, H e.2 = some (.tup ((M e.1).map kV)) ∧ e.1.length = d ∧ TS.Bd B e.1) ∧
  ∀ (H' : Hp) (l : Addr) (ps : List (Addr × List Int × Addr)), Gw H H' → H l = none → (ps.map (·.2)).Perm ks → (ps.map (·.2)).Pairwise (fun e f => TS.code B e.1 ≤ TS.code B f.1) → H' l = some (.lst (ps.map fun z => V.ref z.1)) →
    (∀ z ∈ ps, ∃ q, H' z.1 = some (.tup [.ref q, .ref z.2.2]) ∧ H' q = some (.tup (z.2.1.map V.int))) → Q (.ref l) H'
theorem kV_ints (y : List Int) : (y.map Sum.inl : List L2.Key).map kV = y.map V.int := by rw [List.map_map]; rfl
theorem cr_sortD {B : Int} (hc : X.calm = true) (hu : X.A.units + 64 < cLine) : CallR X (.builtin "sorted") (rSortD B) := by
  intro pins s σ H xs us Q I r h
  obtain ⟨p, a, ks, d, M, rfl, hp, ha, few, hv, q⟩ := h
  obtain rfl := Vals.ref1 r
  have view : s.heap.IsItemsView p a := (show ObjOk X.prog X.w H s.heap p (DX.itemsO p a) from I.hok p _ hp).1
  obtain ⟨z, hd, xs', rel, o, es, ep, ho, hx, hdat, hes, his, hn⟩ := dt_of I.hok ha
  have n1 : ks.length = xs'.length := (List.length_map (f := entI) (as := ks)).symm.trans (Paired.length rel)
  have n2 : es.size = xs'.length := size_of_entries hes
  refine DT.sortedI (es := es) (ep := ep) (I.ok.hd hc) view ⟨o, ho, hx, hdat⟩ (by rw [sizeLine_eq]; omega) fun h' tk as hk hlt hl hG => ?_
  have nd := made_nodup hG
  have lk : as.length = ks.length := by omega
  have mp := fun (j : Nat) (b : Addr) (hj : as[j]? = some b) => made_pair (X := X) rel hes hG hj
  have new : ∀ b u, h'.get? b = some u → b ≠ h'.objs.size := fun b u w1 => Nat.ne_of_lt (Heap.lt_size w1)
  have atL : (h'.push { cls := .type "list", data := .seq (as.map Value.ref).toArray }).get? h'.objs.size = some (seqObj "list" (as.map Value.ref).toArray 0) := Heap.get?_push_size _ rfl
  have old : ∀ b u, h'.get? b = some u → (h'.push { cls := .type "list", data := .seq (as.map Value.ref).toArray }).get? b = some u := fun b u w1 => Heap.get?_push_of_some _ w1
  generalize h'.push { cls := .type "list", data := .seq (as.map Value.ref).toArray } = hS at atL old ⊢
  -- each pair in the heap of the comparisons
  have cmp : ∀ (j : Nat) (b : Addr), as[j]? = some b → ∃ e : List Int × Addr, ks[j]? = some e ∧ PrD X.prog X.w (TS.midHeap hS h'.objs.size (as.map Value.ref)) (.ref b) e.1 (M e.1) := by
    intro j b hj
    obtain ⟨e0, kq, v, c1, c2, c3, c4⟩ := mp j b hj
    rw [List.getElem?_map] at c1
    cases ej : ks[j]? with
    | none => rw [ej] at c1; exact nomatch c1
    | some e =>
      rw [ej] at c1
      cases Option.some.inj c1
      cases (show v = Value.ref e.2 from c3)
      have mid : ∀ b u, h'.get? b = some u → (TS.midHeap hS h'.objs.size (as.map Value.ref)).get? b = some u := fun b u w1 => TS.midHeap_old (new b u w1) (old b u w1)
      have c2' : H kq = some (.tup (e.1.map V.int)) := by rw [← kV_ints]; exact c2
      obtain ⟨_, its, rv, ot, t1, t2, nt, t3⟩ := (show ObjOk X.prog X.w H s.heap kq (.tup (e.1.map V.int)) from I.hok kq _ c2')
      obtain ⟨ok, ik, nk, k1, k2, k3, k4⟩ := (show IsTupleKey (mixKind X.prog X.w) s.heap (e.1.map Sum.inl) kq from key_of I.hok c2)
      obtain ⟨ov, iv, nv, v1, v2, v3, v4⟩ := (show IsTupleKey (mixKind X.prog X.w) s.heap (M e.1) e.2 from key_of I.hok (hv e (List.mem_of_getElem? ej)).1)
      exact ⟨e, rfl, b, kq, e.2, its.toArray, rfl, ⟨_, mid _ _ c4, rfl, 0, rfl⟩, ⟨ot, mid _ _ (hk _ _ t1), t2, nt, t3⟩, Vals.ints rv, ⟨ok, ik, nk, mid _ _ (hk _ _ k1), k2, k3, k4⟩, ⟨ov, iv, nv, mid _ _ (hk _ _ v1), v2, v3, v4⟩⟩
  have rk : ∀ (j : Nat) (b : Addr) (e : List Int × Addr), as[j]? = some b → ks[j]? = some e → keyD (TS.midHeap hS h'.objs.size (as.map Value.ref)) (.ref b) = e.1 := fun j b e hj he => by
    obtain ⟨f, f1, f2⟩ := cmp j b hj
    cases Option.some.inj (he.symm.trans f1)
    exact f2.key
  refine wpAny_call_entry slot_list_sort ⟨_, atL, rfl⟩ entry_list_sort
    (SK.plain_sort (s := { s with heap := hS, toks := tk }) (r := fun v => TS.code B (keyD (TS.midHeap hS h'.objs.size (as.map Value.ref)) v)) atL (by rw [List.length_map]; omega) (fun two Qk hQk => ?_) fun ps out o1 o2 o3 => ⟨.none, rfl, ?_⟩) (args_list_sort _)
  · refine kindD (s := { s with heap := TS.midHeap hS h'.objs.size (as.map Value.ref), toks := tk }) (d := d) (M := M) two (by show X.A.units + 1 + 1 < cLine; omega) (fun v w1 => ?_) Qk hQk
    obtain ⟨b, hb, rfl⟩ := List.mem_map.mp w1
    obtain ⟨j, hj⟩ := List.mem_iff_getElem?.mp hb
    obtain ⟨e, f1, f2⟩ := cmp j b hj
    exact ⟨e.1, f2, (hv e (List.mem_of_getElem? f1)).2⟩
  · show EP X pins σ Q (.ref h'.objs.size) { s with heap := sortedHeap hS h'.objs.size (as.map Value.ref) out, toks := tk }
    obtain ⟨zs, pz, ez⟩ := perm_lift (fun z : Addr × List Int × Addr => (Value.ref z.1, Value.ref z.1)) o2 (as.zip ks) (DX.zip_self Value.ref as ks lk)
    have idx : ∀ z ∈ zs, ∃ j : Nat, as[j]? = some z.1 ∧ ks[j]? = some z.2 := fun z hz => by
      obtain ⟨j, hj⟩ := List.mem_iff_getElem?.mp (pz.mem_iff.mp hz)
      exact ⟨j, List.getElem?_zip_eq_some.mp hj⟩
    have outs : out.toList = (zs.map (·.1)).map Value.ref := by
      rw [o1, ← ez, List.map_map, List.map_map]
      rfl
    have perm : (zs.map (·.2)).Perm ks := by
      have w1 := pz.map (fun z : Addr × List Int × Addr => z.2)
      rwa [List.map_snd_zip (by omega)] at w1
    have asc : (zs.map (·.2)).Pairwise (fun e f => TS.code B e.1 ≤ TS.code B f.1) := by
      rw [← ez, List.pairwise_map] at o3
      rw [List.pairwise_map]
      refine o3.imp_of_mem fun {x y} m1 m2 w1 => ?_
      obtain ⟨j, j1, j2⟩ := idx x m1
      obtain ⟨i, i1, i2⟩ := idx y m2
      have w2 : TS.code B (keyD (TS.midHeap hS h'.objs.size (as.map Value.ref)) (.ref x.1)) ≤ TS.code B (keyD (TS.midHeap hS h'.objs.size (as.map Value.ref)) (.ref y.1)) := w1
      rwa [rk j _ _ j1 j2, rk i _ _ i1 i2] at w2
    obtain ⟨eF, heF⟩ := sortedHeap_at (vs := as.map Value.ref) (out := out) atL
    have kF : ∀ b u, h'.get? b = some u → (sortedHeap hS h'.objs.size (as.map Value.ref) out).get? b = some u := fun b u w1 => (sortedHeap_old (new b u w1) (Heap.lt_size (old b u w1))).trans (old b u w1)
    have len : zs.length = ks.length := by rw [← perm.length_eq, List.length_map]
    obtain ⟨H2, I3, g1, g2, g3⟩ := track_pairs (tk := tk) (rs := zs.map (·.1)) I nd (fun b hb => ⟨Nat.le_of_lt (hG.above b hb), Nat.ne_of_lt (hG.there hb)⟩) (Nat.le_of_lt hlt) (fun b u w1 => kF b u (hk b u w1)) (by rw [← Array.toArray_toList (xs := out)]; exact heF) outs (by rw [List.length_map, sizeLine_eq]; omega)
      fun j b hj => by
        obtain ⟨e, kq, v, c1, c2, c3, c4⟩ := mp j b hj
        exact ⟨e, kq, v, c1, c2, c3, kF _ _ c4⟩
    refine ⟨.ref h'.objs.size, H2, I3, rfl, q H2 h'.objs.size zs g1 (I.hok.fresh (Nat.le_of_lt hlt)) perm asc (by rw [g2, List.map_map]; rfl) fun z hz => ?_⟩
    obtain ⟨j, j1, j2⟩ := idx z hz
    obtain ⟨e, kq, d1, d2, d3⟩ := g3 j z.1 j1
    rw [List.getElem?_map, j2] at d1
    cases Option.some.inj d1
    exact ⟨kq, d3, by rw [← kV_ints]; exact g1 _ _ d2⟩
end
section
variable {prog : Program} {w : World} {A : Around} {E : Value → Shared → Prop} {s : Shared} {r d : Addr} {es : Array DictEntry} {ep : Nat}
/-- list() of a view d.items() -/
theorem list_view {Q : Value → Shared → Prop} (hh : A.handled = none) (hv : s.heap.IsItemsView r d) (hm : DT.Raw s.heap d es ep) (hn : es.size ≤ sizeLine)
    (q : ∀ h' tk acc c as, (∀ b o, s.heap.get? b = some o → h'.get? b = some o) → h'.get? s.heap.objs.size = some { cls := .type "list", dict := none, data := .seq acc c, slots := #[] } → as.length = es.size → DT.Made es s.heap.objs.size h' as →
      acc.toList = as.map Value.ref → Q (.ref s.heap.objs.size) { s with heap := h', toks := tk }) :
    wpAny (model prog w) A (call (.type "list") [.ref r]) Q E s := by
  have lr : r < s.heap.objs.size := let ⟨_, z, _⟩ := hv; Heap.lt_size z
  have ld := hm.lt
  refine PySem.callType_codes (Q₁ := fun x t => x = .ref s.heap.objs.size ∧ t = { s with heap := s.heap.push { cls := .type "list", data := .seq #[] } }) F.called_list (F.typeCall_list_1 _) F.entry_list_init (code_list_new _ ⟨rfl, rfl⟩) fun x t e => ?_
  obtain ⟨rfl, rfl⟩ := e
  have top : (s.heap.push { cls := .type "list", data := .seq #[] }).get? s.heap.objs.size = some { cls := .type "list", data := .seq #[] } := Heap.get?_push_size _ rfl
  refine ⟨⟨_, top, rfl⟩, F.args_list_init_2 _ _, ?_⟩
  show wpAny _ _ (Builtin.List.listItems (.ref s.heap.objs.size) >>= fun was => Builtin.List.listUpdate (.ref s.heap.objs.size) (fun _ => #[]) >>= fun _ => letGo was.toList.reverse >>= fun _ => Builtin.List.listExtendWith (.ref s.heap.objs.size) (.ref r) .none) _ _ _
  unfold Builtin.List.listItems
  refine wpAny_bind (wpAny_bind (wpAny_seqItems top rfl (wpAny_pure ?_)))
  show wpAny _ _ (updateSeq s.heap.objs.size (fun _ => #[]) >>= fun _ => letGo (#[] : Array Value).toList.reverse >>= fun _ => Builtin.List.listExtendWith (.ref s.heap.objs.size) (.ref r) .none) _ _ _
  refine wpAny_bind (wpAny_updateSeq top rfl ?_)
  have top2 := Heap.get?_update_self (Obj.mapSeq (fun _ => (#[] : Array Value))) top rfl
  have keep : ∀ b o, b ≠ s.heap.objs.size → s.heap.get? b = some o → ((s.heap.push { cls := .type "list", data := .seq #[] }).update s.heap.objs.size (Obj.mapSeq (fun _ => (#[] : Array Value)))).get? b = some o := fun b o nb z =>
    (Heap.get?_update_other _ _ (Ne.symm nb)).trans (Heap.get?_push_of_some _ z)
  show wpAny _ _ (Builtin.List.listExtendWith (.ref s.heap.objs.size) (.ref r) .none) _ _ _
  refine DT.extI (A := A.in1) (s := { s with heap := (s.heap.push { cls := .type "list", data := .seq #[] }).update s.heap.objs.size (Obj.mapSeq (fun _ => (#[] : Array Value))) }) (es := es) (ep := ep) hh (let ⟨o, z, zz⟩ := hv; ⟨o, keep r o (Nat.ne_of_lt lr) z, zz⟩) (hm.at' fun o z => keep d o (Nat.ne_of_lt ld) z) s.heap.objs.size (Nat.ne_of_gt lr) (Nat.ne_of_lt ld) .none _ top2 (fun h' tk acc c as kp tp l1 g l2 => ?_) hn
  exact ⟨rfl, q h' tk acc c as (fun b o z => kp b o (Nat.ne_of_lt (Heap.lt_size z)) (keep b o (Nat.ne_of_lt (Heap.lt_size z)) z)) tp l1 (g.low (Nat.le_of_lt (Heap.lt_size top2))) l2⟩
end
section
variable {X : Cx}
theorem cr_listD (hc : X.calm = true) : CallR X (.type "list") rListD := by
  intro pins s σ H xs us Q I r h
  obtain ⟨p, a, kvs, rfl, hp, ha, q⟩ := h
  obtain rfl := Vals.ref1 r
  have view : s.heap.IsItemsView p a := (show ObjOk X.prog X.w H s.heap p (DX.itemsO p a) from I.hok p _ hp).1
  obtain ⟨z, hd, xs', rel, o, es, ep, ho, hx, hdat, hes, his, hn⟩ := dt_of I.hok ha
  have n1 : kvs.length = xs'.length := Paired.length rel
  have n2 : es.size = xs'.length := size_of_entries hes
  refine list_view (es := es) (ep := ep) (I.ok.hd hc) view ⟨o, ho, hx, hdat⟩ (by omega) fun h' tk acc c as hk hL hl g e => ?_
  obtain ⟨H2, I3, g1, g2, g3⟩ := track_pairs (tk := tk) (rs := as) I (made_nodup g) (fun b hb => ⟨Nat.le_of_lt (g.above b hb), Nat.ne_of_gt (g.above b hb)⟩) (Nat.le_refl _) hk hL e (by omega) fun j b hj => made_pair (X := X) rel hes g hj
  exact ⟨.ref s.heap.objs.size, H2, I3, rfl, q H2 _ as g1 g2 (by omega) (I.hok.fresh (Nat.le_refl _)) g3⟩
end
end AL
set_option Elab.async false
set_option maxRecDepth 100000
set_option exponentiation.threshold 70000
/-! Polynomials as lists of terms; ratios as Rat. -/
namespace AL
open PySem L2
def RQ (H : Hp) (t : Addr) (x : Rat) : Prop := RatAt H t x.num x.den
theorem low_rat (x : Rat) : Low x.num x.den := ⟨Nat.pos_of_ne_zero x.den_nz, x.reduced⟩
theorem nrm_rat (a : Int) {b : Nat} (hb : 0 < b) : nrm a b = ((mkRat a b).num, (mkRat a b).den) := by
  have e : mkRat (mkRat a b).num (mkRat a b).den = mkRat a b := Rat.mkRat_self _
  exact nrm_eq (low_rat _).1 hb (low_rat _).2 ((Rat.mkRat_eq_iff (mkRat a b).den_nz (by omega)).mp e)
theorem sum_rat (x y : Rat) : sumR x.num x.den y.num y.den = ((x + y).num, (x + y).den) := by
  unfold sumR
  rw [nrm_rat _ (Nat.mul_pos (low_rat x).1 (low_rat y).1), ← Rat.mkRat_add_mkRat _ _ x.den_nz y.den_nz, Rat.mkRat_self, Rat.mkRat_self]
theorem mul_rat (x y : Rat) : mulR x.num x.den y.num y.den = ((x * y).num, (x * y).den) := by
  unfold mulR
  rw [nrm_rat _ (Nat.mul_pos (low_rat x).1 (low_rat y).1), ← Rat.mkRat_mul_mkRat, Rat.mkRat_self, Rat.mkRat_self]
theorem dif_rat (x y : Rat) : difR x.num x.den y.num y.den = ((x - y).num, (x - y).den) := by
  have e := sum_rat x (-y)
  rw [Rat.neg_num, Rat.neg_den, ← Rat.sub_eq_add_neg] at e
  rw [← e]
  unfold difR sumR
  rw [Int.neg_mul, ← Int.sub_eq_add_neg]
/-- x is X / D, |X| at most B * D -/
def Sz (D B : Nat) (x : Rat) : Prop := 0 < D ∧ ∃ X : Int, X.natAbs ≤ B * D ∧ x = mkRat X D
theorem Sz.le {D B : Nat} {x : Rat} (h : Sz D B x) : x.num.natAbs ≤ B * D ∧ x.den ≤ D := by
  obtain ⟨h0, X, hX, e⟩ := h
  obtain ⟨n, d, z, c⟩ := x
  obtain ⟨m, m0, e1, e2⟩ := Rat.mkRat_num_den (by omega) e.symm
  refine ⟨Nat.le_trans ?_ hX, ?_⟩
  · rw [e1, Int.natAbs_mul, Int.natAbs_natCast]
    exact Nat.le_mul_of_pos_right _ (by omega)
  · rw [e2]
    exact Nat.le_mul_of_pos_right _ (by omega)
theorem Sz.mid {D B : Nat} {x : Rat} (h : Sz D B x) (h1 : B * D < 2 ^ 6000) (h2 : D < 2 ^ 6000) : Mid x.num x.den :=
  ⟨(low_rat x).1, Nat.lt_of_le_of_lt h.le.1 h1, Nat.lt_of_le_of_lt h.le.2 h2⟩
theorem Sz.mono {D B C : Nat} {x : Rat} (h : Sz D B x) (hb : B ≤ C) : Sz D C x := let ⟨h0, X, hX, e⟩ := h; ⟨h0, X, Nat.le_trans hX (Nat.mul_le_mul_right _ hb), e⟩
theorem Sz.up {D B : Nat} {x : Rat} (h : Sz D B x) {E : Nat} (hE : 0 < E) : Sz (D * E) B x := by
  obtain ⟨h0, X, hX, e⟩ := h
  refine ⟨Nat.mul_pos h0 hE, X * (E : Int), ?_, ?_⟩
  · rw [Int.natAbs_mul, Int.natAbs_natCast, ← Nat.mul_assoc]
    exact Nat.mul_le_mul_right _ hX
  · rw [e]
    refine (Rat.mkRat_eq_iff (by omega) (Nat.ne_of_gt (Nat.mul_pos h0 hE))).mpr ?_
    rw [Int.natCast_mul, Int.mul_assoc, Int.mul_comm (D : Int)]
theorem Sz.add {D B C : Nat} {x y : Rat} (h : Sz D B x) (k : Sz D C y) : Sz D (B + C) (x + y) := by
  obtain ⟨h0, X, hX, e⟩ := h
  obtain ⟨_, Y, hY, f⟩ := k
  refine ⟨h0, X + Y, ?_, ?_⟩
  · rw [Nat.add_mul]
    exact Nat.le_trans (Int.natAbs_add_le _ _) (Nat.add_le_add hX hY)
  · rw [e, f, Rat.mkRat_add_mkRat _ _ (by omega) (by omega)]
    refine (Rat.mkRat_eq_iff (Nat.ne_of_gt (Nat.mul_pos h0 h0)) (by omega)).mpr ?_
    rw [Int.natCast_mul, ← Int.add_mul, Int.mul_assoc]
theorem Sz.neg {D B : Nat} {x : Rat} (h : Sz D B x) : Sz D B (-x) := by
  obtain ⟨h0, X, hX, e⟩ := h
  exact ⟨h0, -X, by rw [Int.natAbs_neg]; exact hX, by rw [e, Rat.neg_mkRat]⟩
theorem Sz.mul {D B E C : Nat} {x y : Rat} (h : Sz D B x) (k : Sz E C y) : Sz (D * E) (B * C) (x * y) := by
  obtain ⟨h0, X, hX, e⟩ := h
  obtain ⟨k0, Y, hY, f⟩ := k
  refine ⟨Nat.mul_pos h0 k0, X * Y, ?_, ?_⟩
  · rw [Int.natAbs_mul, Nat.mul_mul_mul_comm]
    exact Nat.mul_le_mul hX hY
  · rw [e, f, Rat.mkRat_mul_mkRat]
theorem Sz.frac {a : Int} {b D B : Nat} (hb : 0 < b) (hd : b ∣ D) (h0 : 0 < D) (ha : a.natAbs ≤ B) : Sz D B (mkRat a b) := by
  obtain ⟨E, rfl⟩ := hd
  have hE : 0 < E := Nat.pos_of_ne_zero fun z => by rw [z] at h0; omega
  refine Sz.up (D := b) ⟨hb, a, Nat.le_trans ha (Nat.le_mul_of_pos_right _ hb), rfl⟩ hE
theorem Sz.int {D B : Nat} (i : Int) (h0 : 0 < D) (h : i.natAbs ≤ B) : Sz D B (mkRat i 1) := Sz.frac (by decide) (Nat.one_dvd _) h0 h

/-! ### terms -/
abbrev Ex := List Nat
abbrev PM := List (Ex × Rat)
def ki (e : Ex) : List Int := e.map fun k : Nat => (k : Int)
theorem ki_inj : ∀ {a b : Ex}, ki a = ki b → a = b
  | [], [], _ => rfl
  | [], _ :: _, h => nomatch h
  | _ :: _, [], h => nomatch h
  | a :: r, b :: s, h => by
    have h' : (a : Int) :: ki r = (b : Int) :: ki s := h
    injection h' with h1 h2
    rw [ki_inj h2, show a = b by omega]
def lin (φ : Ex → Rat) : PM → Rat
  | [] => 0
  | p :: r => p.2 * φ p.1 + lin φ r
theorem lin_append (φ : Ex → Rat) : ∀ a b : PM, lin φ (a ++ b) = lin φ a + lin φ b
  | [], b => by rw [List.nil_append]; exact (Rat.zero_add _).symm
  | p :: r, b => by
    show p.2 * φ p.1 + lin φ (r ++ b) = p.2 * φ p.1 + lin φ r + lin φ b
    rw [lin_append φ r b, Rat.add_assoc]
theorem lin_congr {φ ψ : Ex → Rat} : ∀ {m : PM}, (∀ p ∈ m, φ p.1 = ψ p.1) → lin φ m = lin ψ m
  | [], _ => rfl
  | p :: r, h => by
    show p.2 * φ p.1 + lin φ r = p.2 * ψ p.1 + lin ψ r
    rw [h p (List.mem_cons_self ..), lin_congr fun q hq => h q (List.mem_cons_of_mem _ hq)]
theorem lin_zero : ∀ (m : PM), lin (fun _ => 0) m = 0
  | [] => rfl
  | p :: r => by
    show p.2 * 0 + lin _ r = 0
    rw [lin_zero r, Rat.mul_zero, Rat.zero_add]
theorem lin_mulr (φ : Ex → Rat) (c : Rat) : ∀ m : PM, lin (fun e => φ e * c) m = lin φ m * c
  | [] => by show (0 : Rat) = 0 * c; grind
  | p :: r => by
    show p.2 * (φ p.1 * c) + lin _ r = (p.2 * φ p.1 + lin φ r) * c
    rw [lin_mulr φ c r]
    grind
theorem lin_perm (φ : Ex → Rat) {a b : PM} (h : a.Perm b) : lin φ a = lin φ b := by
  induction h with
  | nil => rfl
  | cons x _ ih => show _ + lin φ _ = _ + lin φ _; rw [ih]
  | swap x y l =>
    show y.2 * φ y.1 + (x.2 * φ x.1 + lin φ l) = x.2 * φ x.1 + (y.2 * φ y.1 + lin φ l)
    grind
  | trans _ _ i1 i2 => exact i1.trans i2
/-- the same polynomial -/
def Eqp (a b : PM) : Prop := ∀ φ : Ex → Rat, lin φ a = lin φ b
theorem Eqp.rfl' {a : PM} : Eqp a a := fun _ => rfl
theorem Eqp.symm {a b : PM} (h : Eqp a b) : Eqp b a := fun φ => (h φ).symm
theorem Eqp.trans {a b c : PM} (h : Eqp a b) (k : Eqp b c) : Eqp a c := fun φ => (h φ).trans (k φ)
theorem Eqp.append {a b c d : PM} (h : Eqp a b) (k : Eqp c d) : Eqp (a ++ c) (b ++ d) := fun φ => by rw [lin_append, lin_append, h φ, k φ]
def nzM (m : PM) : PM := m.filter fun p => decide (p.2 ≠ 0)
theorem nz_eqp : ∀ m : PM, Eqp (nzM m) m
  | [], _ => rfl
  | p :: r, φ => by
    have ih := nz_eqp r φ
    unfold nzM at ih ⊢
    by_cases h : p.2 = 0
    · rw [List.filter_cons_of_neg (by simp [h]), ih]
      show lin φ r = p.2 * φ p.1 + lin φ r
      rw [h]; grind
    · rw [List.filter_cons_of_pos (by simp [h])]
      show p.2 * φ p.1 + lin φ _ = _
      rw [ih]; rfl
def getM (m : PM) (e : Ex) : Option Rat := (m.find? fun p => decide (p.1 = e)).map (·.2)
def hasM (m : PM) (e : Ex) : Bool := m.any fun p => decide (p.1 = e)
def putM (m : PM) (e : Ex) (v : Rat) : PM := if hasM m e = true then m.map (fun p => if p.1 = e then (p.1, v) else p) else m ++ [(e, v)]
theorem has_get (e : Ex) : ∀ m : PM, hasM m e = (getM m e).isSome
  | [] => rfl
  | p :: r => by
    have ih := has_get e r
    unfold hasM getM at ih ⊢
    rw [List.any_cons, List.find?_cons]
    by_cases h : p.1 = e
    · simp [h]
    · rw [decide_eq_false h, Bool.false_or]; exact ih
theorem put_keys (m : PM) (e : Ex) (v : Rat) : (putM m e v).map (·.1) = if hasM m e = true then m.map (·.1) else m.map (·.1) ++ [e] := by
  unfold putM
  split
  · rw [List.map_map]
    refine List.map_congr_left fun p _ => ?_
    show (if p.1 = e then (p.1, v) else p).1 = p.1
    split <;> rfl
  · rw [List.map_append]; rfl
theorem has_mem {m : PM} {e : Ex} : hasM m e = true ↔ e ∈ m.map (·.1) := by
  unfold hasM
  rw [List.any_eq_true, List.mem_map]
  exact ⟨fun ⟨p, h1, h2⟩ => ⟨p, h1, of_decide_eq_true h2⟩, fun ⟨p, h1, h2⟩ => ⟨p, h1, decide_eq_true h2⟩⟩
theorem put_nodup {m : PM} (nd : (m.map (·.1)).Nodup) (e : Ex) (v : Rat) : ((putM m e v).map (·.1)).Nodup := by
  rw [put_keys]
  split
  · exact nd
  · rename_i h
    rw [List.nodup_append]
    refine ⟨nd, by simp, fun a ha b hb z => h (has_mem.mpr ?_)⟩
    rw [List.mem_singleton] at hb
    rw [← hb, ← z]; exact ha
theorem put_len (m : PM) (e : Ex) (v : Rat) : (putM m e v).length ≤ m.length + 1 := by
  unfold putM
  split
  · rw [List.length_map]; omega
  · rw [List.length_append]; exact Nat.le_refl _
theorem lin_put (φ : Ex → Rat) (e : Ex) (v : Rat) : ∀ m : PM, (m.map (·.1)).Nodup → lin φ (putM m e v) = lin φ m + (v - (getM m e).getD 0) * φ e
  | [], _ => by
    show v * φ e + 0 = 0 + (v - 0) * φ e
    grind
  | p :: r, nd => by
    rw [List.map_cons, List.nodup_cons] at nd
    have ih := lin_put φ e v r nd.2
    by_cases h : p.1 = e
    · have h1 : hasM (p :: r) e = true := by unfold hasM; rw [List.any_cons, decide_eq_true h, Bool.true_or]
      have h2 : getM (p :: r) e = some p.2 := by unfold getM; rw [List.find?_cons, decide_eq_true h]; rfl
      have h3 : r.map (fun p => if p.1 = e then (p.1, v) else p) = r := by
        refine (List.map_congr_left fun q hq => ?_).trans (List.map_id r)
        rw [if_neg fun z => nd.1 (List.mem_map.mpr ⟨q, hq, by rw [z, h]⟩)]; rfl
      unfold putM
      rw [if_pos h1, h2, List.map_cons, if_pos h, h3]
      show v * φ p.1 + lin φ r = p.2 * φ p.1 + lin φ r + (v - p.2) * φ e
      rw [h]; grind
    · have h1 : hasM (p :: r) e = hasM r e := by unfold hasM; rw [List.any_cons, decide_eq_false h, Bool.false_or]
      have h2 : getM (p :: r) e = getM r e := by unfold getM; rw [List.find?_cons, decide_eq_false h]
      have h3 : putM (p :: r) e v = p :: putM r e v := by
        unfold putM
        rw [h1]
        split
        · rw [List.map_cons, if_neg h]
        · rfl
      rw [h3, h2]
      show p.2 * φ p.1 + lin φ (putM r e v) = p.2 * φ p.1 + lin φ r + _
      rw [ih]; grind
def addM (m : PM) (e : Ex) (v : Rat) : PM := putM m e ((getM m e).getD 0 + v)
def joinM (m l : PM) : PM := l.foldl (fun a p => addM a p.1 p.2) m
theorem join_take {m l : PM} {i : Nat} {p : Ex × Rat} (h : l[i]? = some p) : joinM m (l.take (i + 1)) = addM (joinM m (l.take i)) p.1 p.2 := by
  unfold joinM
  rw [List.take_add_one, h, List.foldl_append]; rfl
theorem join_lin (φ : Ex → Rat) : ∀ (l m : PM), (m.map (·.1)).Nodup → lin φ (joinM m l) = lin φ m + lin φ l ∧ ((joinM m l).map (·.1)).Nodup
  | [], m, nd => ⟨(Rat.add_zero _).symm, nd⟩
  | p :: r, m, nd => by
    have nd2 := put_nodup nd p.1 ((getM m p.1).getD 0 + p.2)
    obtain ⟨h1, h2⟩ := join_lin φ r (addM m p.1 p.2) nd2
    refine ⟨?_, h2⟩
    show lin φ (joinM (addM m p.1 p.2) r) = lin φ m + (p.2 * φ p.1 + lin φ r)
    rw [h1]
    unfold addM
    rw [lin_put φ _ _ _ nd]
    grind
theorem join_eqp (l : PM) : Eqp (joinM [] l) l := fun φ => by rw [(join_lin φ l [] List.nodup_nil).1]; exact Rat.zero_add _
theorem join_nodup (l : PM) : ((joinM [] l).map (·.1)).Nodup := (join_lin (fun _ => 0) l [] List.nodup_nil).2
/-- keys of n numbers up to E, ratios within D and B -/
def PB (n E D B : Nat) (m : PM) : Prop := ∀ p ∈ m, p.1.length = n ∧ (∀ k ∈ p.1, k ≤ E) ∧ Sz D B p.2
theorem PB.mono {n E D B C F : Nat} {m : PM} (h : PB n E D B m) (h1 : B ≤ C) (h2 : E ≤ F) : PB n F D C m := fun p hp => let ⟨a, b, c⟩ := h p hp; ⟨a, fun k hk => Nat.le_trans (b k hk) h2, c.mono h1⟩
theorem PB.up {n E D B F : Nat} {m : PM} (h : PB n E D B m) (hF : 0 < F) : PB n E (D * F) B m := fun p hp => let ⟨a, b, c⟩ := h p hp; ⟨a, b, c.up hF⟩
theorem PB.append {n E D B : Nat} {m l : PM} (h : PB n E D B m) (k : PB n E D B l) : PB n E D B (m ++ l) := fun p hp => (List.mem_append.mp hp).elim (h p) (k p)
theorem PB.sub {n E D B : Nat} {m l : PM} (h : PB n E D B m) (k : ∀ p ∈ l, p ∈ m) : PB n E D B l := fun p hp => h p (k p hp)
theorem PB.nz {n E D B : Nat} {m : PM} (h : PB n E D B m) : PB n E D B (nzM m) := h.sub fun _ hp => (List.mem_filter.mp hp).1
theorem get_mem {m : PM} {e : Ex} {v : Rat} (h : getM m e = some v) : (e, v) ∈ m := by
  unfold getM at h
  rw [Option.map_eq_some_iff] at h
  obtain ⟨p, h1, h2⟩ := h
  have h3 : p.1 = e := by have z := List.find?_some h1; exact of_decide_eq_true z
  have h4 := List.mem_of_find?_eq_some h1
  rw [← h3, ← h2]; exact h4
theorem PB.add {n E D B C : Nat} {m : PM} (h : PB n E D B m) {e : Ex} {v : Rat} (hl : e.length = n) (he : ∀ k ∈ e, k ≤ E) (hv : Sz D C v) : PB n E D (B + C) (addM m e v) := by
  have hg : Sz D (B + C) ((getM m e).getD 0 + v) := by
    cases z : getM m e with
    | none =>
      rw [Option.getD_none, Rat.zero_add]
      exact hv.mono (by omega)
    | some x => exact (h _ (get_mem z)).2.2.add hv
  intro p hp
  unfold addM putM at hp
  split at hp
  · obtain ⟨q, hq, rfl⟩ := List.mem_map.mp hp
    split
    · exact ⟨(h q hq).1, (h q hq).2.1, hg⟩
    · exact ⟨(h q hq).1, (h q hq).2.1, (h q hq).2.2.mono (by omega)⟩
  · rcases List.mem_append.mp hp with hp | hp
    · exact ⟨(h p hp).1, (h p hp).2.1, (h p hp).2.2.mono (by omega)⟩
    · rw [List.mem_singleton] at hp
      rw [hp]; exact ⟨hl, he, hg⟩
theorem PB.join {n E D C : Nat} : ∀ {l m : PM} {B : Nat}, PB n E D B m → PB n E D C l → PB n E D (B + C * l.length) (joinM m l)
  | [], m, B, h, _ => by rw [List.length_nil, Nat.mul_zero]; exact h
  | p :: r, m, B, h, k => by
    have k1 := k p (List.mem_cons_self ..)
    have z := PB.join (l := r) (h.add k1.1 k1.2.1 k1.2.2) fun q hq => k q (List.mem_cons_of_mem _ hq)
    refine PB.mono z ?_ (Nat.le_refl _)
    rw [List.length_cons, Nat.mul_add]; omega
theorem join_len : ∀ (l m : PM), (joinM m l).length ≤ m.length + l.length
  | [], m => Nat.le_refl _
  | p :: r, m => by
    have h := join_len r (addM m p.1 p.2)
    have h2 := put_len m p.1 ((getM m p.1).getD 0 + p.2)
    unfold addM at h
    show (joinM (addM m p.1 p.2) r).length ≤ m.length + (r.length + 1)
    unfold addM
    omega
/-! ### in their order -/
def cd (e : Ex) : Int := TS.code 128 (ki e)
def Asc (m : PM) : Prop := m.Pairwise fun p q => cd p.1 < cd q.1
def NZ (m : PM) : Prop := ∀ p ∈ m, p.2 ≠ 0
def ind (e : Ex) : Ex → Rat := fun f => if f = e then 1 else 0
theorem ind_none {e : Ex} : ∀ {m : PM}, (∀ p ∈ m, p.1 ≠ e) → lin (ind e) m = 0
  | [], _ => rfl
  | p :: r, h => by
    have ih := ind_none fun q hq => h q (List.mem_cons_of_mem _ hq)
    show p.2 * (if p.1 = e then 1 else 0) + lin (ind e) r = 0
    rw [if_neg (h p (List.mem_cons_self ..)), ih]
    grind
theorem ind_head {p : Ex × Rat} {r : PM} (h : Asc (p :: r)) : lin (ind p.1) (p :: r) = p.2 := by
  have h2 := (List.pairwise_cons.mp h).1
  show p.2 * (if p.1 = p.1 then 1 else 0) + lin (ind p.1) r = p.2
  rw [if_pos rfl, ind_none fun q hq z => by have := h2 q hq; rw [z] at this; omega]
  grind
theorem uniq : ∀ {a b : PM}, Asc a → Asc b → NZ a → NZ b → Eqp a b → a = b
  | [], [], _, _, _, _, _ => rfl
  | [], q :: s, _, hb, _, nb, h => by
    have z := h (ind q.1)
    rw [ind_head hb] at z
    exact absurd z.symm (nb q (List.mem_cons_self ..))
  | p :: r, [], ha, _, na, _, h => by
    have z := h (ind p.1)
    rw [ind_head ha] at z
    exact absurd z (na p (List.mem_cons_self ..))
  | p :: r, q :: s, ha, hb, na, nb, h => by
    obtain ⟨a1, a2⟩ := List.pairwise_cons.mp ha
    obtain ⟨b1, b2⟩ := List.pairwise_cons.mp hb
    have z1 := h (ind p.1)
    have z2 := h (ind q.1)
    rw [ind_head ha] at z1
    rw [ind_head hb] at z2
    have m1 : ∃ x ∈ q :: s, x.1 = p.1 := by
      refine Classical.byContradiction fun w => na p (List.mem_cons_self ..) ?_
      rw [z1, ind_none fun x hx z => w ⟨x, hx, z⟩]
    have m2 : ∃ x ∈ p :: r, x.1 = q.1 := by
      refine Classical.byContradiction fun w => nb q (List.mem_cons_self ..) ?_
      rw [← z2, ind_none fun x hx z => w ⟨x, hx, z⟩]
    obtain ⟨x, hx, ex⟩ := m1
    obtain ⟨y, hy, ey⟩ := m2
    have ek : p.1 = q.1 := by
      rcases List.mem_cons.mp hx with rfl | hx
      · exact ex.symm
      · rcases List.mem_cons.mp hy with rfl | hy
        · exact ey
        · have w1 := b1 x hx
          have w2 := a1 y hy
          rw [ex] at w1
          rw [ey] at w2
          omega
    have ev : p.2 = q.2 := by
      rw [z1, ek, ind_head hb]
    have e : p = q := Prod.ext ek ev
    subst e
    rw [uniq a2 b2 (fun x hx => na x (List.mem_cons_of_mem _ hx)) (fun x hx => nb x (List.mem_cons_of_mem _ hx)) fun φ => Rat.add_left_cancel _ (h φ)]
theorem code_inj : ∀ {a b : List Int}, a.length = b.length → TS.Bd 128 a → TS.Bd 128 b → TS.code 128 a = TS.code 128 b → a = b
  | [], [], _, _, _, _ => rfl
  | [], _ :: _, h, _, _, _ => nomatch h
  | _ :: _, [], h, _, _, _ => nomatch h
  | x :: r, y :: s, h, ha, hb, e => by
    have h' : r.length = s.length := by simpa using h
    rcases Int.lt_trichotomy x y with w | w | w
    · have := TS.code_lt (B := 128) h' ha.tail hb.tail w
      omega
    · subst w
      have e2 : TS.code 128 r = TS.code 128 s := by
        have e' : x * 128 ^ r.length + TS.code 128 r = x * 128 ^ s.length + TS.code 128 s := e
        rw [h'] at e'
        omega
      rw [code_inj h' ha.tail hb.tail e2]
    · have := TS.code_lt (B := 128) h'.symm hb.tail ha.tail w
      omega
theorem bd_ki {e : Ex} (h : ∀ k ∈ e, k ≤ 80) : TS.Bd 128 (ki e) := fun m hm => by
  obtain ⟨k, hk, rfl⟩ := List.mem_map.mp hm
  have := h k hk
  omega
theorem len_ki (e : Ex) : (ki e).length = e.length := by unfold ki; exact List.length_map _
/-! ### products, values -/
def plE (e f : Ex) : Ex := List.zipWith (· + ·) e f
def mulM (a b : PM) : PM := a.flatMap fun p => b.map fun q => (plE p.1 q.1, p.2 * q.2)
theorem lin_map (φ : Ex → Rat) (p : Ex × Rat) : ∀ b : PM, lin φ (b.map fun q => (plE p.1 q.1, p.2 * q.2)) = p.2 * lin (fun f => φ (plE p.1 f)) b
  | [] => by show (0 : Rat) = p.2 * 0; grind
  | q :: s => by
    rw [List.map_cons]
    show p.2 * q.2 * φ (plE p.1 q.1) + lin φ _ = p.2 * (q.2 * φ (plE p.1 q.1) + lin _ s)
    rw [lin_map φ p s]
    grind
theorem lin_mul (φ : Ex → Rat) : ∀ a b : PM, lin φ (mulM a b) = lin (fun e => lin (fun f => φ (plE e f)) b) a
  | [], _ => rfl
  | p :: r, b => by
    have e : mulM (p :: r) b = (b.map fun q => (plE p.1 q.1, p.2 * q.2)) ++ mulM r b := List.flatMap_cons
    rw [e, lin_append, lin_map, lin_mul φ r b]
    rfl
theorem Eqp.mul {a b c d : PM} (h : Eqp a b) (k : Eqp c d) : Eqp (mulM a c) (mulM b d) := fun φ => by
  rw [lin_mul, lin_mul, h]
  exact lin_congr fun p _ => k _
def sclM (c : Rat) (a : PM) : PM := a.map fun p => (p.1, p.2 * c)
theorem lin_scl (φ : Ex → Rat) (c : Rat) : ∀ a : PM, lin φ (sclM c a) = lin φ a * c
  | [] => by show (0 : Rat) = 0 * c; grind
  | p :: r => by
    show p.2 * c * φ p.1 + lin φ (sclM c r) = (p.2 * φ p.1 + lin φ r) * c
    rw [lin_scl φ c r]
    grind
theorem Eqp.scl {a b : PM} (h : Eqp a b) (c : Rat) : Eqp (sclM c a) (sclM c b) := fun φ => by rw [lin_scl, lin_scl, h]
def mon : Ex → List Rat → Rat
  | k :: e, x :: p => x ^ k * mon e p
  | _, _ => 1
def ev (p : List Rat) (m : PM) : Rat := lin (fun e => mon e p) m
theorem mon_add : ∀ (e f : Ex) (p : List Rat), e.length = p.length → f.length = p.length → mon (plE e f) p = mon e p * mon f p
  | [], [], [], _, _ => by show (1 : Rat) = 1 * 1; grind
  | [], _ :: _, [], _, k => nomatch k
  | _ :: _, [], [], h, _ => nomatch h
  | i :: e, j :: f, x :: p, h, k => by
    show x ^ (i + j) * mon (plE e f) p = x ^ i * mon e p * (x ^ j * mon f p)
    rw [mon_add e f p (by simpa using h) (by simpa using k)]
    grind
theorem ev_mul {n E D B F C G : Nat} {a b : PM} {p : List Rat} (ha : PB n E D B a) (hb : PB n F G C b) (hp : p.length = n) : ev p (mulM a b) = ev p a * ev p b := by
  unfold ev
  rw [lin_mul, ← lin_mulr]
  refine lin_congr fun x hx => ?_
  have e : ∀ y ∈ b, mon (plE x.1 y.1) p = mon y.1 p * mon x.1 p := fun y hy => by
    rw [mon_add _ _ _ ((ha x hx).1.trans hp.symm) ((hb y hy).1.trans hp.symm)]
    grind
  rw [lin_congr (m := b) (φ := fun f => mon (plE x.1 f) p) (ψ := fun f => mon f p * mon x.1 p) e, lin_mulr]
  grind
theorem PB.mul {n E D B F C G : Nat} {a b : PM} (ha : PB n E D B a) (hb : PB n F G C b) : PB n (E + F) (D * G) (B * C) (mulM a b) := fun p hp => by
  obtain ⟨x, hx, hp⟩ := List.mem_flatMap.mp hp
  obtain ⟨y, hy, rfl⟩ := List.mem_map.mp hp
  refine ⟨?_, fun k hk => ?_, (ha x hx).2.2.mul (hb y hy).2.2⟩
  · show (plE x.1 y.1).length = n
    unfold plE
    rw [List.length_zipWith, (ha x hx).1, (hb y hy).1, Nat.min_self]
  · obtain ⟨i, hi⟩ := List.mem_iff_getElem?.mp hk
    have hi' : (plE x.1 y.1)[i]? = some k := hi
    unfold plE at hi'
    rw [List.getElem?_zipWith] at hi'
    cases h1 : x.1[i]? with
    | none => rw [h1] at hi'; exact nomatch hi'
    | some u =>
      cases h2 : y.1[i]? with
      | none => rw [h1, h2] at hi'; exact nomatch hi'
      | some v =>
        rw [h1, h2] at hi'
        have e : u + v = k := Option.some.inj hi'
        have := (ha x hx).2.1 u (List.mem_of_getElem? h1)
        have := (hb y hy).2.1 v (List.mem_of_getElem? h2)
        omega
theorem PB.scl {n E D B : Nat} {a : PM} (ha : PB n E D B a) : PB n E D B (sclM (-1) a) := fun p hp => by
  obtain ⟨x, hx, rfl⟩ := List.mem_map.mp hp
  refine ⟨(ha x hx).1, (ha x hx).2.1, ?_⟩
  show Sz D B (x.2 * -1)
  rw [Rat.mul_neg, Rat.mul_one]
  exact (ha x hx).2.2.neg
end AL
set_option Elab.async false
set_option linter.all false
set_option maxRecDepth 100000
/-! dict(pairs) where the keys are tuples, all unlike. -/
namespace AL
open PySem PySem.W PySem.Spec PyProof.Rows L2
theorem stored_all {κ : Type} [DecidableEq κ] : ∀ (ps xs : List (κ × Addr × Value)), ((xs ++ ps).map (·.1)).Nodup → storedAllH xs ps = xs ++ ps
  | [], xs, _ => by rw [List.append_nil]; rfl
  | p :: ps, xs, h => by
    have no : atKey xs p.1 = none := by
      unfold atKey
      rw [Option.map_eq_none_iff, List.find?_eq_none]
      intro x hx z
      rw [List.map_append, List.nodup_append] at h
      exact h.2.2 _ (List.mem_map.mpr ⟨x, hx, rfl⟩) p.1 (by simp) (of_decide_eq_true z)
    have e : storedAllH xs (p :: ps) = storedAllH (storedH xs p.1 p.2.1 p.2.2) ps := rfl
    rw [e, storedH_new no, stored_all ps _ (by rw [List.append_assoc]; exact h), List.append_assoc]
    rfl
section
variable {X : Cx} {pins : List (Addr × Obj)} {σ : L2.St} {H : Hp} {s : Shared}
/-- the pairs as they lie -/
theorem lie_pairs (I : Inv X pins σ H s) {ps : List Addr} {kvs : List (List L2.Key × V)} (h : Paired (fun p (kv : List L2.Key × V) => ∃ b, H p = some (.tup [.ref b, kv.2]) ∧ H b = some (.tup (kv.1.map kV))) ps kvs) :
    ∃ xs : List (List L2.Key × Addr × Value), KT H kvs xs ∧ xs.length = ps.length ∧ ∀ (j : Nat) (x : List L2.Key × Addr × Value), xs[j]? = some x → ∃ p, ps[j]? = some p ∧ PairAt s.heap p (.ref x.2.1) x.2.2 := by
  induction h with
  | nil => exact ⟨[], .nil, rfl, fun j x e => by simp at e⟩
  | @cons p kv ps kvs h t ih =>
    obtain ⟨xs, r, l, q⟩ := ih
    obtain ⟨b, h1, h2⟩ := h
    obtain ⟨_, its, rv, o, ho, hc, n, hd⟩ := (show ObjOk X.prog X.w H s.heap p (.tup [.ref b, kv.2]) from I.hok p _ h1)
    obtain ⟨u, v, rfl, ru, rv2⟩ := vals2 rv
    cases ru
    refine ⟨(kv.1, b, v) :: xs, .cons ⟨rfl, h2, rv2⟩ r, by rw [List.length_cons, List.length_cons, l], fun j x e => ?_⟩
    cases j with
    | zero =>
      cases Option.some.inj e
      exact ⟨p, rfl, .inl ⟨o, ho, hc, n, hd⟩⟩
    | succ j =>
      obtain ⟨p2, e1, e2⟩ := q j x (by simpa using e)
      exact ⟨p2, by simpa using e1, e2⟩
theorem kt_keys {kvs : List (List L2.Key × V)} {xs : List (List L2.Key × Addr × Value)} (r : KT H kvs xs) : kvs.map (·.1) = xs.map (·.1) := by
  induction r with
  | nil => rfl
  | cons h t ih => rw [List.map_cons, List.map_cons, h.1, ih]
end
section
variable {X : Cx}
/-- dict(l), l a list of pairs (tuple, value) with keys all unlike -/
def rDictT (K : PySem.W.Frag) : List V → Hp → VK → Prop := fun vs H Q => ∃ (a : Addr) (ps : List Addr) (kvs : List (List L2.Key × V)), vs = [.ref a] ∧ H a = some (.lst (ps.map V.ref)) ∧ (kvs.map (·.1)).Nodup ∧
  Paired (fun p (kv : List L2.Key × V) => ∃ b, H p = some (.tup [.ref b, kv.2]) ∧ H b = some (.tup (kv.1.map kV))) ps kvs ∧ ∀ p, H p = none → Q (.ref p) (upd H p (.dT kvs))
theorem cr_dictT (hc : X.calm = true) (hu : X.A.units + 64 < cLine) : CallR X (.type "dict") (rDictT X.K) := by
  intro pins s σ H vs us Q I r h
  obtain ⟨a, ps, kvs, rfl, ha, nd, hp, q⟩ := h
  obtain rfl := Vals.ref1 r
  obtain ⟨its, rv, pl, hz⟩ := I.list (SqL.of ha)
  cases refs_at rv
  rw [List.length_map] at hz
  obtain ⟨xs, kt, hl, hx⟩ := lie_pairs I hp
  obtain ⟨o, n, ho, hcl, hd, hdat⟩ := pl
  have P := PairArg.list (prog := X.prog) (w := X.w) a (ps.map Value.ref).toArray (fun j => ps.getD j 0) (xs.map fun x => (Value.ref x.2.1, x.2.2))
  have kis : ∀ h' : Heap, (∀ b o, s.heap.get? b = some o → h'.get? b = some o) → ∀ x ∈ xs, (KDT X).is h' x.1 x.2.1 := fun h' k x hx => by
    obtain ⟨j, hj⟩ := List.mem_iff_getElem?.mp hx
    obtain ⟨e, _, r1, r2, _⟩ := DX.pget kt hj
    have r2' : H x.2.1 = some (.tup (x.1.map kV)) := r1 ▸ r2
    obtain ⟨ok, ik, nk, k1, k2, k3, k4⟩ := (show IsTupleKey (mixKind X.prog X.w) s.heap x.1 x.2.1 from key_of I.hok r2')
    exact ⟨ok, ik, nk, k _ _ k1, k2, k3, k4⟩
  refine call_dict_pairsH (knd := KDT X) (ps := xs) P (I.ok.hd hc) (by show X.A.units + 1 + 1 < cLine; omega) ⟨⟨o, n, ho, hcl, hd, hdat⟩, ?_, fun j k v e => ?_⟩ ⟨(by rw [List.length_map]), fun i key v e => ?_⟩ (fun h' k x hx => kis h' (fun b o z => k b o (Nat.ne_of_lt (Heap.lt_size z)) List.not_mem_nil z) x hx) (by rw [List.length_map, hl]; exact hz) fun h' tk dd kp => ?_
  · rw [List.size_toArray, List.length_map, List.length_map, hl]
  · rw [List.getElem?_map] at e
    cases ex : xs[j]? with
    | none => rw [ex] at e; cases e
    | some x =>
      rw [ex] at e
      cases Option.some.inj e
      obtain ⟨p, e1, e2⟩ := hx j x ex
      have e3 : ps.getD j 0 = p := by rw [List.getD, e1]; rfl
      dsimp only
      rw [e3]
      exact ⟨by rw [List.getElem?_toArray, List.getElem?_map, e1]; rfl, e2⟩
  · have e' : (xs.map fun x => (Value.ref x.2.1, x.2.2))[i]? = some (key, v) := e
    rw [List.getElem?_map] at e'
    cases ex : xs[i]? with
    | none => rw [ex] at e'; cases e'
    | some x =>
      rw [ex] at e'
      cases Option.some.inj e'
      exact ⟨x.1, x.2.1, rfl, rfl⟩
  · have hm : (s.heap.objs.size == sysModules) = false := beq_eq_false_iff_ne.mpr (Nat.ne_of_gt I.big)
    rw [stored_all xs [] (by rw [List.nil_append, ← kt_keys kt]; exact nd), List.nil_append] at dd
    obtain ⟨od, es, ep, d1, d2, d3, d4, _, d6⟩ := dd
    have nw : H s.heap.objs.size = none := I.hok.fresh (Nat.le_refl _)
    refine ⟨.ref s.heap.objs.size, upd H s.heap.objs.size (.dT kvs), I.laid (t' := tk) (fun b o z => kp b o List.not_mem_nil z) (Nat.le_refl _) ⟨?_, hm, xs, kt.keeps fun b ys z => by rw [upd_ne (ne_of_none z nw)]; exact z, od, es, ep, d1, d2, d3, d4, d6⟩, rfl, q _ nw⟩
    rw [Paired.length kt, hl]; exact hz
end
end AL
set_option Elab.async false
set_option linter.all false
set_option maxRecDepth 100000
/-! Loops over a list or a tuple alike; isinstance(x, (list, tuple)); a statement that is not reached. -/
namespace AL
open PySem PySem.Spec PyProof.Rows L2
def SqB (K : PySem.W.Frag) (H : Hp) (a : Addr) (xs : List V) : Bool → Prop
  | true => SqL K H a xs
  | false => SqT K H a xs
def ItB (K : PySem.W.Frag) (a : Addr) : Bool → It
  | true => Itl K a
  | false => Itt K a
def iSeq (K : PySem.W.Frag) (tl : TE) : TI := fun σ H R => tl σ H fun x H1 => ∃ a k, x = .ref a ∧ (∃ xs, SqB K H1 a xs k) ∧ R (ItB K a k) H1
theorem pi_seq {X : Cx} {tg l : Expr} {tl : TE} (hl : PE X l tl) : PI X tg l (iSeq X.K tl) := by
  refine ⟨fun pins s σ H R I h => thn (hl.run pins s σ H _ I h) fun v t ⟨x, H1, J, r, a, k, e, ⟨xs, hs⟩, q⟩ => ?_⟩
  subst e
  cases r
  have fp : ∀ b ∈ [t.heap.objs.size], FpOk X pins H1 b := fun b hb => by
    rw [List.mem_singleton] at hb
    rw [hb]
    exact J.fpOk (Nat.le_refl _) (J.hok.fresh (Nat.le_refl _))
  have kp : ∀ o : Obj, Inv X pins σ H1 { t with heap := t.heap.push o, toks := t.toks } := fun o => J.kept (t' := t.toks) fun b u z => Heap.get?_push_of_some _ z
  cases k with
  | true =>
    obtain ⟨its, _, p, _⟩ := J.list hs
    exact wpAny_pyIter_list p.isList ⟨_, _, _, _, H1, rfl, kp _, turn_list a _, ⟨_, Heap.get?_push_size _ rfl, rfl, rfl⟩, fp, q⟩
  | false =>
    obtain ⟨its, _, p, _⟩ := J.tuple hs
    exact wpAny_pyIter_tuple (show t.heap.IsTuple a its.toArray from p) ⟨_, _, _, _, H1, rfl, kp _, turn_tuple a _, ⟨_, Heap.get?_push_size _ rfl, rfl, rfl⟩, fp, q⟩
theorem for_seq {K : PySem.W.Frag} {k : Bool} {a : Addr} {xs : List V} {g : TG} {tb : TS} {D : Ends} {σ : L2.St} {H : Hp} (Pv : Nat → L2.St → Hp → Prop) (h0 : Pv 0 σ H) (hl : ∀ i σ H, i ≤ xs.length → Pv i σ H → SqB K H a xs k)
    (hs : ∀ i x σ H, xs[i]? = some x → Pv i σ H → g x σ H fun σ2 H2 => tb { D with nx := Pv (i + 1), ct := Pv (i + 1), bk := D.nx } σ2 H2) (hd : ∀ σ H, Pv xs.length σ H → D.nx σ H) :
    ∃ W : Nat → Nat → L2.St → Hp → Prop, (∃ m, W 0 m σ H) ∧ ∀ i m σ H, W i m σ H →
      ((ItB K a k).stop i H ∧ D.nx σ H) ∨ ((ItB K a k).go i H ∧ ∃ N : L2.St → Hp → Prop, (∀ σ' H', N σ' H' → ∃ m', m' < m ∧ W (i + 1) m' σ' H') ∧ ∀ x H', (ItB K a k).yld i H x H' → g x σ H' fun σ2 H2 => tb { D with nx := N, ct := N, bk := D.nx } σ2 H2) := by
  cases k with
  | true => exact for_list Pv h0 hl hs hd
  | false => exact for_tup Pv h0 hl hs hd
theorem lc_seq {K : PySem.W.Frag} {k : Bool} {a : Addr} {xs : List V} {g : TG} {tt : TT} {te : TE} {vs : List Nat} {σ : L2.St} {H1 : Hp} {D : Addr} {Qd : Hp → Prop} (Pv : Nat → Hp → Prop) (h0 : Pv 0 (upd H1 D (.lst []))) (hl : ∀ i H, i ≤ xs.length → Pv i H → SqB K H a xs k)
    (hs : ∀ i x H, xs[i]? = some x → Pv i H → g x (wipe σ vs) H fun σ2 H2 => wipe σ2 vs = wipe σ vs ∧ tt σ2 H2 fun b H3 =>
      if b = true then te σ2 H3 fun y H4 => ∃ acc, H4 D = some (.lst acc) ∧ acc.length < sizeLine ∧ Pv (i + 1) (upd H4 D (.lst (acc ++ [y]))) else Pv (i + 1) H3) (hd : ∀ H, Pv xs.length H → Qd H) :
    ∃ W : Nat → Nat → Hp → Prop, (∃ m, W 0 m (upd H1 D (.lst []))) ∧ ∀ i m H, W i m H →
      ((ItB K a k).stop i H ∧ Qd H) ∨ ((ItB K a k).go i H ∧ ∃ Nx : Hp → Prop, (∀ H', Nx H' → ∃ m', m' < m ∧ W (i + 1) m' H') ∧ ∀ x H', (ItB K a k).yld i H x H' → g x (wipe σ vs) H' fun σ2 H2 => wipe σ2 vs = wipe σ vs ∧ tt σ2 H2 fun b H3 =>
        if b = true then te σ2 H3 fun y H4 => ∃ acc, H4 D = some (.lst acc) ∧ acc.length < sizeLine ∧ Nx (upd H4 D (.lst (acc ++ [y]))) else Nx H3) := by
  cases k with
  | true => exact lc_list Pv h0 hl hs hd
  | false => exact lc_tup Pv h0 hl hs hd
theorem ps_never {X : Cx} {st : Stmt} : PS X st (fun _ _ _ => False) := ⟨fun _ _ _ _ _ _ h => h.elim⟩
end AL
set_option Elab.async false
set_option maxRecDepth 100000
set_option exponentiation.threshold 70000
/-! Polynomials in the heap. -/
namespace AL
open PySem PySem.Spec PyProof.Rows L2
def KeyAt (H : Hp) (k : Addr) (e : Ex) : Prop := H k = some (.tup ((ki e).map V.int))
def EntAt (H : Hp) (b : Addr) (e : Ex × Rat) : Prop := ∃ k r, H b = some (.tup [.ref k, .ref r]) ∧ KeyAt H k e.1 ∧ RQ H r e.2
/-- a term as it may be passed -/
def TermV (K : PySem.W.Frag) (H : Hp) (b : Addr) (e : Ex × Rat) : Prop := ∃ (k : Addr) (v : V) (p : Int) (q : Nat), H b = some (.tup [.ref k, v]) ∧ KeyAt H k e.1 ∧ RatV K H v (some (p, q)) ∧ Mid p q ∧ mkRat p q = e.2
abbrev DRow (H : Hp) (k : List Int × Addr) (e : Ex × Rat) : Prop := k.1 = ki e.1 ∧ RQ H k.2 e.2
def DicM (H : Hp) (a : Addr) (m : PM) : Prop := ∃ ks : List (List Int × Addr), H a = some (.dT (ks.map entI)) ∧ Paired (DRow H) ks m
theorem paired_mono {α β : Type} {R S : α → β → Prop} {as : List α} {bs : List β} (h : Paired R as bs) (k : ∀ a b, R a b → S a b) : Paired S as bs := by
  induction h with
  | nil => exact .nil
  | cons h _ ih => exact .cons (k _ _ h) ih
theorem EntAt.same {H H' : Hp} {b : Addr} {e : Ex × Rat} (h : EntAt H b e) (s : Same H H') : EntAt H' b e := let ⟨k, r, h1, h2, h3⟩ := h; ⟨k, r, s _ _ h1, s _ _ h2, s _ _ h3⟩
theorem TermV.same {K : PySem.W.Frag} {H H' : Hp} {b : Addr} {e : Ex × Rat} (h : TermV K H b e) (s : Same H H') : TermV K H' b e := let ⟨k, v, p, q, h1, h2, h3, h4⟩ := h; ⟨k, v, p, q, s _ _ h1, s _ _ h2, ratV_same h3 s, h4⟩
theorem EntAt.term {K : PySem.W.Frag} {H : Hp} {b : Addr} {e : Ex × Rat} (h : EntAt H b e) (m : Mid e.2.num e.2.den) : TermV K H b e :=
  let ⟨k, r, h1, h2, h3⟩ := h; ⟨k, .ref r, e.2.num, e.2.den, h1, h2, .pair h3 (low_rat _).1, m, Rat.mkRat_self _⟩
theorem DicM.same {H H' : Hp} {a : Addr} {m : PM} (h : DicM H a m) (s : Same H H') : DicM H' a m := let ⟨ks, h1, h2⟩ := h; ⟨ks, s _ _ h1, paired_mono h2 fun _ _ z => ⟨z.1, s _ _ z.2⟩⟩
theorem DicM.tup {H H' : Hp} {a : Addr} {m : PM} (h : DicM H a m) (ha : H' a = H a) (s : ∀ b ys, H b = some (.tup ys) → H' b = some (.tup ys)) : DicM H' a m := let ⟨ks, h1, h2⟩ := h; ⟨ks, by rw [ha]; exact h1, paired_mono h2 fun _ _ z => ⟨z.1, s _ _ z.2⟩⟩
theorem DicM.nil {H : Hp} {a : Addr} (h : H a = some (.dT [])) : DicM H a [] := ⟨[], h, .nil⟩
abbrev keyL (e : Ex) : List L2.Key := (ki e).map Sum.inl
theorem keyL_inj {a b : Ex} (h : keyL a = keyL b) : a = b := ki_inj (inl_inj _ _ h)
theorem keyAt_L {H : Hp} {k : Addr} {e : Ex} (h : KeyAt H k e) : H k = some (.tup ((keyL e).map kV)) := by rw [kV_ints]; exact h
theorem row_get {H : Hp} {e : Ex} : ∀ {ks : List (List Int × Addr)} {m : PM}, Paired (DRow H) ks m → (valV (ks.map entI) (keyL e) = none ∧ getM m e = none) ∨ ∃ r x, valV (ks.map entI) (keyL e) = some (.ref r) ∧ getM m e = some x ∧ RQ H r x
  | _, _, .nil => .inl ⟨rfl, rfl⟩
  | _, _, .cons (a := k) (b := p) (l₁ := ks) (l₂ := m) h t => by
    by_cases z : p.1 = e
    · refine .inr ⟨k.2, p.2, ?_, ?_, h.2⟩
      · rw [List.map_cons, valV_pos (show (entI k).1 = keyL e by show k.1.map Sum.inl = keyL e; rw [h.1, z])]
      · unfold getM; rw [List.find?_cons, decide_eq_true z]; rfl
    · have nz : ¬ (entI k).1 = keyL e := fun w => z (keyL_inj (by rw [← w]; show keyL p.1 = k.1.map Sum.inl; rw [h.1]))
      have g : getM (p :: m) e = getM m e := by unfold getM; rw [List.find?_cons, decide_eq_false z]
      rw [List.map_cons, valV_neg nz, g]
      exact row_get t
/-- d.get(key, zero) -/
theorem dic_get {H : Hp} {a k z : Addr} {m : PM} {e : Ex} (D : DicM H a m) (hk : KeyAt H k e) (hz : RQ H z 0) : ∃ o r, DGet H a (.ref k) o ∧ o.getD (.ref z) = .ref r ∧ RQ H r ((getM m e).getD 0) := by
  obtain ⟨ks, h1, h2⟩ := D
  rcases row_get (e := e) h2 with ⟨v, g⟩ | ⟨r, x, v, g, q⟩
  · exact ⟨_, z, .t h1 (keyAt_L hk), by rw [v]; rfl, by rw [g]; exact hz⟩
  · exact ⟨_, r, .t h1 (keyAt_L hk), by rw [v]; rfl, by rw [g]; exact q⟩
/-- d[key] -/
theorem dic_at {H : Hp} {a k : Addr} {m : PM} {e : Ex} {x : Rat} (D : DicM H a m) (hk : KeyAt H k e) (h : getM m e = some x) : ∃ r, DGet H a (.ref k) (some (.ref r)) ∧ RQ H r x := by
  obtain ⟨ks, h1, h2⟩ := D
  rcases row_get (e := e) h2 with ⟨v, g⟩ | ⟨r, y, v, g, q⟩
  · rw [h] at g; cases g
  · rw [h] at g; cases g
    exact ⟨r, by rw [← v]; exact .t h1 (keyAt_L hk), q⟩
theorem row_put {H : Hp} {e : Ex} {r : Addr} {v : Rat} (hr : RQ H r v) {ks : List (List Int × Addr)} {m : PM} (h : Paired (DRow H) ks m) : ∃ ls : List (List Int × Addr), putK (ks.map entI) (keyL e) (.ref r) = ls.map entI ∧ Paired (DRow H) ls (putM m e v) := by
  have any : (ks.map entI).any (fun kv => decide (kv.1 = keyL e)) = hasM m e := by
    rw [valV_any, has_get]
    rcases row_get (e := e) h with ⟨w, g⟩ | ⟨r, x, w, g, q⟩
    · rw [w, g]; rfl
    · rw [w, g]; rfl
  unfold putK putM
  rw [any]
  by_cases z : hasM m e = true
  · rw [if_pos z, if_pos z]
    refine ⟨ks.map fun k => if k.1 = ki e then (k.1, r) else k, ?_, ?_⟩
    · rw [List.map_map, List.map_map]
      refine List.map_congr_left fun k _ => ?_
      show (if (entI k).1 = keyL e then ((entI k).1, V.ref r) else entI k) = entI (if k.1 = ki e then (k.1, r) else k)
      by_cases w : k.1 = ki e
      · rw [if_pos w, if_pos (show k.1.map Sum.inl = keyL e by rw [w])]
      · rw [if_neg w, if_neg (fun u => w (inl_inj _ _ u))]
    · clear z any
      induction h with
      | nil => exact .nil
      | @cons k p ks m hd _ ih =>
        rw [List.map_cons, List.map_cons]
        refine .cons ?_ ih
        by_cases w : p.1 = e
        · rw [if_pos w, if_pos (by rw [hd.1, w])]
          exact ⟨hd.1, hr⟩
        · rw [if_neg w, if_neg (fun u => w (ki_inj (by rw [← hd.1, u])))]
          exact hd
  · rw [if_neg z, if_neg z]
    refine ⟨ks ++ [(ki e, r)], by rw [List.map_append]; rfl, ?_⟩
    clear z any
    induction h with
    | nil => exact .cons ⟨rfl, hr⟩ .nil
    | cons hd _ ih => exact .cons hd ih
theorem DicM.len {H : Hp} {a : Addr} {m : PM} (D : DicM H a m) : ∃ kvs, H a = some (.dT kvs) ∧ kvs.length = m.length := let ⟨ks, h1, h2⟩ := D; ⟨_, h1, by rw [List.length_map]; exact Paired.length h2⟩
/-- d[key] = ratio -/
theorem dic_put {H : Hp} {a k r : Addr} {m : PM} {e : Ex} {v : Rat} (D : DicM H a m) (hk : KeyAt H k e) (hr : RQ H r v) (few : m.length < sizeLine) : ∃ o, DPut H a (.ref k) (.ref r) (upd H a o) ∧ DicM (upd H a o) a (putM m e v) := by
  obtain ⟨ks, h1, h2⟩ := D
  obtain ⟨ls, e1, e2⟩ := row_put (e := e) hr h2
  refine ⟨.dT (putK (ks.map entI) (keyL e) (.ref r)), .t h1 (keyAt_L hk) (by rw [List.length_map, Paired.length h2]; exact few), ls, by rw [upd_same, e1], paired_mono e2 fun k p z => ⟨z.1, ?_⟩⟩
  have ne : k.2 ≠ a := fun w => by have := z.2; rw [w] at this; rw [show H a = _ from this] at h1; cases h1
  exact Eq.trans (upd_ne ne) z.2
/-- in its order, nothing 0 -/
structure Can (n E D B : Nat) (m : PM) : Prop where
  asc : Asc m
  nz : NZ m
  pb : PB n E D B m
/-- a Poly -/
def PolyAt (CP : Addr) (H : Hp) (x : Addr) (n : Nat) (m : PM) : Prop := ∃ dx T ts, H x = some (.ins CP dx [("size", .int (n : Int)), ("terms", .ref T)]) ∧ H T = some (.tup (ts.map V.ref)) ∧ Paired (EntAt H) ts m
theorem PolyAt.same {CP : Addr} {H H' : Hp} {x : Addr} {n : Nat} {m : PM} (h : PolyAt CP H x n m) (s : Same H H') : PolyAt CP H' x n m := let ⟨dx, T, ts, h1, h2, h3⟩ := h; ⟨dx, T, ts, s _ _ h1, s _ _ h2, paired_mono h3 fun _ _ z => z.same s⟩
/-- what sorted tells -/
theorem sorted_pm {H : Hp} {ks : List (List Int × Addr)} {m : PM} {ps : List (Addr × List Int × Addr)} (h : Paired (DRow H) ks m) (pm : (ps.map (·.2)).Perm ks) : ∃ m' : PM, m'.Perm m ∧ Paired (DRow H) (ps.map (·.2)) m' := by
  generalize ps.map (·.2) = ls at pm
  induction pm generalizing m with
  | nil => cases h; exact ⟨[], .nil, .nil⟩
  | cons x p ih =>
    cases h with
    | cons hd tl =>
      obtain ⟨m', p1, p2⟩ := ih tl
      exact ⟨_ :: m', p1.cons _, .cons hd p2⟩
  | swap x y l =>
    cases h with
    | cons hd tl =>
      cases tl with
      | cons hd2 tl2 => exact ⟨_, List.Perm.swap _ _ _, .cons hd2 (.cons hd tl2)⟩
  | trans p1 p2 i1 i2 =>
    obtain ⟨m', q1, q2⟩ := i2 h
    obtain ⟨m'', q3, q4⟩ := i1 q2
    exact ⟨m'', q3.trans q1, q4⟩
theorem asc_of {H : Hp} {n E D B : Nat} {ls : List (List Int × Addr)} {m : PM} (h : Paired (DRow H) ls m) (o : ls.Pairwise fun e f => TS.code 128 e.1 ≤ TS.code 128 f.1) (nd : (m.map (·.1)).Nodup) (b : PB n E D B m) (hE : E ≤ 80) : Asc m := by
  induction h with
  | nil => exact .nil
  | @cons k p ks m hd tl ih =>
    obtain ⟨o1, o2⟩ := List.pairwise_cons.mp o
    rw [List.map_cons, List.nodup_cons] at nd
    refine List.pairwise_cons.mpr ⟨fun q hq => ?_, ih o2 nd.2 (b.sub fun _ z => List.mem_cons_of_mem _ z)⟩
    obtain ⟨i, hi⟩ := List.mem_iff_getElem?.mp hq
    obtain ⟨k2, e1, e2⟩ := DX.pget tl hi
    have le := o1 k2 (List.mem_of_getElem? e1)
    rw [hd.1, e2.1] at le
    have b1 := b p (List.mem_cons_self ..)
    have b2 := b q (List.mem_cons_of_mem _ hq)
    have ne : cd p.1 ≠ cd q.1 := fun z => nd.1 (List.mem_map.mpr ⟨q, hq, (ki_inj (code_inj (by rw [len_ki, len_ki, b1.1, b2.1]) (bd_ki fun k hk => Nat.le_trans (b1.2.1 k hk) hE) (bd_ki fun k hk => Nat.le_trans (b2.2.1 k hk) hE) z)).symm⟩)
    have le' : cd p.1 ≤ cd q.1 := le
    omega
end AL
namespace AL
open PySem PySem.Spec PyProof.Rows L2
theorem prd_get {α β : Type} {R : α → β → Prop} : ∀ {as : List α} {bs : List β} {i : Nat} {a : α}, Paired R as bs → as[i]? = some a → ∃ b, bs[i]? = some b ∧ R a b
  | _, _, _, _, .nil, h => by simp at h
  | _, _, 0, _, .cons (b := b) r _, h => by
    cases Option.some.inj h
    exact ⟨b, rfl, r⟩
  | _, _, i + 1, _, .cons _ t, h => prd_get (i := i) t (by simpa using h)
theorem prd_len {α β : Type} {R : α → β → Prop} {as : List α} {bs : List β} (h : Paired R as bs) : as.length = bs.length := Paired.length h
theorem prd_snoc {α β : Type} {R : α → β → Prop} {as : List α} {bs : List β} {a : α} {b : β} (h : Paired R as bs) (r : R a b) : Paired R (as ++ [a]) (bs ++ [b]) := by
  induction h with
  | nil => exact .cons r .nil
  | cons q _ ih => exact .cons q ih
theorem map_ref {ts : List Addr} {i : Nat} {x : V} (h : (ts.map V.ref)[i]? = some x) : ∃ b, ts[i]? = some b ∧ x = .ref b := by
  rw [List.getElem?_map] at h
  cases e : ts[i]? with
  | none => rw [e] at h; cases h
  | some b => rw [e] at h; exact ⟨b, rfl, (Option.some.inj h).symm⟩
theorem sz_zero {D B : Nat} (h : 0 < D) : Sz D B 0 := ⟨h, 0, Nat.zero_le _, by simp⟩
theorem PB.getD {n E D B : Nat} {m : PM} (h : PB n E D B m) (h0 : 0 < D) (e : Ex) : Sz D B ((getM m e).getD 0) := by
  cases z : getM m e with
  | none => exact sz_zero h0
  | some x => exact (h _ (get_mem z)).2.2
theorem get_of {m : PM} {e : Ex} {x : Rat} (nd : (m.map (·.1)).Nodup) (h : (e, x) ∈ m) : getM m e = some x := by
  induction m with
  | nil => cases h
  | cons p r ih =>
    rw [List.map_cons, List.nodup_cons] at nd
    unfold getM
    rw [List.find?_cons]
    by_cases w : p.1 = e
    · rw [decide_eq_true w]
      rcases List.mem_cons.mp h with z | z
      · rw [← z]; rfl
      · exact absurd (List.mem_map.mpr ⟨_, z, w.symm⟩) nd.1
    · rw [decide_eq_false w]
      rcases List.mem_cons.mp h with z | z
      · exact absurd (by rw [← z]) w
      · exact ih nd.2 z
/-- the ratio at a key, as keys -/
def MV (m : PM) (y : List Int) : List L2.Key := [Sum.inl ((getM m (y.map Int.toNat)).getD 0).num, Sum.inl (((getM m (y.map Int.toNat)).getD 0).den : Int)]
theorem ki_nat : ∀ e : Ex, (ki e).map Int.toNat = e
  | [] => rfl
  | k :: r => by
    show (k : Int).toNat :: (ki r).map Int.toNat = k :: r
    rw [ki_nat r, Int.toNat_natCast]
theorem rows_M {H : Hp} {n E D B : Nat} {ks : List (List Int × Addr)} {m : PM} (h : Paired (DRow H) ks m) (nd : (m.map (·.1)).Nodup) (pb : PB n E D B m) (hE : E ≤ 80) : ∀ k ∈ ks, H k.2 = some (.tup ((MV m k.1).map kV)) ∧ k.1.length = n ∧ TS.Bd 128 k.1 := by
  intro k hk
  obtain ⟨i, hi⟩ := List.mem_iff_getElem?.mp hk
  obtain ⟨p, e1, e2, e3⟩ := prd_get h hi
  have hp := List.mem_of_getElem? e1
  obtain ⟨b1, b2, b3⟩ := pb p hp
  refine ⟨?_, by rw [e2, len_ki, b1], by rw [e2]; exact bd_ki fun k hk => Nat.le_trans (b2 k hk) hE⟩
  unfold MV
  rw [e2, ki_nat, get_of nd hp]
  exact e3
theorem join_pb {n E D B : Nat} {l : PM} (pb : PB n E D B l) (i : Nat) (hi : i ≤ l.length) : PB n E D (B * i) (joinM [] (l.take i)) := by
  have z := PB.join (m := []) (B := 0) (l := l.take i) (fun p hp => nomatch hp) (pb.sub fun p hp => List.mem_of_mem_take hp)
  rw [List.length_take, Nat.min_eq_left hi, Nat.zero_add] at z
  exact z
theorem low6 {x : Nat} (h : x < 2 ^ 5999) : x < 2 ^ 6000 := Nat.lt_trans h (Nat.pow_lt_pow_right (by decide) (by decide))
theorem nz_take_true {m : PM} {i : Nat} {p : Ex × Rat} (h : m[i]? = some p) (hp : p.2 ≠ 0) : nzM (m.take (i + 1)) = nzM (m.take i) ++ [p] := by
  unfold nzM
  rw [List.take_add_one, h, List.filter_append]
  simp [hp]
theorem nz_take_false {m : PM} {i : Nat} {p : Ex × Rat} (h : m[i]? = some p) (hp : p.2 = 0) : nzM (m.take (i + 1)) = nzM (m.take i) := by
  unfold nzM
  rw [List.take_add_one, h, List.filter_append]
  simp [hp]
theorem num_zero {x : Rat} : x.num = 0 ↔ x = 0 := Rat.num_eq_zero
theorem nz_NZ (m : PM) : NZ (nzM m) := fun _ hp => of_decide_eq_true (List.mem_filter.mp hp).2
theorem nz_asc {m : PM} (h : Asc m) : Asc (nzM m) := List.Pairwise.sublist List.filter_sublist h
theorem nz_len (m : PM) : (nzM m).length ≤ m.length := List.length_filter_le _ _
end AL
namespace AL
open PySem PySem.Spec PyProof.Rows L2
theorem EntAt.tups {H H' : Hp} {b : Addr} {e : Ex × Rat} (h : EntAt H b e) (s : ∀ c ys, H c = some (.tup ys) → H' c = some (.tup ys)) : EntAt H' b e := let ⟨k, r, h1, h2, h3⟩ := h; ⟨k, r, s _ _ h1, s _ _ h2, s _ _ h3⟩
theorem upd_tups {H : Hp} {a : Addr} {o p : HO} (h : H a = some p) (np : ∀ ys, p ≠ .tup ys) : ∀ c ys, H c = some (.tup ys) → upd H a o c = some (.tup ys) := fun c ys z => by
  rw [upd_ne (fun w => by rw [w, h] at z; exact np ys (Option.some.inj z))]
  exact z
theorem perm_can {H : Hp} {n E D B : Nat} {m m' : PM} {ls : List (List Int × Addr)} (pm : m'.Perm m) (h : Paired (DRow H) ls m') (o : ls.Pairwise fun e f => TS.code 128 e.1 ≤ TS.code 128 f.1) (nd : (m.map (·.1)).Nodup) (b : PB n E D B m) (hE : E ≤ 80) :
    Can n E D B (nzM m') ∧ Eqp (nzM m') m ∧ (nzM m').length ≤ m.length := by
  have nd' : (m'.map (·.1)).Nodup := (List.Perm.nodup_iff (pm.map _)).mpr nd
  have b' : PB n E D B m' := b.sub fun p hp => pm.mem_iff.mp hp
  exact ⟨⟨nz_asc (asc_of h o nd' b' hE), nz_NZ _, b'.nz⟩, (nz_eqp m').trans fun φ => lin_perm φ pm, by rw [← pm.length_eq]; exact nz_len m'⟩
end AL
set_option Elab.async false
set_option maxRecDepth 100000
set_option maxHeartbeats 4000000
/-! try with several named clauses: the wish is asked where all names have their slots. -/
namespace AL
open PySem PySem.Spec PyProof.Rows L2
section
variable {X : Cx} {body : List Stmt} {h0 : ExceptHandler} {hd : List ExceptHandler} {l : List Cl} {pos : Pos} {tb : WX → TS} {W0 : WX}
theorem ps_tryL (stk : X.stack = X.env :: X.outer) (frm : X.env.frame = some X.env.locals) (nd : X.N.Nodup) (tk : Takes X W0)
    (inner : ∀ (W : WX) (pn : List (Addr × Obj)) (xe : Value → Shared → Prop), Takes (X.tr pn xe) W → PassesOwn (model X.prog X.w) X.A X.env xe → PSs (X.tr pn xe) body (tb W)) (cls : Named X (h0 :: hd) l) :
    PS X (.Try body (h0 :: hd) [] [] pos) (fun D σ H => tb (fun cls d σ H => σ.length = X.N.length → wNamed X.K W0 D l cls d σ H) D σ H) := by
  constructor
  intro pins s σ H D I h
  have frames : X.A.frames = some (X.env :: X.outer) := by rw [I.ok.frames, stk]
  let back : Value → Shared → Prop := fun e t1 => wpAny (model X.prog X.w) X.A (noteFrame e X.env) (fun _ t2 => wpAny (model X.prog X.w) X.A (setFlight e none) (fun _ t3 => wpAny (model X.prog X.w) X.A (handleBy e X.env (h0 :: hd)) (SP X pins D) X.xe t3) X.xe t2) X.xe t1
  have caught : ∀ u t, XE (X.tr (X.pn ++ pins) back) (fun cls d σ H => σ.length = X.N.length → wNamed X.K W0 D l cls d σ H) u t → back u t := by
    rintro u t ⟨a, B, t0, pins0, σ1, H1, ec, ed, rfl, J0, ground, up, sky, fresh, oss, bare, wish⟩
    have J : Inv X pins σ1 H1 t0 := J0.ofTry I.ok
    have sky1 : Sky B (X.env :: X.outer) a (Zc ec ed) X.env.locals t.heap := by rw [← stk]; exact sky
    show wpAny (model X.prog X.w) X.A (noteFrame (.ref a) X.env) _ _ _
    refine Sky.land Zc.steady frames frm sky1 fun g3 fl3 up3 => ?_
    have J3 : Inv X pins σ1 H1 { t with heap := g3 } := J.landed ground fl3.1 (up.trans up3) oss bare
    obtain ⟨o3, v3, at3, z3, dat3⟩ := fl3.there
    have apart : a ∉ frs (X.env :: X.outer) := fun m => by
      obtain ⟨_, o', e', no⟩ := fl3.2.2.1.mem m
      rw [at3] at e'
      cases e'
      exact no _ dat3
    have notL : a ≠ X.env.locals := fun z => apart (List.mem_filterMap.mpr ⟨X.env, List.mem_cons_self, by rw [frm, z]⟩)
    have notF : a ∉ X.fs := fun m => by
      obtain ⟨en, hen, q⟩ := List.mem_filterMap.mp m
      exact apart (List.mem_filterMap.mpr ⟨en, List.mem_cons_of_mem _ hen, q⟩)
    have S3 := J3.suite at3 dat3 fresh notL notF
    suffices all : ∀ {hd' : List ExceptHandler} {l' : List Cl}, Named X hd' l' → wNamed X.K W0 D l' ec ed σ1 H1 → wpAny (model X.prog X.w) X.A (handleBy (.ref a) X.env hd') (SP X pins D) X.xe { t with heap := g3 } from all cls (wish J.len)
    intro hd' l' nm
    induction nm with
    | nil =>
      intro w0
      refine wpAny_handleBy_nil ?_
      obtain ⟨_, _, _, oe, fv, T, oT, ts', he, hz, hdt, h1, _⟩ := id fl3
      unfold PySem.passOn
      refine wpAny_bind (wpAny_field he hdt h1 ?_)
      have notNone : ¬ ((Value.ref T == Value.none) = true) := by simp
      rw [if_neg notNone]
      have fly : wpAny (model X.prog X.w) X.A (setFlight (.ref a) X.env.frame) (fun _ t4 => wpAny (model X.prog X.w) X.A (throw (.ref a) : Sem Flow) (SP X pins D) X.xe t4) X.xe { t with heap := g3 } := by
        rw [frm]
        exact HandSPX.setFlight_upZ fl3 fun g4 held up4 => wpAny_throw (tk _ _ ⟨a, B, t0, pins, σ1, H1, ec, ed, rfl, J, ground, (up.trans up3).trans up4, .inr (.inr (by rw [stk]; exact held)), fresh, oss, bare, w0⟩)
      first
        | exact wpAny_bind (wpAny_pure (wpAny_bind fly))
        | exact wpAny_bind fly
    | @cons x n c i ts b0 rest q1 q2 hd2 l2 cl sl lo su r ih =>
      rintro ⟨b, isb, yes, no⟩
      refine wpAny_handleBy_cons (codeAny_handlers_test ?_) (by intro q; cases q)
      have LT : PySem.W.Looks (model X.prog X.w) g3 (typeOf (.ref a)) ec := fun A' Q' E' s' k' q' => wpAny_typeOf_ref (k' _ _ at3) (by rw [z3.1]; exact q')
      have LM := PySem.W.exm_one (M := model X.prog X.w) (J3.kIn) LT isb
      have asks : ∀ {Q' : Value → Shared → Prop} {E' : Value → Shared → Prop}, Q' c { t with heap := g3 } → wpAny (model X.prog X.w) (X.A.mark (some (.ref a))) (eval (.Name x q1) X.env) Q' E' { t with heap := g3 } := by
        intro Q' E' q'
        obtain ⟨gl, nodb, known⟩ := cl
        rcases known with hm | ⟨hm, hv, hnn⟩
        · exact ld_glob (X := X.suite a ((a, o3) :: (X.pn ++ pins))) S3 gl hm q' nodb
        · exact ld_blt (X := X.suite a ((a, o3) :: (X.pn ++ pins))) S3 gl hm hv q' hnn nodb
      refine asks (LM.here ?_)
      cases b with
      | false =>
        show wpAny _ X.A (handleBy (.ref a) X.env hd2) _ _ _
        exact ih (no rfl)
      | true =>
        refine codeAny_handlers_suite_as (HandSPX.lands_againZ fl3 fun g4 fl4 up4 => ?_)
        have J4 : Inv X pins σ1 H1 { t with heap := g4 } := J.landed ground fl4.1 ((up.trans up3).trans up4) oss bare
        obtain ⟨o4, v4, at4, z4, dat4⟩ := fl4.there
        have S4 := J4.suite at4 dat4 fresh notL notF
        refine store_ok (X := X.suite a ((a, o4) :: (X.pn ++ pins))) (v := .ref a) S4 nd sl (.inl lo) rfl (fun t5 S5 => ?_) (.inr lo)
        refine wpAny_mono ((su a o4 ec ed (X.pn ++ pins) z4 ⟨_, dat4⟩).run [] t5 _ H1 _ S5 (yes rfl a fresh)) (fun fl6 t6 sp6 => ?_) (fun _ _ z => False.elim z)
        have over : ∀ {σ6 : L2.St} {H6 : Hp} {Q6 : Shared → Prop}, Inv (X.suite a ((a, o4) :: (X.pn ++ pins))) [] σ6 H6 t6 → (∀ t7, Inv X pins (σ6.set i none) H6 t7 → Q6 t7) →
            wpAny (model X.prog X.w) X.A (do bindName X.env n .none; unbindBehindTheSuite X.env n q2) (fun _ t7 => Q6 t7) X.xe t6 := fun S6 q6 => gone_ok (S6.unsuite I.ok) nd sl lo q6
        cases fl6 with
        | next => obtain ⟨σ6, H6, S6, q6⟩ := sp6; exact over S6 fun t7 J7 => ⟨_, _, J7, q6⟩
        | brk => obtain ⟨σ6, H6, S6, q6⟩ := sp6; exact over S6 fun t7 J7 => ⟨_, _, J7, q6⟩
        | cont => obtain ⟨σ6, H6, S6, q6⟩ := sp6; exact over S6 fun t7 J7 => ⟨_, _, J7, q6⟩
        | ret u => obtain ⟨v6, σ6, H6, S6, r6, q6⟩ := sp6; exact over S6 fun t7 J7 => ⟨_, _, _, J7, r6, q6⟩
  refine wpAny_Try_except (wpAny_mono ((inner (fun cls d σ H => σ.length = X.N.length → wNamed X.K W0 D l cls d σ H) (X.pn ++ pins) back caught PassesOwn.looking).run [] s σ H D (I.toTry _) h) (fun fl t sp => ?_) (fun _ _ z => z))
  cases fl with
  | next => obtain ⟨σ', H', J', q⟩ := sp; exact wpAny_execs_nil ⟨σ', H', J'.ofTry I.ok, q⟩
  | brk => obtain ⟨σ', H', J', q⟩ := sp; exact ⟨σ', H', J'.ofTry I.ok, q⟩
  | cont => obtain ⟨σ', H', J', q⟩ := sp; exact ⟨σ', H', J'.ofTry I.ok, q⟩
  | ret u => obtain ⟨v, σ', H', J', r, q⟩ := sp; exact ⟨v, σ', H', J'.ofTry I.ok, r, q⟩
end
end AL
set_option Elab.async false
set_option maxRecDepth 100000
set_option exponentiation.threshold 70000
set_option maxHeartbeats 1000000
namespace AL
open PySem PySem.Spec PyProof.Rows L2 RZ
section
variable {P : Program} {w : World} {K : PySem.W.Frag} {mg : Str → Option Value} {base : Heap}
abbrev si_BadNumber : Stmt := inClass (top 4) 0
theorem sci_BadNumber : FnScope ["self", "what", "number"] ["self", "what", "number"] (defScope si_BadNumber) := ⟨rfl, rfl, rfl, by decide +kernel, rfl, by decide +kernel, by decide +kernel⟩
theorem oki_BadNumber {C fI : Addr} {fd : FuncData} (T : ErrT K mg "BadNumber" C ["what", "number"]) (I : IniT K "BadNumber.__init__" si_BadNumber ["self", "what", "number"] C fI fd) : FnOk P w K mg base CX0 1 fI fd ["self", "what", "number"] (spIni C ["what", "number"]) := by
  refine I.F.ok sci_BadNumber (fun vs H Q E h => ?_) (fun cdv A outer s H vs Q E hr h => ?_)
  · obtain ⟨a, ys, rfl, hl, _⟩ := h; exact congrArg Nat.succ hl
  · obtain ⟨a, ys, rfl, hl, ha, q⟩ := h
    match ys, hl with
    | [y1, y2], _ =>
    refine ⟨_, (pss_cons (ps_ost (pv 0) (pv 1)) (pss_one (ps_ost (pv 0) (pv 2)))), ?_⟩
    refine ⟨_, rfl, _, rfl, a, C, rfl, T.oex, T.no _ (by simp), .inl ⟨ha, fun dx hd hne => ?_⟩⟩
    have e0 : upd (upd H dx (exd dx [("what", y1)])) a (exo a C (some dx)) a = some (exo a C (some dx)) := upd_same
    have d0 : upd (upd H dx (exd dx [("what", y1)])) a (exo a C (some dx)) dx = some (exd dx [("what", y1)]) := Eq.trans (upd_ne hne) upd_same
    refine ⟨_, rfl, _, rfl, a, C, rfl, T.oex, T.no _ (by simp), .inr ⟨dx, _, e0, d0, (by show 1 ≤ 900; decide), ?_⟩⟩
    exact q dx _ hd hne (Eq.trans (upd_ne hne.symm) e0) upd_same fun b h1 h2 => Eq.trans (upd_ne h2) (Eq.trans (upd_ne h1) (upd_ne h2))
abbrev si_ByZero : Stmt := inClass (top 6) 0
theorem sci_ByZero : FnScope ["self", "place"] ["self", "place"] (defScope si_ByZero) := ⟨rfl, rfl, rfl, by decide +kernel, rfl, by decide +kernel, by decide +kernel⟩
theorem oki_ByZero {C fI : Addr} {fd : FuncData} (T : ErrT K mg "ByZero" C ["place"]) (I : IniT K "ByZero.__init__" si_ByZero ["self", "place"] C fI fd) : FnOk P w K mg base CX0 1 fI fd ["self", "place"] (spIni C ["place"]) := by
  refine I.F.ok sci_ByZero (fun vs H Q E h => ?_) (fun cdv A outer s H vs Q E hr h => ?_)
  · obtain ⟨a, ys, rfl, hl, _⟩ := h; exact congrArg Nat.succ hl
  · obtain ⟨a, ys, rfl, hl, ha, q⟩ := h
    match ys, hl with
    | [y1], _ =>
    refine ⟨_, (pss_one (ps_ost (pv 0) (pv 1))), ?_⟩
    refine ⟨_, rfl, _, rfl, a, C, rfl, T.oex, T.no _ (List.mem_singleton.mpr rfl), .inl ⟨ha, fun dx hd hne => ?_⟩⟩
    exact q dx _ hd hne upd_same (Eq.trans (upd_ne hne) upd_same) fun b h1 h2 => Eq.trans (upd_ne h1) (upd_ne h2)

structure MetA (K : PySem.W.Frag) (x qual : Str) (st : Stmt) (ps : List Str) (C f : Addr) (fd : FuncData) : Prop where
  F : Fun K x qual st f fd
  b : Binds K fd ps []
  M : Meth K C x f
structure IniA (K : PySem.W.Frag) (x qual : Str) (st : Stmt) (ps : List Str) (C f : Addr) (fd : FuncData) : Prop where
  F : Fun K x qual st f fd
  b : Binds K fd ps []
  M : Mk K C f
/-- what the top writes of the class, and of math -/
structure ErP (K : PySem.W.Frag) (mg : Str → Option Value) (CP CQ BZ BN BM UL fZ fN : Addr) (fdZ fdN : FuncData) : Prop where
  gcd : mg "gcd" = some (.builtin "math.gcd")
  lcm : mg "lcm" = some (.builtin "math.lcm")
  cl : Cls K CP
  nS : NoAttr K CP "size"
  nT : NoAttr K CP "terms"
  mP : mg "Poly" = some (.ref CP)
  sf : PySem.W.selfFirst K CP = true
  c1 : PySem.W.findIn K (.ref CP) "__class__" = some (some (.builtin "object.__class__"))
  c2 : PySem.W.specialIn K (.builtin "object.__class__") "__get__" = some (some (.builtin "getset_descriptor.__get__"))
  c3 : PySem.W.takesIn K (.builtin "object.__class__") = some true
  c4 : PySem.W.mroIn K CP (.type "object") = some true
  k1 : PySem.W.kitOne K (.ref CP) (.ref CP) = some true
  eN : ErrT K mg "BadNumber" BN ["what", "number"]
  eM : ErrT K mg "BadMatrix" BM ["what"]
  xZN : PySem.W.exmOne K (.ref BZ) (.ref BN) = some false
  xZM : PySem.W.exmOne K (.ref BZ) (.ref BM) = some false
  xZZ : PySem.W.exmOne K (.ref BZ) (.ref BZ) = some true
  eZ : ErrT K mg "ByZero" BZ ["place"]
  iZ : IniT K "ByZero.__init__" si_ByZero ["self", "place"] BZ fZ fdZ
  clQ : Cls K CQ
  qS : NoAttr K CQ "size"
  qT : NoAttr K CQ "top"
  qB : NoAttr K CQ "bottom"
  mQ : mg "Quotient" = some (.ref CQ)
  sfQ : PySem.W.selfFirst K CQ = true
  d1 : PySem.W.findIn K (.ref CQ) "__class__" = some (some (.builtin "object.__class__"))
  d4 : PySem.W.mroIn K CQ (.type "object") = some true
  kQ : PySem.W.kitOne K (.ref CQ) (.ref CQ) = some true
  kPQ : PySem.W.kitOne K (.ref CP) (.ref CQ) = some false
  kNQ : PySem.W.kitOne K (.type "NoneType") (.ref CQ) = some false
  nf : PySem.W.notFirst K CP (.ref CP) = true
  nQ : PySem.W.notFirst K CQ (.ref CQ) = true
  nQP : PySem.W.notFirst K CQ (.ref CP) = true
  nQN : PySem.W.notFirst K CQ (.type "NoneType") = true
  neQ : PySem.W.findIn K (.ref CQ) "__ne__" = some (some (.builtin "object.__ne__"))
  xNN : PySem.W.exmOne K (.ref BN) (.ref BN) = some true
  iN : IniT K "BadNumber.__init__" si_BadNumber ["self", "what", "number"] BN fN fdN

abbrev stis_whole : Stmt := top 8
theorem scis_whole : FnScope ["value"] ["value"] (defScope stis_whole) := ⟨rfl, rfl, rfl, by decide +kernel, rfl, by decide +kernel, by decide +kernel⟩
theorem okis_whole (B : Blt mg) {CPoly CQuotient BZ BN BM UL fZ fN : Addr} {fdZ fdN : FuncData} (Es : ErP K mg CPoly CQuotient BZ BN BM UL fZ fN fdZ fdN) {fis_whole : Addr} {fdis_whole : FuncData} (Dis_whole : DefAt K mg "is_whole" stis_whole ["value"] fis_whole fdis_whole) : FnOk P w K mg base CX0 1 fis_whole fdis_whole ["value"] (spWholeV K) := by
  refine Dis_whole.F.ok scis_whole (fun vs H Q E h => ?_) (fun cdv A outer s H vs Q E hr h => ?_)
  · obtain ⟨x, u, b, c, rfl, _⟩ := h; rfl
  · have hu := hu_of hr
    refine ⟨_, (pss_one (ps_ret (pe_and (pe_callB call_isi (by rfl) B.isinstance_ (by decide +kernel) (pa_cons (pv 0) (pa_cons (pe_bltn (v := .ty "int") (by rfl) B.int_ PyProof.Rows.Boot.«int» rfl) pa_nil))) (pe_one (pe_not (pe_callB call_isi (by rfl) B.isinstance_ (by decide +kernel) (pa_cons (pv 0) (pa_cons (pe_bltn (v := .ty "bool") (by rfl) B.bool_ PyProof.Rows.Boot.«bool» rfl) pa_nil)))))))), ?_⟩
    obtain ⟨x, u, b, c, rfl, tx, kb, kc, q⟩ := h
    refine ⟨_, rfl, _, _, _, _, _, rfl, ClsV.ty _, tx, kb, b, rfl, ?_⟩
    cases b with
    | false => exact iteF q
    | true => 
      refine iteT ?_
      refine ⟨_, rfl, _, _, _, _, _, rfl, ClsV.ty _, tx, kc, _, rfl, ?_⟩
      exact q
abbrev stare_integers : Stmt := top 10
theorem scare_integers : FnScope ["items", "item"] ["items"] (defScope stare_integers) := ⟨rfl, rfl, rfl, by decide +kernel, rfl, by decide +kernel, by decide +kernel⟩
theorem okare_integers (B : Blt mg) {CPoly CQuotient BZ BN BM UL fZ fN : Addr} {fdZ fdN : FuncData} (Es : ErP K mg CPoly CQuotient BZ BN BM UL fZ fN fdZ fdN) {fis_whole : Addr} {fdis_whole : FuncData} (Dis_whole : DefAt K mg "is_whole" stis_whole ["value"] fis_whole fdis_whole) {fare_integers : Addr} {fdare_integers : FuncData} (Dare_integers : DefAt K mg "are_integers" stare_integers ["items"] fare_integers fdare_integers) : FnOk P w K mg base CX0 2 fare_integers fdare_integers ["items"] (spAreG K) := by
  have OKis_whole : FnOk P w K mg base CX0 1 fis_whole fdis_whole ["value"] (spWholeV K) := okis_whole B Es Dis_whole
  refine Dare_integers.F.ok scare_integers (fun vs H Q E h => ?_) (fun cdv A outer s H vs Q E hr h => ?_)
  · obtain ⟨t, xs, f, rfl, _⟩ := h; rfl
  · have hu := hu_of hr
    refine ⟨_, (pss_one (ps_ret (pe_callB (cr_all rfl) (by rfl) B.all_ (by decide +kernel) (pa_cons (pe_lc (own := [("item", 1)]) (g := gName 1) (tt := tYes) rfl scare_integers.nd (pi_tup (pv 0)) (blkOk_by (own := [("item", 1)]) (N := ["items", "item"]) (sc := defScope stare_integers) (by decide +kernel)) (fun _ _ _ _ _ => pg_name (i := 1) scare_integers.nd rfl (Or.inl rfl)) (fun _ _ _ _ _ => pts_nil) (fun _ _ _ _ _ => (pe_call OKis_whole (hr.mono (by decide)) rfl Dis_whole.m Dis_whole.F.kp Dis_whole.b .nil pass0 (pa_cons (pv 1) pa_nil)))) pa_nil)))), ?_⟩
    obtain ⟨t, xs, f, rfl, ht, hl, hf, q⟩ := h
    refine ⟨_, rfl, t, rfl, ⟨xs, SqT.of ht⟩, fun D hD => ?_⟩
    have fr : ∀ {H' : Hp}, Same H H' → H' t = some (.tup xs) := fun s => s _ _ ht
    refine lc_tup (K := K) (a := t) (xs := xs) (fun i H' => Same H H' ∧ H' D = some (.lst (((xs.take i).map f).map V.bl))) ⟨AL.Same.new hD, upd_same⟩ (fun i H' _ hh => SqT.of (fr hh.1)) ?_ ?_
    · rintro i x H' hx ⟨s, hd⟩
      obtain ⟨u, b, c, tx, kb, kc, hw⟩ := hf H' s x (List.mem_of_getElem? hx)
      refine ⟨rfl, ?_⟩
      have hi : i < xs.length := (List.getElem?_eq_some_iff.mp hx).1
      refine ⟨_, rfl, x, u, b, c, rfl, tx, kb, kc, _, hd, ?_, AL.Same.updn s hD, ?_⟩
      · rw [List.length_map, List.length_map, List.length_take]
        exact Nat.lt_of_le_of_lt (by omega : _ ≤ 100) (by decide)
      · rw [upd_same, List.take_add_one, hx, hw]
        simp
    · rintro H' ⟨s, hd⟩
      refine ⟨D, xs.map f, rfl, SqL.of (by rw [hd, List.take_length]), ?_⟩
      have := q H' s
      rw [List.all_map]
      exact this
abbrev stis_ratio : Stmt := top 12
theorem scis_ratio : FnScope ["value"] ["value"] (defScope stis_ratio) := ⟨rfl, rfl, rfl, by decide +kernel, rfl, by decide +kernel, by decide +kernel⟩
theorem okis_ratio (B : Blt mg) {CPoly CQuotient BZ BN BM UL fZ fN : Addr} {fdZ fdN : FuncData} (Es : ErP K mg CPoly CQuotient BZ BN BM UL fZ fN fdZ fdN) {fis_whole : Addr} {fdis_whole : FuncData} (Dis_whole : DefAt K mg "is_whole" stis_whole ["value"] fis_whole fdis_whole) {fare_integers : Addr} {fdare_integers : FuncData} (Dare_integers : DefAt K mg "are_integers" stare_integers ["items"] fare_integers fdare_integers) {fis_ratio : Addr} {fdis_ratio : FuncData} (Dis_ratio : DefAt K mg "is_ratio" stis_ratio ["value"] fis_ratio fdis_ratio) : FnOk P w K mg base CX0 3 fis_ratio fdis_ratio ["value"] (spIsRatV K) := by
  have OKare_integers : FnOk P w K mg base CX0 2 fare_integers fdare_integers ["items"] (spAreG K) := okare_integers B Es Dis_whole Dare_integers
  have OKis_whole : FnOk P w K mg base CX0 1 fis_whole fdis_whole ["value"] (spWholeV K) := okis_whole B Es Dis_whole
  refine Dis_ratio.F.ok scis_ratio (fun vs H Q E h => ?_) (fun cdv A outer s H vs Q E hr h => ?_)
  · obtain ⟨x, r, rfl, _⟩ := h; rfl
  · have hu := hu_of hr
    refine ⟨_, (pss_cons (ps_if (pt_val (pe_callB call_isi (by rfl) B.isinstance_ (by decide +kernel) (pa_cons (pv 0) (pa_cons (pe_bltn (v := .ty "tuple") (by rfl) B.tuple_ PyProof.Rows.Boot.«tuple» rfl) pa_nil)))) (pss_one (ps_ret (pe_and (pe_cmpR op_eq (pe_callB call_len_seq (by rfl) B.len_ (by decide +kernel) (pa_cons (pv 0) pa_nil)) pe_int (nomark _)) (pe_and (pe_call OKare_integers (hr.mono (by decide)) rfl Dare_integers.m Dare_integers.F.kp Dare_integers.b .nil pass0 (pa_cons (pv 0) pa_nil)) (pe_one (pe_cmpR op_gt (pe_ix ix_tup (pv 0) pe_int (fun _ _ => rfl)) pe_int (nomark _))))))) pss_nil)
    (pss_one (ps_ret (pe_call OKis_whole (hr.mono (by decide)) rfl Dis_whole.m Dis_whole.F.kp Dis_whole.b .nil pass0 (pa_cons (pv 0) pa_nil))))), ?_⟩
    obtain ⟨x, r, rfl, hr, q⟩ := h
    have tupT : ∀ {t : Addr} {xs : List V}, H t = some (.tup xs) → TyX K H (.ref t) (.type "tuple") := fun h => TyX.base (.tup h)
    cases hr with
    | int i =>
      refine ⟨_, rfl, _, _, _, _, _, rfl, ClsV.ty _, TyX.base (.int i), rfl, false, rfl, ?_⟩
      refine iteF ?_
      exact ⟨_, rfl, _, _, _, _, rfl, TyX.base (.int i), rfl, rfl, q H (Same.refl _)⟩
    | other h ht hb hc no =>
      refine ⟨_, rfl, _, _, _, _, _, rfl, ClsV.ty _, h, ht, false, rfl, ?_⟩
      refine iteF ?_
      refine ⟨_, rfl, _, _, _, _, rfl, h, hb, hc, ?_⟩
      rw [no]; exact q H (Same.refl _)
    | @pair t p r h h0 =>
      refine ⟨_, rfl, _, _, _, _, _, rfl, ClsV.ty _, tupT h, rfl, true, rfl, ?_⟩
      refine iteT ?_
      refine ⟨_, rfl, t, _, rfl, .inr (SqT.of h), rfl, true, rfl, ?_⟩
      refine iteT ?_
      refine ⟨_, rfl, t, _, fun _ => true, rfl, h, (by show 2 ≤ 100; decide), (flat_all fun x hx => ?_), fun H1 s1 => ⟨true, rfl, ?_⟩⟩
      · simp only [List.mem_cons, List.not_mem_nil, or_false] at hx
        rcases hx with rfl | rfl <;> rfl
      refine iteT ?_
      refine ⟨_, rfl, t, _, _, _, rfl, rfl, SqT.of (s1 _ _ h), rfl, _, _, rfl, rfl, ?_⟩
      have := q H1 s1
      show Q (V.bl (decide ((0 : Int) < (r : Int)))) H1
      rw [decide_eq_true (by omega)]
      exact this
    | @long t xs h hl =>
      refine ⟨_, rfl, _, _, _, _, _, rfl, ClsV.ty _, tupT h, rfl, true, rfl, ?_⟩
      refine iteT ?_
      refine ⟨_, rfl, t, _, rfl, .inr (SqT.of h), rfl, _, rfl, ?_⟩
      rw [decide_eq_false (fun z => hl (by injection z with z; omega))]
      refine iteF ?_
      exact q H (Same.refl _)
    | @item t x y b c h hx hy no =>
      refine ⟨_, rfl, _, _, _, _, _, rfl, ClsV.ty _, tupT h, rfl, true, rfl, ?_⟩
      refine iteT ?_
      refine ⟨_, rfl, t, _, rfl, .inr (SqT.of h), rfl, true, rfl, ?_⟩
      refine iteT ?_
      refine ⟨_, rfl, t, _, fun x => (flatW x).getD false, rfl, h, (by show 2 ≤ 100; decide), (flat_all fun x hx => ?_), fun H1 s1 => ⟨false, ?_, ?_⟩⟩
      · simp only [List.mem_cons, List.not_mem_nil, or_false] at hx
        rcases hx with rfl | rfl
        · simp [hx]
        · simp [hy]
      · have : ([x, y] : List V).all (fun x => (flatW x).getD false) = false := by
          simp only [List.all_cons, List.all_nil, hx, hy, Option.getD_some, Bool.and_true]
          exact no
        rw [this]
      · exact iteF (q H1 s1)
    | @sign t p r h h0 =>
      refine ⟨_, rfl, _, _, _, _, _, rfl, ClsV.ty _, tupT h, rfl, true, rfl, ?_⟩
      refine iteT ?_
      refine ⟨_, rfl, t, _, rfl, .inr (SqT.of h), rfl, true, rfl, ?_⟩
      refine iteT ?_
      refine ⟨_, rfl, t, _, fun _ => true, rfl, h, (by show 2 ≤ 100; decide), (flat_all fun x hx => ?_), fun H1 s1 => ⟨true, rfl, ?_⟩⟩
      · simp only [List.mem_cons, List.not_mem_nil, or_false] at hx
        rcases hx with rfl | rfl <;> rfl
      refine iteT ?_
      refine ⟨_, rfl, t, _, _, _, rfl, rfl, SqT.of (s1 _ _ h), rfl, _, _, rfl, rfl, ?_⟩
      have := q H1 s1
      show Q (V.bl (decide ((0 : Int) < r))) H1
      rw [decide_eq_false (by omega)]
      exact this
abbrev stlowest : Stmt := top 13
theorem sclowest : FnScope ["top", "bottom", "shared"] ["top", "bottom"] (defScope stlowest) := ⟨rfl, rfl, rfl, by decide +kernel, rfl, by decide +kernel, by decide +kernel⟩
theorem oklowest (B : Blt mg) {CPoly CQuotient BZ BN BM UL fZ fN : Addr} {fdZ fdN : FuncData} (Es : ErP K mg CPoly CQuotient BZ BN BM UL fZ fN fdZ fdN) {flowest : Addr} {fdlowest : FuncData} (Dlowest : DefAt K mg "lowest" stlowest ["top", "bottom"] flowest fdlowest) : FnOk P w K mg base CX0 1 flowest fdlowest ["top", "bottom"] spLowG := by
  refine Dlowest.F.ok sclowest (fun vs H Q E h => ?_) (fun cdv A outer s H vs Q E hr h => ?_)
  · obtain ⟨a, b, rfl, _⟩ := h; rfl
  · have hu := hu_of hr
    refine ⟨_, (pss_cons (ps_set (i := 2) sclowest.nd rfl (Or.inl rfl) (pe_callBfun cr_gcd (by rfl) Es.gcd (pa_cons (pv 0) (pa_cons (pv 1) pa_nil))))
    (pss_cons (ps_if (pt_cmpR op_lt (pv 1) pe_int (nomark _)) (pss_one (ps_set (i := 2) sclowest.nd rfl (Or.inl rfl) (pe_un un_neg (pv 2)))) pss_nil)
    (pss_one (ps_ret (pe_tup (pa_cons (pe_op op_fdivC (pv 0) (pv 2)) (pa_cons (pe_op op_fdivC (pv 1) (pv 2)) pa_nil))))))), ?_⟩
    obtain ⟨a, b, rfl, hlo, h0, q⟩ := h
    refine ⟨_, rfl, _, rfl, a, b, rfl, ?_⟩
    have hg : Nat.gcd a.natAbs b.natAbs ≠ 0 := fun z => h0 (Int.natAbs_eq_zero.mp (Nat.eq_zero_of_gcd_eq_zero_right z))
    have d1 : ∀ s : Int, s.natAbs = Nat.gcd a.natAbs b.natAbs → CDivC a s ∧ CDivC b s := fun s hs => by
      refine ⟨⟨fun z => hg (by rw [← hs, z]; rfl), ?_⟩, ⟨fun z => hg (by rw [← hs, z]; rfl), ?_⟩⟩
      · exact hlo.elim (fun z => .inl z.1) (fun z => .inr (by rw [hs]; exact z))
      · exact hlo.elim (fun z => .inl z.2) (fun z => .inr (by rw [hs]; exact z))
    refine ⟨_, rfl, _, _, rfl, rfl, _, rfl, ?_⟩
    refine ite2 (fun hneg => ?_) (fun hneg => ?_)
    · have hneg' := of_decide_eq_true hneg
      obtain ⟨c1, c2⟩ := d1 (-((Nat.gcd a.natAbs b.natAbs : Nat) : Int)) (by rw [Int.natAbs_neg, Int.natAbs_natCast])
      refine ⟨_, rfl, _, rfl, _, rfl, _, rfl, _, _, rfl, rfl, c1, _, rfl, _, rfl, _, _, rfl, rfl, c2, (by show 2 ≤ sizeLine; decide), fun t ht => ?_⟩
      have z := q t ht
      unfold lowI shr at z
      rw [if_pos hneg'] at z
      exact z
    · have hneg' : ¬ b < 0 := fun z => hneg (decide_eq_true z)
      obtain ⟨c1, c2⟩ := d1 ((Nat.gcd a.natAbs b.natAbs : Nat) : Int) (Int.natAbs_natCast _)
      refine ⟨_, rfl, _, rfl, _, _, rfl, rfl, c1, _, rfl, _, rfl, _, _, rfl, rfl, c2, (by show 2 ≤ sizeLine; decide), fun t ht => ?_⟩
      have z := q t ht
      unfold lowI shr at z
      rw [if_neg hneg'] at z
      exact z
abbrev stas_ratio : Stmt := top 14
theorem scas_ratio : FnScope ["value"] ["value"] (defScope stas_ratio) := ⟨rfl, rfl, rfl, by decide +kernel, rfl, by decide +kernel, by decide +kernel⟩
theorem okas_ratio (B : Blt mg) {CPoly CQuotient BZ BN BM UL fZ fN : Addr} {fdZ fdN : FuncData} (Es : ErP K mg CPoly CQuotient BZ BN BM UL fZ fN fdZ fdN) {flowest : Addr} {fdlowest : FuncData} (Dlowest : DefAt K mg "lowest" stlowest ["top", "bottom"] flowest fdlowest) {fas_ratio : Addr} {fdas_ratio : FuncData} (Das_ratio : DefAt K mg "as_ratio" stas_ratio ["value"] fas_ratio fdas_ratio) : FnOk P w K mg base CX0 2 fas_ratio fdas_ratio ["value"] (spAsG K) := by
  have OKlowest : FnOk P w K mg base CX0 1 flowest fdlowest ["top", "bottom"] spLowG := oklowest B Es Dlowest
  refine Das_ratio.F.ok scas_ratio (fun vs H Q E h => ?_) (fun cdv A outer s H vs Q E hr h => ?_)
  · obtain ⟨x, p, r, rfl, _⟩ := h; rfl
  · have hu := hu_of hr
    refine ⟨_, (pss_cons (ps_if (pt_val (pe_callB call_isi (by rfl) B.isinstance_ (by decide +kernel) (pa_cons (pv 0) (pa_cons (pe_bltn (v := .ty "tuple") (by rfl) B.tuple_ PyProof.Rows.Boot.«tuple» rfl) pa_nil)))) (pss_one (ps_ret (pe_call OKlowest (hr.mono (by decide)) rfl Dlowest.m Dlowest.F.kp Dlowest.b .nil pass0 (pa_cons (pe_ix ix_tup (pv 0) pe_int (fun _ _ => rfl)) (pa_cons (pe_ix ix_tup (pv 0) pe_int (fun _ _ => rfl)) pa_nil))))) pss_nil)
    (pss_one (ps_ret (pe_tup (pa_cons (pv 0) (pa_cons pe_int pa_nil)))))), ?_⟩
    obtain ⟨x, p, r, rfl, hr, hm, q⟩ := h
    cases hr with
    | int i =>
      refine ⟨_, rfl, _, _, _, _, _, rfl, ClsV.ty _, TyX.base (.int p), rfl, false, rfl, ?_⟩
      refine iteF ?_
      refine ⟨_, rfl, (by show 2 ≤ sizeLine; decide), fun t ht => ?_⟩
      have := q t ht
      rw [nrm_one] at this
      exact this
    | @pair t p r h h0 =>
      refine ⟨_, rfl, _, _, _, _, _, rfl, ClsV.ty _, TyX.base (.tup h), rfl, true, rfl, ?_⟩
      refine iteT ?_
      have hm2 : ((r : Nat) : Int).natAbs < 2 ^ 12001 := by rw [Int.natAbs_natCast]; exact up12 (Nat.lt_of_lt_of_le hm.2.2 (Nat.pow_le_pow_right (by decide) (by decide)))
      refine ⟨_, rfl, t, _, _, _, rfl, rfl, SqT.of h, rfl, _, rfl, t, _, _, _, rfl, rfl, SqT.of h, rfl, p, (r : Int), rfl, (mid_div (up12 (Nat.lt_of_lt_of_le hm.2.1 (Nat.pow_le_pow_right (by decide) (by decide)))) hm2).1, by omega, ?_⟩
      intro t ht
      have := q t ht
      rw [lowI_pos]
      exact this
abbrev stratio_sum : Stmt := top 15
theorem scratio_sum : FnScope ["one", "other", "shared", "part", "total", "left"] ["one", "other"] (defScope stratio_sum) := ⟨rfl, rfl, rfl, by decide +kernel, rfl, by decide +kernel, by decide +kernel⟩
theorem okratio_sum (B : Blt mg) {CPoly CQuotient BZ BN BM UL fZ fN : Addr} {fdZ fdN : FuncData} (Es : ErP K mg CPoly CQuotient BZ BN BM UL fZ fN fdZ fdN) {fratio_sum : Addr} {fdratio_sum : FuncData} (Dratio_sum : DefAt K mg "ratio_sum" stratio_sum ["one", "other"] fratio_sum fdratio_sum) : FnOk P w K mg base CX0 1 fratio_sum fdratio_sum ["one", "other"] (spTwoL sumR) := by
  refine Dratio_sum.F.ok scratio_sum (fun vs H Q E h => ?_) (fun cdv A outer s H vs Q E hr h => ?_)
  · obtain ⟨s, t, a, c, b, d, rfl, _⟩ := h; rfl
  · have hu := hu_of hr
    refine ⟨_, (Evl.pss_cut (ps_if (PW.pt (pw_and (pt_cmpR op_eq (pe_ix ix_tup (pv 0) pe_int (fun _ _ => rfl)) pe_int (nomark _)) (pw_and1 (pt_cmpR op_eq (pe_ix ix_tup (pv 1) pe_int (fun _ _ => rfl)) pe_int (nomark _))))) (pss_one (ps_ret (pe_tup (pa_cons (pe_op op_add (pe_ix ix_tup (pv 0) pe_int (fun _ _ => rfl)) (pe_ix ix_tup (pv 1) pe_int (fun _ _ => rfl))) (pa_cons pe_int pa_nil))))) pss_nil)
    (pss_cons (ps_set (i := 2) scratio_sum.nd rfl (Or.inl rfl) (pe_callBfun cr_gcd (by rfl) Es.gcd (pa_cons (pe_ix ix_tup (pv 0) pe_int (fun _ _ => rfl)) (pa_cons (pe_ix ix_tup (pv 1) pe_int (fun _ _ => rfl)) pa_nil))))
    (pss_cons (ps_set (i := 3) scratio_sum.nd rfl (Or.inl rfl) (pe_op op_fdivC (pe_ix ix_tup (pv 1) pe_int (fun _ _ => rfl)) (pv 2)))
    (pss_cons (ps_set (i := 4) scratio_sum.nd rfl (Or.inl rfl) (pe_op op_add (pe_op op_mulW (pe_ix ix_tup (pv 0) pe_int (fun _ _ => rfl)) (pv 3)) (pe_op op_mulW (pe_ix ix_tup (pv 1) pe_int (fun _ _ => rfl)) (pe_op op_fdivC (pe_ix ix_tup (pv 0) pe_int (fun _ _ => rfl)) (pv 2)))))
    (pss_cons (ps_set (i := 5) scratio_sum.nd rfl (Or.inl rfl) (pe_callBfun cr_gcd (by rfl) Es.gcd (pa_cons (pv 4) (pa_cons (pv 2) pa_nil))))
    (pss_one (ps_ret (pe_tup (pa_cons (pe_op op_fdivC (pv 4) (pv 5)) (pa_cons (pe_op op_mulW (pe_op op_fdivC (pe_ix ix_tup (pv 0) pe_int (fun _ _ => rfl)) (pv 5)) (pv 3)) pa_nil)))))))))), ?_⟩
    obtain ⟨s, t, a, c, b, d, rfl, hs, ht, ⟨b0, ma, mb⟩, ⟨d0, mc, md⟩, la, lc, q⟩ := h
    have mb' : ((b : Nat) : Int).natAbs < 2 ^ 6000 := by rw [Int.natAbs_natCast]; exact mb
    have md' : ((d : Nat) : Int).natAbs < 2 ^ 6000 := by rw [Int.natAbs_natCast]; exact md
    have hs' := SqT.of (K := K) hs
    have ht' := SqT.of (K := K) ht
    have big : ∀ {x : Nat}, x < 2 ^ 12001 → x < 2 ^ 13500 := fun h => Nat.lt_of_lt_of_le h (Nat.pow_le_pow_right (by decide) (by decide))
    have m12 : ∀ {x : Nat}, x < 2 ^ 6000 → x < 2 ^ 12001 := fun h => Nat.lt_of_lt_of_le h (Nat.pow_le_pow_right (by decide) (by decide))
    
    refine ⟨fun σ' H' => H' = H ∧ σ' = [some (.ref s), some (.ref t), none, none, none, none], ?_, ?_⟩
    · refine ⟨_, rfl, s, _, _, _, rfl, rfl, hs', rfl, rfl, _, rfl, ?_⟩
      refine ite2 (fun h1 => ?_) (fun h1 => ?_)
      · have hb1 : b = 1 := vi_eq (j := 1) h1
        refine ⟨_, rfl, t, _, _, _, rfl, rfl, ht', rfl, rfl, _, rfl, ?_⟩
        refine ite2 (fun h2 => ?_) (fun h2 => ?_)
        · have hd1 : d = 1 := vi_eq (j := 1) h2
          subst hb1 hd1
          refine ⟨_, rfl, s, _, _, _, rfl, rfl, hs', rfl, _, rfl, t, _, _, _, rfl, rfl, ht', rfl, _, _, rfl, rfl, (by show 2 ≤ sizeLine; decide), fun u hu => ?_⟩
          have z := q u hu
          rw [show sumR a 1 c 1 = (a + c, 1) by unfold sumR; rw [Nat.mul_one, nrm_one, Int.natCast_one, Int.mul_one, Int.mul_one]] at z
          exact z
        · exact ⟨rfl, rfl⟩
      · exact iteF ⟨rfl, rfl⟩
    rintro σ1 H1 ⟨rfl, rfl⟩
    
    have g0 : 0 < Nat.gcd b d := Nat.gcd_pos_of_pos_left _ b0
    have gle : Nat.gcd b d ≤ b := Nat.le_of_dvd b0 (Nat.gcd_dvd_left _ _)
    have gI : ∀ {x : Nat}, (x : Int).natAbs = x := fun {x} => Int.natAbs_natCast x
    have dv : ∀ (x : Int) (y : Nat), 0 < y → y < 2 ^ 13500 → x.natAbs < 2 ^ 13500 → CDivC x (y : Int) := fun x y h0 h1 h2 => ⟨by omega, .inl h2⟩
    have md2 : d / Nat.gcd b d < 2 ^ 6000 := Nat.lt_of_le_of_lt (Nat.div_le_self _ _) md
    have mb2 : b / Nat.gcd b d < 2 ^ 6000 := Nat.lt_of_le_of_lt (Nat.div_le_self _ _) mb
    have p1 := mid_mul (x := a) (y := ((d / Nat.gcd b d : Nat) : Int)) ma (by rw [gI]; exact md2)
    have p2 := mid_mul (x := c) (y := ((b / Nat.gcd b d : Nat) : Int)) mc (by rw [gI]; exact mb2)
    obtain ⟨tb, _⟩ := add12 p1.2 p2.2
    have l0 : 0 < lefS a b c d := Nat.gcd_pos_of_pos_right _ g0
    have lle : lefS a b c d ≤ Nat.gcd b d := Nat.le_of_dvd g0 (Nat.gcd_dvd_right _ _)
    refine ⟨_, rfl, s, _, _, _, rfl, rfl, hs', rfl, _, rfl, t, _, _, _, rfl, rfl, ht', rfl, _, _, rfl, ?_⟩
    have e0 : Nat.gcd ((b : Int)).natAbs ((d : Int)).natAbs = Nat.gcd b d := by rw [gI, gI]
    dsimp only
    rw [e0]
    refine ⟨_, rfl, t, _, _, _, rfl, rfl, ht', rfl, _, rfl, _, _, rfl, rfl, dv _ _ g0 (big (m12 (Nat.lt_of_le_of_lt gle mb))) (by rw [gI]; exact big (m12 md)), ?_⟩
    dsimp only
    rw [fdiv_nat]
    refine ⟨_, rfl, s, _, _, _, rfl, rfl, hs', rfl, _, rfl, _, _, rfl, rfl, p1.1, _, rfl, t, _, _, _, rfl, rfl, ht', rfl, _, rfl, s, _, _, _, rfl, rfl, hs', rfl, _, rfl, _, _, rfl, rfl, dv _ _ g0 (big (m12 (Nat.lt_of_le_of_lt gle mb))) (by rw [gI]; exact big (m12 mb)), ?_⟩
    dsimp only
    rw [fdiv_nat]
    refine ⟨_, _, rfl, rfl, p2.1, _, _, rfl, rfl, ?_⟩
    refine ⟨_, rfl, _, rfl, _, _, rfl, ?_⟩
    have e1 : Nat.gcd (a * ((d / Nat.gcd b d : Nat) : Int) + c * ((b / Nat.gcd b d : Nat) : Int)).natAbs (((Nat.gcd b d : Nat) : Int)).natAbs = lefS a b c d := by rw [gI]; rfl
    dsimp only
    rw [e1]
    have lt6 : lefS a b c d < 2 ^ 6000 := Nat.lt_of_le_of_lt lle (Nat.lt_of_le_of_lt gle mb)
    refine ⟨_, rfl, _, rfl, _, _, rfl, rfl, dv _ _ l0 (big (m12 lt6)) (big tb), _, rfl, s, _, _, _, rfl, rfl, hs', rfl, _, rfl, _, _, rfl, rfl, dv _ _ l0 (big (m12 lt6)) (by rw [gI]; exact big (m12 mb)), ?_⟩
    dsimp only
    rw [fdiv_nat]
    refine ⟨_, rfl, _, _, rfl, rfl, (mid_mul (by rw [gI]; exact Nat.lt_of_le_of_lt (Nat.div_le_self _ _) mb) (by rw [gI]; exact md2)).1, (by show 2 ≤ sizeLine; decide), fun u hu => ?_⟩
    have z := q u hu
    rw [sum_short la lc] at z
    dsimp only
    rw [← Int.natCast_mul]
    exact z
end
end AL
set_option Elab.async false
set_option maxRecDepth 100000
set_option exponentiation.threshold 70000
set_option maxHeartbeats 1000000
namespace AL
open PySem PySem.Spec PyProof.Rows L2 RZ
section
variable {P : Program} {w : World} {K : PySem.W.Frag} {mg : Str → Option Value} {base : Heap}

theorem seqT_same {K : PySem.W.Frag} {H H' : Hp} {a : Addr} {xs : List V} (s : Same H H') (h : SqT K H a xs) : SqT K H' a xs := by
  rcases h with h | h
  · rcases h with h | ⟨o, h⟩
    · exact .inl (.inl (s _ _ h))
    · exact .inl (.inr ⟨o, s _ _ h⟩)
  · exact .inr h

/-- is_list(value) -/
def spIsL (K : PySem.W.Frag) : Sp := fun vs H Q _ => ∃ (a : Addr) (k : Bool), vs = [.ref a] ∧ (match k with | true => ∃ xs, H a = some (.lst xs) | false => ∃ xs, H a = some (.tup xs)) ∧ ∀ H', Same H H' → Q (.bl true) H'
/-- is_term(term, size), a term as it must be -/
def spIsTerm (K : PySem.W.Frag) : Sp := fun vs H Q _ => ∃ (b : Addr) (n : Nat) (e : Ex × Rat), vs = [.ref b, .int (n : Int)] ∧ TermV K H b e ∧ e.1.length = n ∧ n ≤ 80 ∧ ∀ H', Same H H' → Q (.bl true) H'
/-- Poly(size, terms), terms as they must be -/
def spIniP (K : PySem.W.Frag) (CP : Addr) : Sp := fun vs H Q _ => ∃ (x dx T : Addr) (k : Bool) (ts : List Addr) (n E D B : Nat) (l : PM), vs = [.ref x, .int (n : Int), .ref T] ∧ H x = some (.ins CP dx []) ∧ SqB K H T (ts.map V.ref) k ∧ Paired (TermV K H) ts l ∧
  PB n E D B l ∧ n ≤ 80 ∧ E ≤ 80 ∧ l.length < 64 ∧ B * l.length * D < 2 ^ 5999 ∧ B * D < 2 ^ 5999 ∧ D < 2 ^ 5999 ∧
  ∀ T' ts' m H', (∀ b o, b ≠ x → H b = some o → H' b = some o) → H' x = some (.ins CP dx [("size", .int (n : Int)), ("terms", .ref T')]) → H' T' = some (.tup (ts'.map V.ref)) → Paired (EntAt H') ts' m →
    Can n E D (B * l.length) m → m.length ≤ l.length → Eqp m l → Q .non H'

abbrev stis_term : Stmt := top 22
theorem scis_term : FnScope ["term", "size"] ["term", "size"] (defScope stis_term) := ⟨rfl, rfl, rfl, by decide +kernel, rfl, by decide +kernel, by decide +kernel⟩
theorem okis_term (B : Blt mg) {CPoly CQuotient BZ BN BM UL fZ fN : Addr} {fdZ fdN : FuncData} (Es : ErP K mg CPoly CQuotient BZ BN BM UL fZ fN fdZ fdN) {fis_whole : Addr} {fdis_whole : FuncData} (Dis_whole : DefAt K mg "is_whole" stis_whole ["value"] fis_whole fdis_whole) {fare_integers : Addr} {fdare_integers : FuncData} (Dare_integers : DefAt K mg "are_integers" stare_integers ["items"] fare_integers fdare_integers) {fis_ratio : Addr} {fdis_ratio : FuncData} (Dis_ratio : DefAt K mg "is_ratio" stis_ratio ["value"] fis_ratio fdis_ratio) {fis_term : Addr} {fdis_term : FuncData} (Dis_term : DefAt K mg "is_term" stis_term ["term", "size"] fis_term fdis_term) : FnOk P w K mg base CX0 4 fis_term fdis_term ["term", "size"] (spIsTerm K) := by
  have OKare_integers : FnOk P w K mg base CX0 2 fare_integers fdare_integers ["items"] (spAreG K) := okare_integers B Es Dis_whole Dare_integers
  have OKis_ratio : FnOk P w K mg base CX0 3 fis_ratio fdis_ratio ["value"] (spIsRatV K) := okis_ratio B Es Dis_whole Dare_integers Dis_ratio
  refine Dis_term.F.ok scis_term (fun vs H Q E h => ?_) (fun cdv A outer s H vs Q E hr h => ?_)
  · obtain ⟨b, n, e, rfl, _⟩ := h; rfl
  · have hu := hu_of hr
    refine ⟨_, (pss_one (ps_ret (pe_and (pe_callB call_isi (by rfl) B.isinstance_ (by decide +kernel) (pa_cons (pv 0) (pa_cons (pe_bltn (v := .ty "tuple") (by rfl) B.tuple_ PyProof.Rows.Boot.«tuple» rfl) pa_nil))) (pe_and (pe_cmpR op_eq (pe_callB call_len_seq (by rfl) B.len_ (by decide +kernel) (pa_cons (pv 0) pa_nil)) pe_int (nomark _)) (pe_and (pe_callB call_isi (by rfl) B.isinstance_ (by decide +kernel) (pa_cons (pe_ix ix_tup (pv 0) pe_int (fun _ _ => rfl)) (pa_cons (pe_bltn (v := .ty "tuple") (by rfl) B.tuple_ PyProof.Rows.Boot.«tuple» rfl) pa_nil))) (pe_and (pe_cmpR op_eq (pe_callB call_len_seq (by rfl) B.len_ (by decide +kernel) (pa_cons (pe_ix ix_tup (pv 0) pe_int (fun _ _ => rfl)) pa_nil)) (pv 1) (nomark _)) (pe_and (pe_call OKare_integers (hr.mono (by decide)) rfl Dare_integers.m Dare_integers.F.kp Dare_integers.b .nil pass0 (pa_cons (pe_ix ix_tup (pv 0) pe_int (fun _ _ => rfl)) pa_nil)) (pe_and (pe_cmpR op_eq (pe_callB (cr_min rfl) (by rfl) B.min_ (by decide +kernel) (pa_cons (pe_op op_cat (pe_callTy call_list_of (by rfl) B.list_ (by decide +kernel) (pa_cons (pe_ix ix_tup (pv 0) pe_int (fun _ _ => rfl)) pa_nil)) (pe_lst (pa_cons pe_int pa_nil))) pa_nil)) pe_int (nomark _)) (pe_one (pe_call OKis_ratio (hr.mono (by decide)) rfl Dis_ratio.m Dis_ratio.F.kp Dis_ratio.b .nil pass0 (pa_cons (pe_ix ix_tup (pv 0) pe_int (fun _ _ => rfl)) pa_nil))))))))))), ?_⟩
    obtain ⟨b, n, e, rfl, ht, hl, hn, q⟩ := h
    obtain ⟨k, v, p, r, hb, hk, hr, hm, ev⟩ := ht
    refine ⟨_, rfl, _, _, _, _, _, rfl, ClsV.ty _, TyX.base (.tup hb), rfl, true, rfl, ?_⟩
    refine iteT ?_
    refine ⟨_, rfl, b, _, rfl, .inr (SqT.of hb), rfl, true, rfl, ?_⟩
    refine iteT ?_
    refine ⟨_, rfl, b, _, _, _, rfl, rfl, SqT.of hb, rfl, _, _, _, _, _, rfl, ClsV.ty _, TyX.base (.tup hk), rfl, true, rfl, ?_⟩
    refine iteT ?_
    refine ⟨_, rfl, b, _, _, _, rfl, rfl, SqT.of hb, rfl, k, _, rfl, .inr (SqT.of hk), _, rfl, rfl, _, rfl, ?_⟩
    rw [List.length_map, len_ki, hl, decide_eq_true rfl]
    refine iteT ?_
    refine ⟨_, rfl, b, _, _, _, rfl, rfl, SqT.of hb, rfl, k, _, fun _ => true, rfl, hk, (by rw [List.length_map, len_ki]; omega), ints_all (ki e.1), fun H1 s1 => ⟨_, rfl, ?_⟩⟩
    rw [show ((ki e.1).map V.int).all (fun _ => true) = true by simp]
    refine iteT ?_
    have hb1 := s1 _ _ hb
    have hk1 := s1 _ _ hk
    refine ⟨_, rfl, b, _, _, _, rfl, rfl, SqT.of hb1, rfl, k, _, rfl, .inr (SqT.of hk1), fun l1 hl1 => ?_⟩
    have n1 := AL.Same.new (o := .lst ((ki e.1).map V.int)) hl1
    refine ⟨(by show 1 ≤ sizeLine; decide), fun l2 hl2 => ?_⟩
    have n2 := AL.Same.new (o := .lst [.int 0]) hl2
    refine ⟨_, _, _, _, rfl, rfl, n2 _ _ upd_same, upd_same, (by rw [List.length_map, len_ki]; show e.1.length + 1 ≤ sizeLine; exact Nat.le_trans (by omega : _ ≤ 100) (by decide)), fun l3 hl3 => ?_⟩
    have n3 := AL.Same.new (o := .lst ((ki e.1).map V.int ++ [.int 0])) hl3
    have s3 := ((s1.trans n1).trans n2).trans n3
    refine ⟨l3, ki e.1 ++ [0], rfl, SqL.of (by rw [upd_same, List.map_append]; rfl), by simp, fun m hm1 hm2 => ?_⟩
    have m0 : m = 0 := by
      have u1 := hm2 0 (by simp)
      rcases List.mem_append.mp hm1 with z | z
      · obtain ⟨i, _, rfl⟩ := List.mem_map.mp z
        omega
      · simpa using z
    subst m0
    refine ⟨rfl, _, rfl, ?_⟩
    rw [decide_eq_true rfl]
    refine iteT ?_
    have hb3 := s3 _ _ hb
    refine ⟨_, rfl, b, _, _, _, rfl, rfl, SqT.of hb3, rfl, v, some (p, r), rfl, ratV_same hr s3, fun H4 s4 => q _ (s3.trans s4)⟩
abbrev stP_init : Stmt := inClass (top 21) 0
theorem scP_init : FnScope ["self", "size", "terms", "sums", "term", "exponents", "ratio"] ["self", "size", "terms"] (defScope stP_init) := ⟨rfl, rfl, rfl, by decide +kernel, rfl, by decide +kernel, by decide +kernel⟩
theorem okP_init (B : Blt mg) {CPoly CQuotient BZ BN BM UL fZ fN : Addr} {fdZ fdN : FuncData} (Es : ErP K mg CPoly CQuotient BZ BN BM UL fZ fN fdZ fdN) {flowest : Addr} {fdlowest : FuncData} (Dlowest : DefAt K mg "lowest" stlowest ["top", "bottom"] flowest fdlowest) {fas_ratio : Addr} {fdas_ratio : FuncData} (Das_ratio : DefAt K mg "as_ratio" stas_ratio ["value"] fas_ratio fdas_ratio) {fis_whole : Addr} {fdis_whole : FuncData} (Dis_whole : DefAt K mg "is_whole" stis_whole ["value"] fis_whole fdis_whole) {fare_integers : Addr} {fdare_integers : FuncData} (Dare_integers : DefAt K mg "are_integers" stare_integers ["items"] fare_integers fdare_integers) {fis_ratio : Addr} {fdis_ratio : FuncData} (Dis_ratio : DefAt K mg "is_ratio" stis_ratio ["value"] fis_ratio fdis_ratio) {fis_term : Addr} {fdis_term : FuncData} (Dis_term : DefAt K mg "is_term" stis_term ["term", "size"] fis_term fdis_term) {fratio_sum : Addr} {fdratio_sum : FuncData} (Dratio_sum : DefAt K mg "ratio_sum" stratio_sum ["one", "other"] fratio_sum fdratio_sum) {fP_init : Addr} {fdP_init : FuncData} (DP_init : IniA K "__init__" "Poly.__init__" stP_init ["self", "size", "terms"] CPoly fP_init fdP_init) : FnOk P w K mg base CX0 5 fP_init fdP_init ["self", "size", "terms"] (spIniP K CPoly) := by
  have OKas_ratio : FnOk P w K mg base CX0 2 fas_ratio fdas_ratio ["value"] (spAsG K) := okas_ratio B Es Dlowest Das_ratio
  have OKis_term : FnOk P w K mg base CX0 4 fis_term fdis_term ["term", "size"] (spIsTerm K) := okis_term B Es Dis_whole Dare_integers Dis_ratio Dis_term
  have OKis_whole : FnOk P w K mg base CX0 1 fis_whole fdis_whole ["value"] (spWholeV K) := okis_whole B Es Dis_whole
  have OKratio_sum : FnOk P w K mg base CX0 1 fratio_sum fdratio_sum ["one", "other"] (spTwoL sumR) := okratio_sum B Es Dratio_sum
  refine DP_init.F.ok scP_init (fun vs H Q E h => ?_) (fun cdv A outer s H vs Q E hr h => ?_)
  · obtain ⟨x, dx, T, k, ts, n, Em, D, B0, l, rfl, _⟩ := h; rfl
  · have hu := hu_of hr
    refine ⟨_, (pss_cons (ps_if (PW.pt (pw_or (pt_not (pt_val (pe_call OKis_whole (hr.mono (by decide)) rfl Dis_whole.m Dis_whole.F.kp Dis_whole.b .nil pass0 (pa_cons (pv 1) pa_nil)))) (pw_or1 (pt_cmpR op_lt (pv 1) pe_int (nomark _))))) (pss_one ps_never) pss_nil)
    (pss_cons (ps_set (i := 3) scP_init.nd rfl (Or.inl rfl) pe_dnewT)
    (pss_cons (ps_for PassesOwn.never rfl (pi_seq (pv 2)) (pg_name (i := 4) scP_init.nd rfl (Or.inl rfl))
      (pss_cons (ps_if (pt_not (pt_val (pe_call OKis_term (hr.mono (by decide)) rfl Dis_term.m Dis_term.F.kp Dis_term.b .nil pass0 (pa_cons (pv 4) (pa_cons (pv 1) pa_nil))))) (pss_one ps_never) pss_nil)
    (pss_one (ps_dput hu (pv 3) (pe_ix ix_tup (pv 4) pe_int (fun _ _ => rfl)) (pe_call OKratio_sum (hr.mono (by decide)) rfl Dratio_sum.m Dratio_sum.F.kp Dratio_sum.b .nil pass0 (pa_cons (pe_dget2 hu (pv 3) (pe_ix ix_tup (pv 4) pe_int (fun _ _ => rfl)) (pe_tup (pa_cons pe_int (pa_cons pe_int pa_nil))) ⟨rfl, rfl, rfl, rfl⟩) (pa_cons (pe_call OKas_ratio (hr.mono (by decide)) rfl Das_ratio.m Das_ratio.F.kp Das_ratio.b .nil pass0 (pa_cons (pe_ix ix_tup (pv 4) pe_int (fun _ _ => rfl)) pa_nil)) pa_nil))) rfl))))
    (pss_cons (ps_fld (pv 0) (pv 1) rfl)
    (pss_one (ps_fld (pv 0) (pe_callTy call_tuple_of (by rfl) B.tuple_ (by decide +kernel) (pa_cons (pe_lc (own := [("exponents", 5), ("ratio", 6)]) (g := gTup K 2 (gCons (gName 5) (gCons (gName 6) gNil))) rfl scP_init.nd (pi_list (pe_callB (cr_sortD (B := 128) rfl hr.units) (by rfl) B.sorted_ (by decide +kernel) (pa_cons (pe_bm0 PySem.F.plainAttrs_dict PySem.F.slot_dict_items PySem.F.type_dict_items DX.mt_itemsT (pv 3)) pa_nil))) (blkOk_by (own := [("exponents", 5), ("ratio", 6)]) (N := ["self", "size", "terms", "sums", "term", "exponents", "ratio"]) (sc := defScope stP_init) (by decide +kernel)) (fun _ _ _ _ _ => (pg_tup rfl (pgs_cons (pg_name (i := 5) scP_init.nd rfl (Or.inl rfl)) (pgs_cons (pg_name (i := 6) scP_init.nd rfl (Or.inl rfl)) pgs_nil)))) (fun _ _ _ _ _ => (pts_one (pt_cmpR op_ne (pe_ix (ix_tup : IxR _ (rIxT K)) (pv 6) pe_int (fun _ _ => rfl)) pe_int (nomark _)))) (fun _ _ _ _ _ => (pe_tup (pa_cons (pv 5) (pa_cons (pv 6) pa_nil))))) pa_nil)) rfl)))))), ?_⟩
    obtain ⟨x, dx, T, k, ts, n, Em, D, B0, l, rfl, hx, hT, ht, pb, hn, hE, few, z1, z2, z3, q⟩ := h
    refine ⟨_, rfl, _, _, true, false, rfl, TyX.base (.int (n : Int)), rfl, rfl, _, rfl, ?_⟩
    refine iteF ?_
    refine ⟨_, rfl, _, _, rfl, rfl, _, rfl, ?_⟩
    rw [decide_eq_false (by omega)]
    refine iteF ?_
    refine fun d hd => ?_
    have nd0 := AL.Same.new (o := .dT []) hd
    have lts : ts.length = l.length := prd_len ht
    have sqk : ∀ {H' : Hp}, Same H H' → SqB K H' T (ts.map V.ref) k := fun s => by
      cases k with
      | true => exact Same.seq s hT
      | false => exact seqT_same s hT
    refine ⟨_, rfl, T, k, rfl, ⟨_, sqk nd0⟩, for_seq (K := K) (k := k) (a := T) (xs := ts.map V.ref) (fun i σ H' => ∃ v : Option V, σ = [some (.ref x), some (.int (n : Int)), some (.ref T), some (.ref d), v, none, none] ∧ Same H H' ∧ DicM H' d (joinM [] (l.take i))) ⟨none, rfl, nd0, DicM.nil upd_same⟩ (fun i σ H' _ hh => let ⟨_, _, s, _⟩ := hh; sqk s) ?_ ?_⟩
    · rintro i y σ H1 hy ⟨v, rfl, s1, D1⟩
      obtain ⟨b, hb0, rfl⟩ := map_ref hy
      obtain ⟨e, he, tv⟩ := prd_get ht hb0
      have hi : i < l.length := (List.getElem?_eq_some_iff.mp he).1
      obtain ⟨p1, p2, p3⟩ := pb e (List.mem_of_getElem? he)
      refine ⟨_, rfl, _, rfl, b, n, e, rfl, tv.same s1, p1, hn, fun H2 s2 => ⟨true, rfl, ?_⟩⟩
      refine iteF ?_
      have s12 := s1.trans s2
      have D2 := D1.same s2
      obtain ⟨kk, vv, p, r, hb, hk, hr, hm, ev⟩ := tv.same s12
      obtain ⟨kvs, hkv, _⟩ := D2.len
      refine ⟨_, rfl, d, rfl, .inr ⟨_, .inl hkv⟩, _, rfl, b, _, _, _, rfl, rfl, SqT.of hb, rfl, (by show 2 ≤ sizeLine; decide), fun z hz => ?_⟩
      have nz := AL.Same.new (o := .tup [.int 0, .int 1]) hz
      obtain ⟨o, r0, g1, g2, g3⟩ := dic_get (z := z) (D2.same nz) (show KeyAt _ kk e.1 from nz _ _ hk) (show RQ _ z 0 from upd_same)
      refine ⟨o, g1, ?_⟩
      rw [g2]
      refine ⟨_, rfl, b, _, _, _, rfl, rfl, SqT.of (nz _ _ hb), rfl, vv, p, r, rfl, ratV_same hr nz, hm, fun t2 ht2 => ?_⟩
      have n2 := AL.Same.new (o := .tup [.int (nrm p r).1, .int ((nrm p r).2 : Int)]) ht2
      have pbi := join_pb pb i (by omega)
      have szg := pbi.getD p3.1 e.1
      have bi : B0 * i * D ≤ B0 * l.length * D := Nat.mul_le_mul_right _ (Nat.mul_le_mul_left _ (by omega))
      have rq2 : RatAt (upd (upd H2 z (.tup [.int 0, .int 1])) t2 (.tup [.int (nrm p r).1, .int ((nrm p r).2 : Int)])) t2 e.2.num e.2.den := by
        rw [← ev]
        have w := nrm_rat p hm.1
        show upd _ t2 _ t2 = _
        rw [upd_same, w]
      refine ⟨r0, t2, _, e.2.num, _, e.2.den, rfl, n2 _ _ g3, rq2, szg.mid (low6 (Nat.lt_of_le_of_lt bi z1)) (low6 z3), p3.mid (low6 z2) (low6 z3), low_rat _, low_rat _, fun u hu => ?_⟩
      rw [sum_rat]
      have n3 := AL.Same.new (o := .tup [.int ((getM (joinM [] (l.take i)) e.1).getD 0 + e.2).num, .int (((getM (joinM [] (l.take i)) e.1).getD 0 + e.2).den : Int)]) hu
      have s3 := (nz.trans n2).trans n3
      have lenm : (joinM [] (l.take i)).length < sizeLine := by
        have := join_len (l.take i) []
        rw [List.length_take, List.length_nil] at this
        exact Nat.lt_of_le_of_lt (by omega : _ ≤ 100) (by decide)
      obtain ⟨od, q1, q2⟩ := dic_put (D2.same s3) (show KeyAt _ kk e.1 from s3 _ _ hk) (show RQ _ u ((getM (joinM [] (l.take i)) e.1).getD 0 + e.2) from upd_same) lenm
      refine ⟨_, rfl, _, rfl, b, _, _, _, rfl, rfl, SqT.of (s3 _ _ hb), rfl, d, _, rfl, q1, ?_⟩
      refine ⟨some (.ref b), rfl, AL.Same.updn (s12.trans s3) hd, ?_⟩
      rw [join_take he]
      exact q2
    rintro σ H1 ⟨v, rfl, s1, D1⟩
    rw [List.length_map, lts, List.take_length] at D1
    have hx1 := s1 _ _ hx
    refine ⟨_, rfl, _, rfl, x, CPoly, dx, [], rfl, hx1, Es.cl, Es.nS, (by show 0 < 1000; decide), ?_⟩
    have ndx : d ≠ x := (ne_of_none hx hd).symm
    have f1 : ∀ b o, b ≠ x → H1 b = some o → upd H1 x (.ins CPoly dx (putF "size" (V.int (n : Int)) [])) b = some o := fun b o z w => by rw [upd_ne z]; exact w
    have f2 : upd H1 x (.ins CPoly dx (putF "size" (V.int (n : Int)) [])) x = some (.ins CPoly dx [("size", V.int (n : Int))]) := upd_same
    have D2 : DicM (upd H1 x (.ins CPoly dx (putF "size" (V.int (n : Int)) []))) d (joinM [] l) := D1.tup (upd_ne ndx) (upd_tups hx1 fun _ z => nomatch z)
    generalize upd H1 x (.ins CPoly dx (putF "size" (V.int (n : Int)) [])) = H2 at f1 f2 D2 ⊢
    obtain ⟨ks, hks, rows⟩ := D2
    have pbj := join_pb pb l.length (Nat.le_refl _)
    rw [List.take_length] at pbj
    have lj := join_len l []
    rw [List.length_nil, Nat.zero_add] at lj
    have lks : ks.length = (joinM [] l).length := prd_len rows
    refine ⟨_, rfl, .inr (.inr (.inl ⟨rfl, .inr ⟨_, hks⟩⟩)), d, _, rfl, rfl, hks, fun p hp => ?_⟩
    have np := AL.Same.new (o := DX.itemsO p d) hp
    have rowsP : Paired (DRow (upd H2 p (DX.itemsO p d))) ks (joinM [] l) := paired_mono rows fun _ _ z => ⟨z.1, np _ _ z.2⟩
    refine ⟨p, d, ks, n, MV (joinM [] l), rfl, upd_same, np _ _ hks, by omega, rows_M rowsP (join_nodup l) pbj hE, fun H3 lq ps gw hl0 pm asc hlst rws => ?_⟩
    obtain ⟨m', pm', rows'⟩ := sorted_pm (H := H3) (paired_mono rowsP fun _ _ z => ⟨z.1, gw _ _ z.2⟩) pm
    obtain ⟨can, eqp, lnz⟩ := perm_can pm' rows' asc (join_nodup l) pbj hE
    refine ⟨lq, rfl, ⟨_, SqL.of hlst⟩, fun Dd hDd => ?_⟩
    have lps : ps.length = m'.length := by rw [← prd_len rows', List.length_map]
    have lpm : m'.length = (joinM [] l).length := pm'.length_eq
    refine lc_list (K := K) (a := lq) (xs := ps.map fun z => V.ref z.1) (fun i H' => Same H3 H' ∧ ∃ ts' : List Addr, H' Dd = some (.lst (ts'.map V.ref)) ∧ Paired (EntAt H') ts' (nzM (m'.take i))) ⟨AL.Same.new hDd, [], upd_same, .nil⟩ (fun i H' _ hh => SqL.of (hh.1 _ _ hlst)) ?_ ?_
    · rintro i y H4 hy ⟨s4, ts', hD4, en4⟩
      rw [List.getElem?_map] at hy
      cases hz : ps[i]? with
      | none => rw [hz] at hy; cases hy
      | some z =>
      rw [hz] at hy
      cases Option.some.inj hy
      obtain ⟨q0, w1, w2⟩ := rws z (List.mem_of_getElem? hz)
      obtain ⟨e, he, e1, e2⟩ := prd_get (i := i) (a := z.2) rows' (by rw [List.getElem?_map, hz]; rfl)
      have hi : i < m'.length := (List.getElem?_eq_some_iff.mp he).1
      have rq4 : RQ H4 z.2.2 e.2 := s4 _ _ e2
      refine ⟨z.1, _, rfl, SqT.of (s4 _ _ w1), rfl, _, _, rfl, _, _, rfl, rfl, rfl, ?_⟩
      refine ⟨_, rfl, z.2.2, _, _, _, rfl, rfl, SqT.of rq4, rfl, rfl, _, rfl, ?_⟩
      by_cases h0 : e.2 = 0
      · have hn0 : e.2.num = 0 := num_zero.mpr h0
        rw [show (!decide (V.int e.2.num = V.int 0)) = false by rw [hn0, decide_eq_true rfl]; rfl]
        refine iteF ?_
        refine ⟨s4, ts', hD4, ?_⟩
        rw [nz_take_false he h0]
        exact en4
      · have hn0 : e.2.num ≠ 0 := fun w => h0 (num_zero.mp w)
        rw [show (!decide (V.int e.2.num = V.int 0)) = true by rw [decide_eq_false (fun w => hn0 (by injection w))]; rfl]
        refine iteT ?_
        refine ⟨_, rfl, _, rfl, (by show 2 ≤ sizeLine; decide), fun t5 ht5 => ?_⟩
        have n5 := AL.Same.new (o := .tup [.ref q0, .ref z.2.2]) ht5
        have nd5 : Dd ≠ t5 := ne_of_none hD4 ht5
        have hD5 : upd H4 t5 (.tup [.ref q0, .ref z.2.2]) Dd = some (.lst (ts'.map V.ref)) := n5 _ _ hD4
        have ts5 := upd_tups (o := .lst (ts'.map V.ref ++ [V.ref t5])) hD5 (fun _ z => nomatch z)
        refine ⟨_, hD5, ?_, AL.Same.updn (s4.trans n5) hDd, ts' ++ [t5], by rw [upd_same, List.map_append]; rfl, ?_⟩
        · have := prd_len en4
          have := nz_len (m'.take i)
          rw [List.length_take] at this
          rw [List.length_map]
          exact Nat.lt_of_le_of_lt (by omega : _ ≤ 100) (by decide)
        · rw [nz_take_true he h0]
          refine prd_snoc (paired_mono en4 fun _ _ w => (w.same n5).tups ts5) ⟨q0, z.2.2, ts5 _ _ upd_same, ?_, ts5 _ _ (n5 _ _ rq4)⟩
          have w3 : H4 q0 = some (.tup ((ki e.1).map V.int)) := by rw [← e1]; exact s4 _ _ w2
          exact ts5 _ _ (n5 _ _ w3)
    · rintro H4 ⟨s4, ts', hD4, en4⟩
      rw [List.length_map, lps, List.take_length] at en4
      refine ⟨Dd, _, rfl, .inl ⟨SqL.of hD4, fun T2 hT2 => ?_⟩⟩
      have n5 := AL.Same.new (o := .tup (ts'.map V.ref)) hT2
      have hx5 := n5 _ _ (s4 _ _ (gw _ _ (np _ _ f2)))
      refine ⟨_, rfl, x, CPoly, dx, _, rfl, hx5, Es.cl, Es.nT, (by show 1 < 1000; decide), ?_⟩
      have ts6 := upd_tups (o := .ins CPoly dx (putF "terms" (V.ref T2) [("size", V.int (n : Int))])) hx5 (fun _ z => nomatch z)
      refine q T2 ts' (nzM m') _ (fun b o nb hb => ?_) upd_same (ts6 _ _ upd_same) (paired_mono en4 fun _ _ w => (w.same n5).tups ts6) can (Nat.le_trans lnz lj) (eqp.trans (join_eqp l))
      rw [upd_ne nb]
      exact n5 _ _ (s4 _ _ (gw _ _ (np _ _ (f1 b o nb (s1 _ _ hb)))))
end
end AL
set_option Elab.async false
set_option linter.all false
set_option maxRecDepth 100000
set_option maxHeartbeats 4000000
/-! A tuple times 1 is the tuple itself. -/
namespace AL
open PySem PySem.Spec PyProof.Rows L2
theorem tuple_once (l : Addr) (its : Array Value) (n : Nat) (dd : Option Addr) (sl : Array (Option Value)) (u : Tok) :
    Meets (Builtin.«tuple.__mul__» ⟨[.ref l, .int 1 u], []⟩) (fun _ R s => s.heap.get? l = some { cls := .type "tuple", dict := dd, data := .seq its n, slots := sl } ∧
      R (.ok (.ret (Value.ref l))) s) :=
  .of_wp fun prog w A R s h => by
    obtain ⟨hp, g, d, tk, os⟩ := s
    obtain ⟨look, h⟩ := h
    have idx := AutoSeq1.idx_int
    have c1 : (its.isEmpty || (1 : Int) == 1) = true := by simp
    wp_walk using wpAny_loadPart' look
    repeat (first
      | (refine wpAny_ite_false (decide_eq_false (by decide)) ?_; wp_walk using wpAny_loadPart' look)
      | (refine wpAny_ite_true (decide_eq_true (by rw [c1])) ?_; wp_walk using wpAny_loadPart' look))
    exact ⟨_, rfl, h⟩
/-- t * k, k from 1 on -/
def rRepU (K : PySem.W.Frag) : R2 := fun x y H Q => ∃ l k xs, x = .ref l ∧ y = .int k ∧ SqT K H l xs ∧ xs ≠ [] ∧ 1 ≤ k ∧ k ≤ 1000 ∧ xs.length ≤ 1000 ∧ (k = 1 → Q (.ref l) H) ∧ (2 ≤ k → ∀ p, H p = none → Q (.ref p) (upd H p (.tup (List.replicate k.toNat xs).flatten)))
theorem op_repU {X : Cx} : OpR X (binaryOp .Mult) (rRepU X.K) := by
  intro pins s σ H x y v u Q I rx ry h
  obtain ⟨l, k, xs, rfl, rfl, hT, hne, h1, h2, hz, q1, q2⟩ := h
  by_cases hk : 2 ≤ k
  · exact op_repT pins s σ H _ _ v u Q I rx ry ⟨l, k, xs, rfl, rfl, hT, hne, hk, h2, hz, q2 hk⟩
  obtain rfl : k = 1 := by omega
  cases rx
  obtain ⟨t, rfl⟩ := ry
  obtain ⟨its, r, ⟨⟨cls, dd, data, sl⟩, ho, hc, n, hd⟩, hs⟩ := I.tuple hT
  simp only at hc hd
  subst hc hd
  refine wpAny_binaryOp_repeat_ref (T := "tuple") (U := "int") (by decide) ⟨_, ho, rfl⟩ (fun s' => typeIs_int s' 1 t) noFill_tuple_mul F.fills_int_mul F.slot_int_rmul repeat_tuple F.slot_int_index.lookup ?_
  refine call_meets F.slot_int_rmul (typeIs_int s 1 t) F.entry_int_rmul (F.args_int_rmul_2 _ _) (int_rmul_tuple 1 t l its.toArray n dd sl) ⟨ho, rfl, ⟨_, ho, rfl⟩, ?_⟩
  exact call_meets F.slot_tuple_mul ⟨_, ho, rfl⟩ F.entry_tuple_mul (F.args_tuple_mul_2 _ _) (tuple_once l its.toArray n dd sl t) ⟨ho, ⟨.ref l, H, I, rfl, q1 rfl⟩⟩
end AL
set_option Elab.async false
set_option linter.all false
set_option maxRecDepth 100000
set_option maxHeartbeats 4000000
/-! A tuple times 0. -/
namespace AL
open PySem PySem.Spec PyProof.Rows L2
theorem tuple_none (l : Addr) (its : Array Value) (n : Nat) (dd : Option Addr) (sl : Array (Option Value)) (u : Tok) (he : its.isEmpty = false) :
    Meets (Builtin.«tuple.__mul__» ⟨[.ref l, .int 0 u], []⟩) (fun _ R s => s.heap.get? l = some { cls := .type "tuple", dict := dd, data := .seq its n, slots := sl } ∧
      R (.ok (.ret (Value.ref s.heap.objs.size))) { s with heap := s.heap.push { cls := Value.type "tuple", data := Data.seq #[] }, toks := s.toks }) :=
  .of_wp fun prog w A R s h => by
    obtain ⟨hp, g, d, tk, os⟩ := s
    obtain ⟨look, h⟩ := h
    have idx := AutoSeq1.idx_int
    have c0 : (decide ((0 : Int) < -(2 ^ 63)) || decide ((0 : Int) ≥ 2 ^ 63)) = false := by decide
    have c1 : (its.isEmpty || (0 : Int) == 1) = false := by rw [he]; rfl
    have c2 : (decide ((0 : Int) ≤ 0) || its.isEmpty) = true := by simp
    wp_walk using wpAny_loadPart' look
    repeat (first
      | (refine wpAny_ite_false (decide_eq_false (by rw [c0]; exact Bool.false_ne_true)) ?_; wp_walk using wpAny_loadPart' look)
      | (refine wpAny_ite_false (decide_eq_false (by rw [c1]; exact Bool.false_ne_true)) ?_; wp_walk using wpAny_loadPart' look)
      | (refine wpAny_ite_true (decide_eq_true (by rw [c2])) ?_; wp_walk using wpAny_loadPart' look))
    exact ⟨_, rfl, h⟩
/-- t * k, k from 0 on -/
def rRepZ (K : PySem.W.Frag) : R2 := fun x y H Q => ∃ l k xs, x = .ref l ∧ y = .int k ∧ SqT K H l xs ∧ xs ≠ [] ∧ 0 ≤ k ∧ k ≤ 1000 ∧ xs.length ≤ 1000 ∧ (k = 1 → Q (.ref l) H) ∧ (k ≠ 1 → ∀ p, H p = none → Q (.ref p) (upd H p (.tup (List.replicate k.toNat xs).flatten)))
theorem op_repZ {X : Cx} : OpR X (binaryOp .Mult) (rRepZ X.K) := by
  intro pins s σ H x y v u Q I rx ry h
  obtain ⟨l, k, xs, rfl, rfl, hT, hne, h1, h2, hz, q1, q2⟩ := h
  by_cases hk : 1 ≤ k
  · exact op_repU pins s σ H _ _ v u Q I rx ry ⟨l, k, xs, rfl, rfl, hT, hne, hk, h2, hz, q1, fun w => q2 (by omega)⟩
  obtain rfl : k = 0 := by omega
  cases rx
  obtain ⟨t, rfl⟩ := ry
  obtain ⟨its, r, ⟨⟨cls, dd, data, sl⟩, ho, hc, n, hd⟩, hs⟩ := I.tuple hT
  simp only at hc hd
  subst hc hd
  have he : its.toArray.isEmpty = false := by
    cases its with
    | nil => exact absurd (List.eq_nil_of_length_eq_zero r.length) hne
    | cons a b => rfl
  refine wpAny_binaryOp_repeat_ref (T := "tuple") (U := "int") (by decide) ⟨_, ho, rfl⟩ (fun s' => typeIs_int s' 0 t) noFill_tuple_mul F.fills_int_mul F.slot_int_rmul repeat_tuple F.slot_int_index.lookup ?_
  refine call_meets F.slot_int_rmul (typeIs_int s 0 t) F.entry_int_rmul (F.args_int_rmul_2 _ _) (int_rmul_tuple 0 t l its.toArray n dd sl) ⟨ho, rfl, ⟨_, ho, rfl⟩, ?_⟩
  refine call_meets F.slot_tuple_mul ⟨_, ho, rfl⟩ F.entry_tuple_mul (F.args_tuple_mul_2 _ _) (tuple_none l its.toArray n dd sl t he) ⟨ho, ?_⟩
  refine ⟨.ref s.heap.objs.size, _, I.laid (t' := s.toks) (o := .tup []) (fun b ob q => Heap.get?_push_of_some _ q) (Nat.le_refl _) ?_, rfl, q2 (by decide) _ (I.hok.fresh (Nat.le_refl _))⟩
  exact ⟨Nat.zero_le _, [], .nil, IsTup.new _ _⟩
end AL
set_option Elab.async false
set_option maxRecDepth 100000
set_option exponentiation.threshold 70000
set_option maxHeartbeats 1000000
namespace AL
open PySem PySem.Spec PyProof.Rows L2 RZ
section
variable {P : Program} {w : World} {K : PySem.W.Frag} {mg : Str → Option Value} {base : Heap}

theorem PolyAt.ins {CP : Addr} {H : Hp} {x : Addr} {n : Nat} {m : PM} (h : PolyAt CP H x n m) : InsAt H x CP := let ⟨dx, _, _, h1, _⟩ := h; ⟨dx, _, h1⟩
/-- room for sums of so many -/
structure Szs (D B len : Nat) : Prop where
  a : B * len * D < 2 ^ 5999
  b : B * D < 2 ^ 5999
  d : D < 2 ^ 5999
theorem flP_s (a b : V) : ([("size", a), ("terms", b)] : List (Str × V)).lookup ("size" : Str) = some a := rfl
theorem flP_t (a b : V) : ([("size", a), ("terms", b)] : List (Str × V)).lookup ("terms" : Str) = some b := rfl
theorem make_p {K : PySem.W.Frag} {CP : Addr} {H : Hp} {Q : VK} {E : XK} {n Em D B0 : Nat} {T : Addr} {k : Bool} {ts : List Addr} {l : PM} (hT : SqB K H T (ts.map V.ref) k) (ht : Paired (TermV K H) ts l) (pb : PB n Em D B0 l) (hn : n ≤ 80) (hE : Em ≤ 80) (few : l.length < 64) (z : Szs D B0 l.length)
    (kq : ∀ y H' m, Same H H' → PolyAt CP H' y n m → Can n Em D (B0 * l.length) m → m.length ≤ l.length → Eqp m l → Q (.ref y) H') : ∀ x dx, H x = none → H dx = none → dx ≠ x → spIniP K CP [.ref x, .int (n : Int), .ref T] (upd (upd H dx (.own x)) x (.ins CP dx [])) (fun v H2 => v = .non ∧ Q (.ref x) H2) E := by
  intro x dx h1 h2 h3
  have s0 : Same H (upd (upd H dx (.own x)) x (.ins CP dx [])) := fun b o e => by
    rw [upd_ne (ne_of_none e h1), upd_ne (ne_of_none e h2)]; exact e
  have sq : SqB K (upd (upd H dx (.own x)) x (.ins CP dx [])) T (ts.map V.ref) k := by
    cases k with
    | true => exact Same.seq s0 hT
    | false => exact seqT_same s0 hT
  refine ⟨x, dx, T, k, ts, n, Em, D, B0, l, rfl, upd_same, sq, paired_mono ht fun _ _ w => w.same s0, pb, hn, hE, few, z.a, z.b, z.d, fun T' ts' m H' kp hx hT' en can len eq => ⟨rfl, ?_⟩⟩
  exact kq x H' m (fun b o e => kp b o (ne_of_none e h1) (s0 b o e)) ⟨dx, T', ts', hx, hT', en⟩ can len eq

def spAddP (CP : Addr) : Sp := fun vs H Q _ => ∃ (x y : Addr) (n Em D B0 : Nat) (a b : PM), vs = [.ref x, .ref y] ∧ PolyAt CP H x n a ∧ PolyAt CP H y n b ∧ PB n Em D B0 a ∧ PB n Em D B0 b ∧ n ≤ 80 ∧ Em ≤ 80 ∧ a.length + b.length < 64 ∧ Szs D B0 (a.length + b.length) ∧
  ∀ z H' m, Same H H' → PolyAt CP H' z n m → Can n Em D (B0 * (a.length + b.length)) m → m.length ≤ a.length + b.length → Eqp m (a ++ b) → Q (.ref z) H'
def spSubP (CP : Addr) : Sp := fun vs H Q _ => ∃ (x y : Addr) (n Em D B0 : Nat) (a b : PM), vs = [.ref x, .ref y] ∧ PolyAt CP H x n a ∧ PolyAt CP H y n b ∧ PB n Em D B0 a ∧ PB n Em D B0 b ∧ n ≤ 80 ∧ Em ≤ 80 ∧ a.length + b.length < 64 ∧ Szs D (B0 * 63) (a.length + b.length) ∧
  ∀ z H' m, Same H H' → PolyAt CP H' z n m → Can n Em D (B0 * 63 * 64) m → m.length ≤ a.length + b.length → Eqp m (a ++ sclM (-1) b) → Q (.ref z) H'
def spNegP (CP : Addr) : Sp := fun vs H Q _ => ∃ (x : Addr) (n Em D B0 : Nat) (a : PM), vs = [.ref x] ∧ PolyAt CP H x n a ∧ PB n Em D B0 a ∧ n ≤ 80 ∧ Em ≤ 80 ∧ a.length < 64 ∧ Szs D B0 a.length ∧
  ∀ z H' m, Same H H' → PolyAt CP H' z n m → Can n Em D (B0 * a.length) m → m.length ≤ a.length → Eqp m (sclM (-1) a) → Q (.ref z) H'
theorem Szs.le {D B0 n k : Nat} (h : Szs D B0 n) (hk : k ≤ n) : Szs D B0 k := ⟨Nat.lt_of_le_of_lt (Nat.mul_le_mul_right _ (Nat.mul_le_mul_left _ hk)) h.a, h.b, h.d⟩
theorem ents_terms {K : PySem.W.Frag} {H : Hp} {n Em D B0 k : Nat} {ts : List Addr} {a : PM} (h : Paired (EntAt H) ts a) (pb : PB n Em D B0 a) (z : Szs D B0 k) : Paired (TermV K H) ts a := by
  have go : ∀ {ts : List Addr} {a : PM}, Paired (EntAt H) ts a → PB n Em D B0 a → Paired (TermV K H) ts a := by
    intro ts a h
    induction h with
    | nil => exact fun _ => .nil
    | cons r _ ih => exact fun p => .cons (r.term ((p _ (List.mem_cons_self ..)).2.2.mid (low6 z.b) (low6 z.d))) (ih fun q hq => p q (List.mem_cons_of_mem _ hq))
  exact go h pb
theorem prd_app {α β : Type} {R : α → β → Prop} {as cs : List α} {bs ds : List β} (h : Paired R as bs) (k : Paired R cs ds) : Paired R (as ++ cs) (bs ++ ds) := by
  induction h with
  | nil => exact k
  | cons r _ ih => exact .cons r ih

/-- the least exponents of all terms -/
def minE (s e : Ex) : Ex := List.zipWith min s e
def leastE : PM → Ex
  | [] => []
  | p :: r => r.foldl (fun s q => minE s q.1) p.1
def spNumP (CP : Addr) : Sp := fun vs H Q _ => ∃ (n : Nat), vs = [.int (n : Int), .int 1] ∧ n ≤ 80 ∧ ∀ z H' m, Same H H' → PolyAt CP H' z n m → Can n 0 1 1 m → Eqp m [(List.replicate n 0, 1)] → Q (.ref z) H'

theorem repZ_one {K : PySem.W.Frag} {H : Hp} {a : Addr} {x : V} {n : Nat} {Q : VK} (ha : H a = some (.tup [x])) (hn : n ≤ 1000) (k : ∀ c H', Same H H' → H' c = some (.tup (List.replicate n x)) → Q (.ref c) H') : rRepZ K (.ref a) (.int (n : Int)) H Q := by
  have fl : (List.replicate ((n : Int)).toNat [x]).flatten = List.replicate n x := by
    rw [Int.toNat_natCast, List.flatten_replicate_singleton]
  refine ⟨a, n, [x], rfl, rfl, SqT.of ha, by simp, by omega, by omega, by simp, fun z => ?_, fun _ p hp => ?_⟩
  · obtain rfl : n = 1 := by omega
    exact k a H (Same.refl _) ha
  · refine k p _ (AL.Same.new hp) ?_
    rw [upd_same, fl]
theorem sz_one : Sz 1 1 1 := ⟨by decide, 1, by decide, by decide +kernel⟩

abbrev stnumber_poly : Stmt := top 28
theorem scnumber_poly : FnScope ["size", "ratio"] ["size", "ratio"] (defScope stnumber_poly) := ⟨rfl, rfl, rfl, by decide +kernel, rfl, by decide +kernel, by decide +kernel⟩
theorem oknumber_poly (B : Blt mg) {CPoly CQuotient BZ BN BM UL fZ fN : Addr} {fdZ fdN : FuncData} (Es : ErP K mg CPoly CQuotient BZ BN BM UL fZ fN fdZ fdN) {flowest : Addr} {fdlowest : FuncData} (Dlowest : DefAt K mg "lowest" stlowest ["top", "bottom"] flowest fdlowest) {fas_ratio : Addr} {fdas_ratio : FuncData} (Das_ratio : DefAt K mg "as_ratio" stas_ratio ["value"] fas_ratio fdas_ratio) {fis_whole : Addr} {fdis_whole : FuncData} (Dis_whole : DefAt K mg "is_whole" stis_whole ["value"] fis_whole fdis_whole) {fare_integers : Addr} {fdare_integers : FuncData} (Dare_integers : DefAt K mg "are_integers" stare_integers ["items"] fare_integers fdare_integers) {fis_ratio : Addr} {fdis_ratio : FuncData} (Dis_ratio : DefAt K mg "is_ratio" stis_ratio ["value"] fis_ratio fdis_ratio) {fis_term : Addr} {fdis_term : FuncData} (Dis_term : DefAt K mg "is_term" stis_term ["term", "size"] fis_term fdis_term) {fratio_sum : Addr} {fdratio_sum : FuncData} (Dratio_sum : DefAt K mg "ratio_sum" stratio_sum ["one", "other"] fratio_sum fdratio_sum) {fP_init : Addr} {fdP_init : FuncData} (DP_init : IniA K "__init__" "Poly.__init__" stP_init ["self", "size", "terms"] CPoly fP_init fdP_init) {fnumber_poly : Addr} {fdnumber_poly : FuncData} (Dnumber_poly : DefAt K mg "number_poly" stnumber_poly ["size", "ratio"] fnumber_poly fdnumber_poly) : FnOk P w K mg base CX0 8 fnumber_poly fdnumber_poly ["size", "ratio"] (spNumP CPoly) := by
  have OKP_init : FnOk P w K mg base CX0 5 fP_init fdP_init ["self", "size", "terms"] (spIniP K CPoly) := okP_init B Es Dlowest Das_ratio Dis_whole Dare_integers Dis_ratio Dis_term Dratio_sum DP_init
  refine Dnumber_poly.F.ok scnumber_poly (fun vs H Q E h => ?_) (fun cdv A outer s H vs Q E hr h => ?_)
  · obtain ⟨n, rfl, _⟩ := h; rfl
  · have hu := hu_of hr
    refine ⟨_, (pss_one (ps_ret (pe_make DP_init.M OKP_init (hr.mono (by decide)) rfl Es.mP DP_init.b .nil pass0 (pa_cons (pv 0) (pa_cons (pe_lst (pa_cons (pe_tup (pa_cons (pe_op op_repZ (pe_tup (pa_cons pe_int pa_nil)) (pv 0)) (pa_cons (pv 1) pa_nil))) pa_nil)) pa_nil))))), ?_⟩
    obtain ⟨n, rfl, hn, q⟩ := h
    refine ⟨_, rfl, (by show 1 ≤ sizeLine; decide), fun z hz => ?_⟩
    have nz := AL.Same.new (o := .tup [.int 0]) hz
    refine ⟨_, rfl, ?_⟩
    refine repZ_one upd_same (by omega) fun c H1 s1 hc => ?_
    refine ⟨_, rfl, (by show 2 ≤ sizeLine; decide), fun t ht => ?_⟩
    have nt := AL.Same.new (o := .tup [.ref c, .int 1]) ht
    refine ⟨(by show 1 ≤ sizeLine; decide), fun l hl => ?_⟩
    have nl := AL.Same.new (o := .lst [.ref t]) hl
    have sA := ((nz.trans s1).trans nt).trans nl
    have hk : KeyAt H1 c (List.replicate n 0) := by
      unfold KeyAt ki
      rw [List.map_replicate, List.map_replicate]
      exact hc
    have tv : TermV K (upd (upd H1 t (.tup [.ref c, .int 1])) l (.lst [.ref t])) t (List.replicate n 0, 1) := ⟨c, .int 1, 1, 1, nl _ _ upd_same, (nt.trans nl) _ _ hk, .int 1, ⟨by decide, by decide +kernel, by decide +kernel⟩, (by decide +kernel : mkRat 1 1 = 1)⟩
    have pb : PB n 0 1 1 [(List.replicate n 0, (1 : Rat))] := fun p hp => by
      rw [List.mem_singleton] at hp
      rw [hp]
      exact ⟨List.length_replicate .., fun k hk => Nat.le_of_eq (List.eq_of_mem_replicate hk), sz_one⟩
    have zz : Szs 1 1 ([(List.replicate n 0, (1 : Rat))] : PM).length := ⟨(by decide +kernel : 1 * 1 * 1 < 2 ^ 5999), by decide +kernel, by decide +kernel⟩
    exact make_p (k := true) (ts := [t]) (l := [(List.replicate n 0, 1)]) (SqL.of upd_same) (.cons tv .nil) pb hn (by decide) (by show 1 < 64; decide) zz fun y H' m s p c' l' e => q y H' m (sA.trans s) p c' e
end
end AL
set_option Elab.async false
set_option linter.all false
set_option maxRecDepth 100000
set_option maxHeartbeats 2000000
/-! zip(a, b), each of them a list or a tuple. -/
namespace AL
open PySem PySem.Spec PyProof.Rows L2
def itB (h : Heap) (it a : Addr) (i : Nat) : Bool → Prop
  | true => h.IsListIter it a i
  | false => h.IsTupleIter it a i
def sqB (h : Heap) (a : Addr) (its : Array Value) : Bool → Prop
  | true => h.IsList a its
  | false => h.IsTuple a its
theorem drawsB {prog : Program} {w : World} {A : Around} (hh : A.handled = none) (k : Bool) (it a : Addr) (ne : a ≠ it) (its : Array Value) : Draws prog w A it [it, a] its.size (fun i v => its[i]? = some v) (fun i h => itB h it a i k ∧ sqB h a its k) := by
  cases k with
  | true => exact Draws.list hh it a ne its
  | false => exact Draws.tuple hh it a ne its
theorem itB_obj {h : Heap} {it a : Addr} {i : Nat} {k : Bool} (z : itB h it a i k) : ∃ o, h.get? it = some o ∧ ∀ v, o.data ≠ .cell v := by
  cases k with
  | true => obtain ⟨o, e1, _, e2⟩ := z; exact ⟨o, e1, fun v q => by rw [e2] at q; cases q⟩
  | false => obtain ⟨o, e1, _, e2⟩ := z; exact ⟨o, e1, fun v q => by rw [e2] at q; cases q⟩
theorem itB_at {h h' : Heap} {it a : Addr} {i : Nat} {k : Bool} (z : itB h it a i k) (e : ∀ o, h.get? it = some o → h'.get? it = some o) : itB h' it a i k := by
  cases k with
  | true => exact Heap.IsListIter.at z e
  | false => exact Heap.IsTupleIter.at z e
theorem SqB.raw {X : Cx} {pins : List (Addr × Obj)} {σ : L2.St} {H : Hp} {s : Shared} {a : Addr} {xs : List V} {k : Bool} (I : Inv X pins σ H s) (h : SqB X.K H a xs k) : ∃ its : List Value, Vals xs its ∧ sqB s.heap a its.toArray k ∧ a < s.heap.objs.size := by
  cases k with
  | true =>
    obtain ⟨its, rv, p, _⟩ := I.list h
    exact ⟨its, rv, p.isList, p.lt⟩
  | false =>
    obtain ⟨its, rv, p, _⟩ := I.tuple h
    obtain ⟨o, g, _⟩ := id p
    exact ⟨its, rv, p, Heap.lt_size g⟩
theorem SqB.inj {X : Cx} {pins : List (Addr × Obj)} {σ : L2.St} {H : Hp} {s : Shared} {a : Addr} {xs ys : List V} {k : Bool} (I : Inv X pins σ H s) (h : SqB X.K H a xs k) (g : SqB X.K H a ys k) : xs = ys := by
  cases k with
  | true => exact I.list_inj h g
  | false => exact I.tuple_inj h g
def ItzB (K : PySem.W.Frag) (a b : Addr) (k l : Bool) : It :=
  ⟨fun i H => ∃ (xs ys : List V) (x y : V), SqB K H a xs k ∧ SqB K H b ys l ∧ xs[i]? = some x ∧ ys[i]? = some y,
    fun i H v H' => ∃ T x y, v = .ref T ∧ H T = none ∧ H' = upd H T (.tup [x, y]) ∧ (∀ xs, SqB K H a xs k → xs[i]? = some x) ∧ ∀ ys, SqB K H b ys l → ys[i]? = some y,
    fun i H => ∃ xs ys : List V, SqB K H a xs k ∧ SqB K H b ys l ∧ i ≤ xs.length ∧ i ≤ ys.length ∧ (xs.length = i ∨ ys.length = i)⟩
theorem turn_zipB {P : Program} {w : World} {K : PySem.W.Frag} {elts : List Expr} {kk : Nat} {tpos : Pos} {a b z TI TO i1 i2 : Addr} {k l : Bool} (S : ZipSep2 z TI TO i1 i2 [i1, a] [i2, b]) (n1 : a ≠ i1) (n2 : b ≠ i2) :
    Turn P w K (.Tuple elts kk tpos) (ItzB K a b k l) [z, TI, TO, i1, i2] z (fun i h => IsZip h z TI TO .none ∧ IsTupOf2 h TI (.ref i1) (.ref i2) ∧ (∃ x y, IsTupOf2 h TO x y) ∧ itB h i1 a i k ∧ itB h i2 b i l) where
  mem := by simp
  obj := fun i h st c hc => by
    obtain ⟨hz, hTI, ⟨x, y, hTO⟩, g1, g2⟩ := st
    have m : c = z ∨ c = TI ∨ c = TO ∨ c = i1 ∨ c = i2 := by simpa using hc
    rcases m with q | q | q | q | q
    · rw [q]; exact ⟨_, hz, fun v q => nomatch q⟩
    · rw [q]; exact ⟨_, hTI, fun v q => nomatch q⟩
    · rw [q]; exact ⟨_, hTO, fun v q => nomatch q⟩
    · rw [q]; exact itB_obj g1
    · rw [q]; exact itB_obj g2
  keep := fun i h h' st kp => by
    obtain ⟨hz, hTI, ⟨x, y, hTO⟩, g1, g2⟩ := st
    exact ⟨kp z (by simp) _ hz, kp TI (by simp) _ hTI, ⟨x, y, kp TO (by simp) _ hTO⟩, itB_at g1 fun o q => kp i1 (by simp) o q, itB_at g2 fun o q => kp i2 (by simp) o q⟩
  item := by
    intro X hP hw hK hc i pins s σ H E I hf st hg
    subst hP hw hK
    obtain ⟨hz, hTI, ⟨x0, y0, hTO⟩, g1, g2⟩ := st
    obtain ⟨xs, ys, x, y, hqx, hqy, hx, hy⟩ := hg
    obtain ⟨its, rv, p, _⟩ := hqx.raw I
    obtain ⟨jts, rw2, p2, _⟩ := hqy.raw I
    obtain ⟨u, hu, ru⟩ := rv.get hx
    obtain ⟨v, hv, ru2⟩ := rw2.get hy
    have hzl : z < s.heap.objs.size := Heap.lt_size hz
    have lu : i < its.toArray.size := by have := (List.getElem?_eq_some_iff.mp hu).1; simpa using this
    have lv : i < jts.toArray.size := by have := (List.getElem?_eq_some_iff.mp hv).1; simpa using this
    refine wpAny_pyNext_zipD2_item S (drawsB (prog := X.prog) (w := X.w) (A := X.A.in1) (I.ok.hd hc) k i1 a n1 its.toArray) (drawsB (prog := X.prog) (w := X.w) (A := X.A.in1) (I.ok.hd hc) l i2 b n2 jts.toArray) hz hTI hTO ⟨g1, p⟩ ⟨g2, p2⟩ lu lv fun u1 v1 h' tk e1 e2 z' TO' st1 st2 hT hsz hk => ?_
    have eu : u1 = u := by
      have w : its.toArray[i]? = some u := by simpa using hu
      exact (Option.some.inj (w.symm.trans e1)).symm
    have ev : v1 = v := by
      have w : jts.toArray[i]? = some v := by simpa using hv
      exact (Option.some.inj (w.symm.trans e2)).symm
    subst eu ev
    refine ⟨_, rfl, wpAny_letOwnedTupleGo_zip (s := { s with heap := h', toks := tk }) z' fun h'' z'' sb => ?_⟩
    have hT2 : h''.get? s.heap.objs.size = some { cls := .type "tuple", data := .seq #[u1, v1] } := (sb.2 _ (Nat.ne_of_gt hzl)).trans hT
    have new : ObjOk X.prog X.w (upd H s.heap.objs.size (.tup [x, y])) h'' s.heap.objs.size (.tup [x, y]) :=
      ⟨by show 2 ≤ sizeLine; decide, [u1, v1], .cons ru (.cons ru2 .nil), ⟨_, hT2, rfl, _, rfl⟩⟩
    have I1 : Inv X pins σ (upd H s.heap.objs.size (.tup [x, y])) { s with heap := h'', toks := tk } :=
      I.turnedNew (t' := tk) (ch := [z, TI, TO, i1, i2]) (fun c o hb q => (sb.2 c (fun w => hb (by simp [w]))).trans (hk c o (fun w => hb (by simp [w])) (fun w => hb (by simp [w])) (fun w => hb (by simp [w])) (fun w => hb (by simp [w])) q)) hf (Nat.le_refl _) new
    refine ⟨.ref s.heap.objs.size, _, I1, rfl, ⟨_, x, y, rfl, I.hok.fresh (Nat.le_refl _), rfl, fun q hq => by rw [hq.inj I hqx]; exact hx, fun q hq => by rw [hq.inj I hqy]; exact hy⟩, ⟨z'', ?_, ⟨u1, v1, ?_⟩, ?_, ?_⟩, fun c hcm => ?_⟩
    · exact (sb.2 _ S.TIz).trans (hk _ _ S.TIz S.TITO S.TIi1 S.TIi2 hTI)
    · exact (sb.2 _ S.TOz).trans TO'
    · exact itB_at st1.1 fun o q => (sb.2 _ (fun w => S.zf1 (by rw [← w]; simp))).trans q
    · exact itB_at st2.1 fun o q => (sb.2 _ (fun w => S.zf2 (by rw [← w]; simp))).trans q
    · have lt : c < s.heap.objs.size := by
        have m : c = z ∨ c = TI ∨ c = TO ∨ c = i1 ∨ c = i2 := by simpa using hcm
        rcases m with q | q | q | q | q
        · rw [q]; exact hzl
        · rw [q]; exact Heap.lt_size hTI
        · rw [q]; exact Heap.lt_size hTO
        · rw [q]; obtain ⟨_, w, _⟩ := itB_obj g1; exact Heap.lt_size w
        · rw [q]; obtain ⟨_, w, _⟩ := itB_obj g2; exact Heap.lt_size w
      rw [upd_ne (Nat.ne_of_lt lt)]
      exact (hf c hcm).1
  done := by
    intro X hP hw hK hc i pins s σ H E I hf st hg
    subst hP hw hK
    obtain ⟨hz, hTI, ⟨x0, y0, hTO⟩, g1, g2⟩ := st
    obtain ⟨xs, ys, hqx, hqy, le1, le2, hend⟩ := hg
    obtain ⟨its, rv, p, _⟩ := hqx.raw I
    obtain ⟨jts, rw2, p2, _⟩ := hqy.raw I
    have l1 := rv.length
    have l2 := rw2.length
    refine wpAny_pyNext_zipD2_end S (drawsB (prog := X.prog) (w := X.w) (A := X.A.in1) (I.ok.hd hc) k i1 a n1 its.toArray) (drawsB (prog := X.prog) (w := X.w) (A := X.A.in1) (I.ok.hd hc) l i2 b n2 jts.toArray) hz hTI hTO ⟨g1, p⟩ ⟨g2, p2⟩ (by simp; omega) (by simp; omega) (by simp; omega) fun h' tk hk => ⟨rfl, ?_⟩
    exact I.turnedL (t' := tk) (ch := [z, TI, TO, i1, i2]) (fun c o hb q => hk c o (fun w => hb (by simp [w])) (fun w => hb (by simp [w])) (fun w => hb (by simp [w])) (fun w => hb (by simp [w])) q) hf
  self := fun A i s Q E st h => wpAny_pyIter_zip st.1 h
theorem beginsB (k : Bool) (a : Addr) (its : Array Value) : ∃ o, Begins (.ref a) o (fun h => sqB h a its k) ∧ ∀ (h : Heap) (it : Addr), h.get? it = some o → itB h it a 0 k := by
  cases k with
  | true => exact ⟨_, begins_list a its, fun h it e => ⟨_, e, rfl, rfl⟩⟩
  | false => exact ⟨_, begins_tuple a its, fun h it e => ⟨_, e, rfl, rfl⟩⟩
def iZipB (K : PySem.W.Frag) (ta : TA) : TI := fun σ H R => ta σ H fun vs H1 => ∃ a b k l xs ys, vs = [.ref a, .ref b] ∧ SqB K H1 a xs k ∧ SqB K H1 b ys l ∧ R (ItzB K a b k l) H1
theorem pi_zipB {X : Cx} {e e2 : Expr} {ta : TA} {p pos tpos : Pos} {elts : List Expr} {kk : Nat} (hg : Gl X "zip") (hm : X.mg "zip" = none) (ha : PA X [e, e2] ta)
    (hs : starEach [e, e2] X.env = (false, eval e X.env) :: starEach [e2] X.env := by rfl) (hpl : (backTo pos (starEach [e2] X.env)).any (·.1) = false := by rfl) :
    PI X (.Tuple elts kk tpos) (.Call (.Name "zip" p) [e, e2] [] pos) (iZipB X.K ta) := by
  refine ⟨fun pins s σ H R I h => ?_⟩
  refine Call_ (ld_blt I hg hm PyProof.Rows.boot_zip (PyProof.Rows.callWith_type1 (thn (ha.run pos pins s σ H _ I h) fun us s1 ⟨vs, H1, I1, r1, q1⟩ => ?_) hs hpl))
  obtain ⟨a, b, k, l, xs, ys, ex, hqx, hqy, q⟩ := q1
  subst ex
  cases r1 with
  | cons r rr =>
  cases rr with
  | cons r' rr =>
  cases rr
  cases r
  cases r'
  obtain ⟨its, rv, p1, la⟩ := hqx.raw I1
  obtain ⟨jts, rw2, p2, lb⟩ := hqy.raw I1
  obtain ⟨o1, B1, s1i⟩ := beginsB k a its.toArray
  obtain ⟨o2, B2, s2i⟩ := beginsB l b jts.toArray
  refine zip_begins2 B1 B2 p1 p2 fun h' hz hTI hTO hi1 hi2 hsz hk => wpAny_pyIter_zip hz ?_
  have I2 : Inv X pins σ H1 { s1 with heap := h' } := I1.kept (t' := s1.toks) hk
  have S := zip_sep2 (N := s1.heap.objs.size) (fp1 := [a]) (fp2 := [b]) (fun c hc => by rw [List.mem_singleton.mp hc]; exact la) (fun c hc => by rw [List.mem_singleton.mp hc]; exact lb)
  have fresh5 : ∀ c, c ∈ [s1.heap.objs.size + 4, s1.heap.objs.size + 2, s1.heap.objs.size + 3, s1.heap.objs.size, s1.heap.objs.size + 1] → FpOk X pins H1 c := fun c hcm => by
    have m : c = s1.heap.objs.size + 4 ∨ c = s1.heap.objs.size + 2 ∨ c = s1.heap.objs.size + 3 ∨ c = s1.heap.objs.size ∨ c = s1.heap.objs.size + 1 := by simpa using hcm
    have le : s1.heap.objs.size ≤ c := by
      rcases m with z | z | z | z | z <;> rw [z]
      · exact Nat.le_add_right _ _
      · exact Nat.le_add_right _ _
      · exact Nat.le_add_right _ _
      · exact Nat.le_refl _
      · exact Nat.le_add_right _ _
    exact I1.fpOk le (I1.hok.fresh le)
  exact ⟨s1.heap.objs.size + 4, [s1.heap.objs.size + 4, s1.heap.objs.size + 2, s1.heap.objs.size + 3, s1.heap.objs.size, s1.heap.objs.size + 1], _, _, H1, rfl, I2, turn_zipB S (Nat.ne_of_lt la) (Nat.ne_of_lt (Nat.lt_succ_of_lt lb)), ⟨hz, hTI, ⟨_, _, hTO⟩, s1i _ _ hi1, s2i _ _ hi2⟩, fresh5, q⟩
theorem walk_zipB {K : PySem.W.Frag} {a b : Addr} {k l : Bool} {xs ys : List V} {n : Nat} (hn : n = min xs.length ys.length) : Walk (ItzB K a b k l) n (fun H => SqB K H a xs k ∧ SqB K H b ys l) (YPair (fun i => xs[i]?) (fun i => ys[i]?)) := by
  subst hn
  refine ⟨fun i _ hi q => ?_, fun _ q => ⟨xs, ys, q.1, q.2, by omega, by omega, by omega⟩, fun i H v H' _ q y => ?_⟩
  · exact ⟨xs, ys, xs[i], ys[i], q.1, q.2, by simp [show i < xs.length by omega], by simp [show i < ys.length by omega]⟩
  · obtain ⟨T, x, z, g1, g2, g3, g4, g5⟩ := y
    exact ⟨T, x, z, g1, g2, g3, g4 xs q.1, g5 ys q.2⟩
end AL
set_option Elab.async false
set_option maxRecDepth 100000
set_option exponentiation.threshold 70000
set_option maxHeartbeats 1000000
namespace AL
open PySem PySem.Spec PyProof.Rows L2 RZ
section
variable {P : Program} {w : World} {K : PySem.W.Frag} {mg : Str → Option Value} {base : Heap}

theorem minE_getD {s e : Ex} (h : s.length = e.length) (j : Nat) : (minE s e).getD j 0 = min (s.getD j 0) (e.getD j 0) := by
  unfold minE
  rw [List.getD_eq_getElem?_getD, List.getD_eq_getElem?_getD, List.getD_eq_getElem?_getD, List.getElem?_zipWith]
  by_cases hj : j < s.length
  · rw [List.getElem?_eq_getElem hj, List.getElem?_eq_getElem (by omega : j < e.length)]
    rfl
  · rw [List.getElem?_eq_none (by omega), List.getElem?_eq_none (by omega : e.length ≤ j)]
    rfl
def foldE (e0 : Ex) (a : PM) : Ex := a.foldl (fun s q => minE s q.1) e0
theorem foldE_take {e0 : Ex} {a : PM} {i : Nat} {p : Ex × Rat} (h : a[i]? = some p) : foldE e0 (a.take (i + 1)) = minE (foldE e0 (a.take i)) p.1 := by
  unfold foldE
  rw [List.take_add_one, h, List.foldl_append]
  rfl
theorem foldE_len {n : Nat} : ∀ {a : PM} {e0 : Ex}, e0.length = n → (∀ p ∈ a, p.1.length = n) → (foldE e0 a).length = n
  | [], _, h, _ => h
  | p :: r, e0, h, k => by
    show (foldE (minE e0 p.1) r).length = n
    refine foldE_len ?_ fun q hq => k q (List.mem_cons_of_mem _ hq)
    unfold minE
    rw [List.length_zipWith, h, k p (List.mem_cons_self ..), Nat.min_self]
theorem foldE_le {n : Nat} : ∀ {a : PM} {e0 : Ex}, e0.length = n → (∀ p ∈ a, p.1.length = n) → ∀ j : Nat, (foldE e0 a).getD j 0 ≤ e0.getD j 0 ∧ ∀ p ∈ a, (foldE e0 a).getD j 0 ≤ p.1.getD j 0
  | [], _, _, _, _ => ⟨Nat.le_refl _, fun p hp => nomatch hp⟩
  | p :: r, e0, h, k, j => by
    have hp := k p (List.mem_cons_self ..)
    have lm : (minE e0 p.1).length = n := by unfold minE; rw [List.length_zipWith, h, hp, Nat.min_self]
    obtain ⟨h1, h2⟩ := foldE_le lm (fun q hq => k q (List.mem_cons_of_mem _ hq)) j
    have e : foldE e0 (p :: r) = foldE (minE e0 p.1) r := rfl
    rw [minE_getD (by omega)] at h1
    rw [e]
    refine ⟨by omega, fun q hq => ?_⟩
    rcases List.mem_cons.mp hq with rfl | hq
    · omega
    · exact h2 q hq
theorem ki_get {e : Ex} {i : Nat} {z : Int} (h : (ki e)[i]? = some z) : ∃ f : Nat, e[i]? = some f ∧ z = (f : Int) := by
  unfold ki at h
  rw [List.getElem?_map] at h
  cases w : e[i]? with
  | none => rw [w] at h; cases h
  | some f => rw [w] at h; cases h; exact ⟨f, rfl, rfl⟩
/-- some term has it: at each place one has just the least -/
theorem foldE_at {n : Nat} : ∀ {a : PM} {e0 : Ex}, e0.length = n → (∀ p ∈ a, p.1.length = n) → ∀ j : Nat, (foldE e0 a).getD j 0 = e0.getD j 0 ∨ ∃ p ∈ a, (foldE e0 a).getD j 0 = p.1.getD j 0
  | [], _, _, _, _ => .inl rfl
  | p :: r, e0, h, k, j => by
    have hp := k p (List.mem_cons_self ..)
    have lm : (minE e0 p.1).length = n := by unfold minE; rw [List.length_zipWith, h, hp, Nat.min_self]
    have e : foldE e0 (p :: r) = foldE (minE e0 p.1) r := rfl
    rw [e]
    rcases foldE_at lm (fun q hq => k q (List.mem_cons_of_mem _ hq)) j with w | ⟨q, hq, w⟩
    · rw [minE_getD (by omega)] at w
      by_cases z : e0.getD j 0 ≤ p.1.getD j 0
      · exact .inl (by omega)
      · exact .inr ⟨p, List.mem_cons_self .., by omega⟩
    · exact .inr ⟨q, List.mem_cons_of_mem _ hq, w⟩
def spLeast (K : PySem.W.Frag) : Sp := fun vs H Q _ => ∃ (T : Addr) (ts : List Addr) (a : PM) (n : Nat), vs = [.ref T] ∧ H T = some (.tup (ts.map V.ref)) ∧ Paired (EntAt H) ts a ∧ a ≠ [] ∧ (∀ p ∈ a, p.1.length = n) ∧ n ≤ 80 ∧ a.length < 200 ∧
  ∀ l H' (s : Ex), Same H H' → H' l = some (.lst ((ki s).map V.int)) → s.length = n → (∀ j : Nat, (∀ p ∈ a, s.getD j 0 ≤ p.1.getD j 0) ∧ ∃ p ∈ a, s.getD j 0 = p.1.getD j 0) → Q (.ref l) H'

abbrev stleast_exponents : Stmt := top 30
theorem scleast_exponents : FnScope ["terms", "least", "exponents", "ratio", "a", "b"] ["terms"] (defScope stleast_exponents) := ⟨rfl, rfl, rfl, by decide +kernel, rfl, by decide +kernel, by decide +kernel⟩
theorem okleast_exponents (B : Blt mg)  {fleast_exponents : Addr} {fdleast_exponents : FuncData} (Dleast_exponents : DefAt K mg "least_exponents" stleast_exponents ["terms"] fleast_exponents fdleast_exponents) : FnOk P w K mg base CX0 1 fleast_exponents fdleast_exponents ["terms"] (spLeast K) := by
  refine Dleast_exponents.F.ok scleast_exponents (fun vs H Q E h => ?_) (fun cdv A outer s H vs Q E hr h => ?_)
  · obtain ⟨T, ts, a, n, rfl, _⟩ := h; rfl
  · have hu := hu_of hr
    refine ⟨_, (pss_cons (ps_set (i := 1) scleast_exponents.nd rfl (Or.inl rfl) (pe_callTy call_list_of (by rfl) B.list_ (by decide +kernel) (pa_cons (pe_ix ix_tup (pe_ix ix_tup (pv 0) pe_int (fun _ _ => rfl)) pe_int (fun _ _ => rfl)) pa_nil)))
    (pss_cons (ps_for PassesOwn.never rfl (pi_tup (pv 0)) (pg_tup rfl (pgs_cons (pg_name (i := 2) scleast_exponents.nd rfl (Or.inl rfl)) (pgs_cons (pg_name (i := 3) scleast_exponents.nd rfl (Or.inl rfl)) pgs_nil)))
      (pss_one (ps_setLc (i := 1) (own := [("a", 4), ("b", 5)]) (g := gTup K 2 (gCons (gName 4) (gCons (gName 5) gNil))) (tt := tYes) rfl scleast_exponents.nd rfl rfl (sw_true rfl rfl rfl (by decide +kernel)) (pi_zipB (by rfl) B.zip_ (pa_cons (pv 1) (pa_cons (pv 2) pa_nil))) (blkOk_by (own := [("a", 4), ("b", 5)]) (N := ["terms", "least", "exponents", "ratio", "a", "b"]) (sc := defScope stleast_exponents) (by decide +kernel)) (fun _ _ _ _ _ => (pg_tup rfl (pgs_cons (pg_name (i := 4) scleast_exponents.nd rfl (Or.inl rfl)) (pgs_cons (pg_name (i := 5) scleast_exponents.nd rfl (Or.inl rfl)) pgs_nil)))) (fun _ _ _ _ _ => pts_nil) (fun _ _ _ _ _ => (pe_callB (call_min2 rfl) (by rfl) B.min_ (by decide +kernel) (pa_cons (pv 4) (pa_cons (pv 5) pa_nil)))))))
    (pss_one (ps_ret (pv 1))))), ?_⟩
    obtain ⟨T, ts, a, n, rfl, hT, en, ne, ln, hn, few, q⟩ := h
    have la := prd_len en
    obtain ⟨p0, ha0⟩ : ∃ p, a[0]? = some p := by
      cases a with
      | nil => exact absurd rfl ne
      | cons p r => exact ⟨p, rfl⟩
    obtain ⟨b0, hb0⟩ : ∃ b, ts[0]? = some b := ⟨ts[0]'(by have := (List.getElem?_eq_some_iff.mp ha0).1; omega), List.getElem?_eq_getElem _⟩
    obtain ⟨p0', ha0', ent0⟩ := prd_get en hb0
    rw [ha0] at ha0'
    cases Option.some.inj ha0'
    obtain ⟨k0, r0, hb, hk, hr⟩ := ent0
    refine ⟨_, rfl, T, _, _, _, rfl, rfl, SqT.of hT, (by rw [show (0 : Int) = ((0 : Nat) : Int) from rfl]; exact atI_nat (by rw [List.getElem?_map, hb0]; rfl)), b0, _, _, _, rfl, rfl, SqT.of hb, rfl, k0, _, rfl, .inr (SqT.of hk), fun l0 hl0 => ?_⟩
    have n0 := AL.Same.new (o := .lst ((ki p0.1).map V.int)) hl0
    have m0 := List.mem_of_getElem? ha0
    have len0 := ln p0 m0
    refine ⟨_, rfl, T, rfl, ⟨_, SqT.of (n0 _ _ hT)⟩, for_tup (K := K) (a := T) (xs := ts.map V.ref) (fun i σ H' => ∃ (v2 v3 : Option V) (l : Addr), σ = [some (.ref T), some (.ref l), v2, v3, none, none] ∧ Same H H' ∧ H' l = some (.lst ((ki (foldE p0.1 (a.take i))).map V.int))) ⟨none, none, l0, rfl, n0, upd_same⟩ (fun i σ H' _ hh => let ⟨_, _, _, _, s, _⟩ := hh; SqT.of (s _ _ hT)) ?_ ?_⟩
    · rintro i y σ H1 hy ⟨v2, v3, l, rfl, s1, hl⟩
      obtain ⟨b, hb1, rfl⟩ := map_ref hy
      obtain ⟨p, hp, ent⟩ := prd_get en hb1
      obtain ⟨k1, r1, g1, g2, g3⟩ := ent.same s1
      have lp := ln p (List.mem_of_getElem? hp)
      have lf := foldE_len (a := a.take i) len0 fun q hq => ln q (List.mem_of_mem_take hq)
      refine ⟨b, _, rfl, SqT.of g1, rfl, _, _, rfl, _, _, rfl, rfl, ?_⟩
      refine ⟨_, rfl, _, rfl, l, k1, true, false, _, _, rfl, SqL.of hl, SqT.of g2, fun D hD => ?_⟩
      refine lc_it (walk_zipB (K := K) (a := l) (b := k1) (k := true) (l := false) (xs := (ki (foldE p0.1 (a.take i))).map V.int) (ys := (ki p.1).map V.int) (n := n) (by rw [List.length_map, List.length_map, len_ki, len_ki]; omega)) (fun i2 H' => Same H1 H' ∧ H' D = some (.lst ((ki ((minE (foldE p0.1 (a.take i)) p.1).take i2)).map V.int))) ⟨AL.Same.new hD, upd_same⟩ (fun i2 H' _ hh => ⟨SqL.of (hh.1 _ _ hl), SqT.of (hh.1 _ _ g2)⟩) ?_ ?_
      · rintro i2 x0 H0 H1' hi ⟨s0, hd0⟩ ⟨T0, u1, u2, rfl, hT0, rfl, e1, e2⟩
        obtain ⟨z1, c1, rfl⟩ := map_int e1
        obtain ⟨z2, c2, rfl⟩ := map_int e2
        obtain ⟨f1, d1, rfl⟩ := ki_get c1
        obtain ⟨f2, d2, rfl⟩ := ki_get c2
        have hDT : D ≠ T0 := fun z => by rw [z, hT0] at hd0; cases hd0
        have sT : Same H1 (upd H0 T0 (.tup [.int (f1 : Int), .int (f2 : Int)])) := s0.trans (AL.Same.new hT0)
        refine ⟨T0, _, rfl, SqT.of upd_same, rfl, _, _, rfl, _, _, rfl, rfl, rfl, ?_⟩
        refine ⟨_, rfl, _, rfl, _, _, rfl, _, Eq.trans (upd_ne hDT) hd0, ?_, AL.Same.updn sT hD, ?_⟩
        · rw [List.length_map, len_ki, List.length_take]
          exact Nat.lt_of_le_of_lt (by omega : _ ≤ 100) (by decide)
        · have me : (minE (foldE p0.1 (a.take i)) p.1)[i2]? = some (min f1 f2) := by
            unfold minE
            rw [List.getElem?_zipWith, d1, d2]
          have mi : (if (f2 : Int) < (f1 : Int) then (f2 : Int) else (f1 : Int)) = ((min f1 f2 : Nat) : Int) := by
            split <;> omega
          rw [upd_same, List.take_add_one, me, mi]
          unfold ki
          rw [List.map_append, List.map_append]
          rfl
      · rintro H3 ⟨s3, hd3⟩
        refine ⟨_, _, D, rfl, s1.trans s3, ?_⟩
        rw [List.take_of_length_le (by unfold minE; rw [List.length_zipWith]; omega)] at hd3
        rw [foldE_take hp]
        exact hd3
    · rintro σ H1 ⟨v2, v3, l, rfl, s1, hl⟩
      rw [List.length_map, la, List.take_length] at hl
      refine ⟨_, rfl, q l H1 _ s1 hl (foldE_len len0 ln) fun j => ⟨(foldE_le len0 ln j).2, ?_⟩⟩
      rcases foldE_at len0 ln j with w | w
      · exact ⟨p0, m0, w⟩
      · exact w
end
end AL
set_option Elab.async false
set_option maxRecDepth 100000
set_option exponentiation.threshold 70000
set_option maxHeartbeats 1000000
namespace AL
open PySem PySem.Spec PyProof.Rows L2 RZ
section
variable {P : Program} {w : World} {K : PySem.W.Frag} {mg : Str → Option Value} {base : Heap}
def lcmD : List Rat → Nat := fun xs => xs.foldl (fun s x => Nat.lcm s x.den) 1
theorem lcm_fold : ∀ (xs : List Rat) (s : Nat), 0 < s → 0 < xs.foldl (fun s x => Nat.lcm s x.den) s ∧ s ∣ xs.foldl (fun s x => Nat.lcm s x.den) s ∧ (∀ x ∈ xs, x.den ∣ xs.foldl (fun s x => Nat.lcm s x.den) s) ∧ ∀ D, s ∣ D → (∀ x ∈ xs, x.den ∣ D) → xs.foldl (fun s x => Nat.lcm s x.den) s ∣ D
  | [], s, h => ⟨h, Nat.dvd_refl _, (fun x hx => nomatch hx), fun D h _ => h⟩
  | y :: r, s, h => by
    obtain ⟨h1, h2, h3, h4⟩ := lcm_fold r (Nat.lcm s y.den) (Nat.lcm_pos h (low_rat y).1)
    refine ⟨h1, Nat.dvd_trans (Nat.dvd_lcm_left _ _) h2, fun x hx => ?_, fun D hs hx => h4 D (Nat.lcm_dvd hs (hx y (List.mem_cons_self ..))) fun x m => hx x (List.mem_cons_of_mem _ m)⟩
    rcases List.mem_cons.mp hx with rfl | hx
    · exact Nat.dvd_trans (Nat.dvd_lcm_right _ _) h2
    · exact h3 x hx
theorem sz_dvd {D B : Nat} {x : Rat} (h : Sz D B x) : x.den ∣ D := by
  obtain ⟨h0, X, hX, e⟩ := h
  obtain ⟨n, d, z, c⟩ := x
  obtain ⟨m, m0, e1, e2⟩ := Rat.mkRat_num_den (by omega) e.symm
  exact ⟨m, e2⟩
/-- common_bottom(ratios) -/
def spCB : Sp := fun vs H Q _ => ∃ (a : Addr) (rs : List Addr) (xs : List Rat) (D : Nat), vs = [.ref a] ∧ H a = some (.lst (rs.map V.ref)) ∧ Paired (RQ H) rs xs ∧ 0 < D ∧ D < 2 ^ 6000 ∧ (∀ x ∈ xs, x.den ∣ D) ∧ Q (.int (lcmD xs : Int)) H

def gcdN : PM → Nat := fun a => a.foldl (fun s p => Nat.gcd s p.2.num.natAbs) 0
theorem gcd_take {a : PM} {i : Nat} {p : Ex × Rat} (h : a[i]? = some p) : gcdN (a.take (i + 1)) = Nat.gcd (gcdN (a.take i)) p.2.num.natAbs := by
  unfold gcdN
  rw [List.take_add_one, h, List.foldl_append]
  rfl
theorem gcd_fold : ∀ (a : PM) (s : Nat), a.foldl (fun s p => Nat.gcd s p.2.num.natAbs) s ∣ s ∧ (∀ p ∈ a, a.foldl (fun s p => Nat.gcd s p.2.num.natAbs) s ∣ p.2.num.natAbs) ∧ ∀ D, D ∣ s → (∀ p ∈ a, D ∣ p.2.num.natAbs) → D ∣ a.foldl (fun s p => Nat.gcd s p.2.num.natAbs) s
  | [], s => ⟨Nat.dvd_refl _, (fun p hp => nomatch hp), fun D h _ => h⟩
  | q :: r, s => by
    obtain ⟨h1, h2, h3⟩ := gcd_fold r (Nat.gcd s q.2.num.natAbs)
    refine ⟨Nat.dvd_trans h1 (Nat.gcd_dvd_left _ _), fun p hp => ?_, fun D hs hp => h3 D (Nat.dvd_gcd hs (hp q (List.mem_cons_self ..))) fun p m => hp p (List.mem_cons_of_mem _ m)⟩
    rcases List.mem_cons.mp hp with rfl | hp
    · exact Nat.dvd_trans h1 (Nat.gcd_dvd_right _ _)
    · exact h2 p hp
/-- the divisor with the sign of x -/
def sgG (x : Rat) (g : Nat) : Int := if x.num < 0 then -(g : Int) else (g : Int)
def spScale (K : PySem.W.Frag) : Sp := fun vs H Q _ => ∃ (T f : Addr) (ts : List Addr) (a : PM) (x : Rat) (D : Nat), vs = [.ref T, .ref f] ∧ H T = some (.tup (ts.map V.ref)) ∧ Paired (EntAt H) ts a ∧ RQ H f x ∧ a.length < 200 ∧ 0 < D ∧ D < 2 ^ 6000 ∧ (∀ p ∈ a, p.2.den ∣ D) ∧
  ∀ t H', Same H H' → H' t = some (.tup [.int (lcmD (a.map (·.2)) : Int), .int (sgG x (gcdN a))]) → Q (.ref t) H'

abbrev stcommon_bottom : Stmt := top 19
theorem sccommon_bottom : FnScope ["ratios", "shared", "ratio"] ["ratios"] (defScope stcommon_bottom) := ⟨rfl, rfl, rfl, by decide +kernel, rfl, by decide +kernel, by decide +kernel⟩
theorem okcommon_bottom (B : Blt mg) {CPoly CQuotient BZ BN BM UL fZ fN : Addr} {fdZ fdN : FuncData} (Es : ErP K mg CPoly CQuotient BZ BN BM UL fZ fN fdZ fdN) {fcommon_bottom : Addr} {fdcommon_bottom : FuncData} (Dcommon_bottom : DefAt K mg "common_bottom" stcommon_bottom ["ratios"] fcommon_bottom fdcommon_bottom) : FnOk P w K mg base CX0 1 fcommon_bottom fdcommon_bottom ["ratios"] spCB := by
  refine Dcommon_bottom.F.ok sccommon_bottom (fun vs H Q E h => ?_) (fun cdv A outer s H vs Q E hr h => ?_)
  · obtain ⟨a, rs, xs, D, rfl, _⟩ := h; rfl
  · have hu := hu_of hr
    refine ⟨_, (pss_cons (ps_set (i := 1) sccommon_bottom.nd rfl (Or.inl rfl) pe_int)
    (pss_cons (ps_for PassesOwn.never rfl (pi_list (pv 0)) (pg_name (i := 2) sccommon_bottom.nd rfl (Or.inl rfl))
      (pss_one (ps_set (i := 1) sccommon_bottom.nd rfl (Or.inl rfl) (pe_callBfun cr_lcm (by rfl) Es.lcm (pa_cons (pv 1) (pa_cons (pe_ix ix_tup (pv 2) pe_int (fun _ _ => rfl)) pa_nil))))))
    (pss_one (ps_ret (pv 1))))), ?_⟩
    obtain ⟨a, rs, xs, D, rfl, ha, en, hD, hD2, dv, q⟩ := h
    have lx := prd_len en
    refine ⟨_, rfl, a, rfl, ⟨_, SqL.of ha⟩, for_list (K := K) (a := a) (xs := rs.map V.ref) (fun i σ H' => ∃ v : Option V, σ = [some (.ref a), some (.int (lcmD (xs.take i) : Int)), v] ∧ H' = H) ⟨none, rfl, rfl⟩ (fun i σ H' _ hh => let ⟨_, _, e⟩ := hh; e ▸ SqL.of ha) ?_ ?_⟩
    · rintro i y σ H1 hy ⟨v, rfl, rfl⟩
      obtain ⟨r, hr, rfl⟩ := map_ref hy
      obtain ⟨x, hx, rq⟩ := prd_get en hr
      have le : lcmD (xs.take i) < 2 ^ 13000 := by
        have z := (lcm_fold (xs.take i) 1 (by decide)).2.2.2 D (Nat.one_dvd _) fun x hx => dv x (List.mem_of_mem_take hx)
        exact Nat.lt_of_le_of_lt (Nat.le_of_dvd hD z) (Nat.lt_of_lt_of_le hD2 (Nat.pow_le_pow_right (by decide) (by decide)))
      have le2 : x.den < 2 ^ 13000 := Nat.lt_of_le_of_lt (Nat.le_of_dvd hD (dv x (List.mem_of_getElem? hx))) (Nat.lt_of_lt_of_le hD2 (Nat.pow_le_pow_right (by decide) (by decide)))
      refine ⟨_, rfl, _, rfl, r, _, _, _, rfl, rfl, SqT.of rq, rfl, _, _, rfl, by rw [Int.natAbs_natCast]; exact le, by rw [Int.natAbs_natCast]; exact le2, ?_⟩
      refine ⟨some (.ref r), ?_, rfl⟩
      have e : lcmD (xs.take (i + 1)) = Nat.lcm (lcmD (xs.take i)) x.den := by
        unfold lcmD
        rw [List.take_add_one, hx, List.foldl_append]
        rfl
      rw [e, Int.natAbs_natCast, Int.natAbs_natCast]
      rfl
    · rintro σ H1 ⟨v, rfl, rfl⟩
      rw [List.length_map, lx, List.take_length]
      exact ⟨_, rfl, q⟩
abbrev stform_scale : Stmt := top 31
theorem scform_scale : FnScope ["terms", "first", "many", "exponents", "ratio", "shared"] ["terms", "first"] (defScope stform_scale) := ⟨rfl, rfl, rfl, by decide +kernel, rfl, by decide +kernel, by decide +kernel⟩
theorem okform_scale (B : Blt mg) {CPoly CQuotient BZ BN BM UL fZ fN : Addr} {fdZ fdN : FuncData} (Es : ErP K mg CPoly CQuotient BZ BN BM UL fZ fN fdZ fdN) {fcommon_bottom : Addr} {fdcommon_bottom : FuncData} (Dcommon_bottom : DefAt K mg "common_bottom" stcommon_bottom ["ratios"] fcommon_bottom fdcommon_bottom) {fform_scale : Addr} {fdform_scale : FuncData} (Dform_scale : DefAt K mg "form_scale" stform_scale ["terms", "first"] fform_scale fdform_scale) : FnOk P w K mg base CX0 2 fform_scale fdform_scale ["terms", "first"] (spScale K) := by
  have OKcommon_bottom : FnOk P w K mg base CX0 1 fcommon_bottom fdcommon_bottom ["ratios"] spCB := okcommon_bottom B Es Dcommon_bottom
  refine Dform_scale.F.ok scform_scale (fun vs H Q E h => ?_) (fun cdv A outer s H vs Q E hr h => ?_)
  · obtain ⟨T, f, ts, a, x, D, rfl, _⟩ := h; rfl
  · have hu := hu_of hr
    refine ⟨_, (pss_cons (ps_set (i := 2) scform_scale.nd rfl (Or.inl rfl) (pe_call OKcommon_bottom (hr.mono (by decide)) rfl Dcommon_bottom.m Dcommon_bottom.F.kp Dcommon_bottom.b .nil pass0 (pa_cons (pe_lc (own := [("exponents", 3), ("ratio", 4)]) (g := gTup K 2 (gCons (gName 3) (gCons (gName 4) gNil))) (tt := tYes) rfl scform_scale.nd (pi_tup (pv 0)) (blkOk_by (own := [("exponents", 3), ("ratio", 4)]) (N := ["terms", "first", "many", "exponents", "ratio", "shared"]) (sc := defScope stform_scale) (by decide +kernel)) (fun _ _ _ _ _ => (pg_tup rfl (pgs_cons (pg_name (i := 3) scform_scale.nd rfl (Or.inl rfl)) (pgs_cons (pg_name (i := 4) scform_scale.nd rfl (Or.inl rfl)) pgs_nil)))) (fun _ _ _ _ _ => pts_nil) (fun _ _ _ _ _ => (pv 4))) pa_nil)))
    (pss_cons (ps_set (i := 5) scform_scale.nd rfl (Or.inl rfl) pe_int)
    (pss_cons (ps_for PassesOwn.never rfl (pi_tup (pv 0)) (pg_tup rfl (pgs_cons (pg_name (i := 3) scform_scale.nd rfl (Or.inl rfl)) (pgs_cons (pg_name (i := 4) scform_scale.nd rfl (Or.inl rfl)) pgs_nil)))
      (pss_one (ps_set (i := 5) scform_scale.nd rfl (Or.inl rfl) (pe_callBfun cr_gcd (by rfl) Es.gcd (pa_cons (pv 5) (pa_cons (pe_ix ix_tup (pv 4) pe_int (fun _ _ => rfl)) pa_nil))))))
    (Evl.pss_cut (ps_if (pt_cmpR op_lt (pe_ix ix_tup (pv 1) pe_int (fun _ _ => rfl)) pe_int (nomark _)) (pss_one (ps_set (i := 5) scform_scale.nd rfl (Or.inl rfl) (pe_un un_neg (pv 5)))) pss_nil)
    (pss_one (ps_ret (pe_tup (pa_cons (pv 2) (pa_cons (pv 5) pa_nil))))))))), ?_⟩
    obtain ⟨T, f, ts, a, x, D, rfl, hT, en, hf, few, D0, D6, dv, q⟩ := h
    have la := prd_len en
    refine ⟨_, rfl, T, rfl, ⟨_, SqT.of hT⟩, fun D1 hD => ?_⟩
    refine lc_tup (K := K) (a := T) (xs := ts.map V.ref) (fun i H' => Same H H' ∧ ∃ us : List Addr, H' D1 = some (.lst (us.map V.ref)) ∧ Paired (RQ H') us ((a.take i).map (·.2))) ⟨AL.Same.new hD, [], upd_same, .nil⟩ (fun i H' _ hh => SqT.of (hh.1 _ _ hT)) ?_ ?_
    · rintro i y H4 hy ⟨s4, us, hD4, en4⟩
      obtain ⟨b, hb, rfl⟩ := map_ref hy
      obtain ⟨p, hp, ent⟩ := prd_get en hb
      obtain ⟨k1, r1, hb1, hk1, hr1⟩ := ent.same s4
      have hi : i < a.length := (List.getElem?_eq_some_iff.mp hp).1
      refine ⟨b, _, rfl, SqT.of hb1, rfl, _, _, rfl, _, _, rfl, rfl, rfl, ?_⟩
      have ts5 := upd_tups (o := .lst (us.map V.ref ++ [V.ref r1])) hD4 (fun _ z => nomatch z)
      refine ⟨_, rfl, _, hD4, ?_, AL.Same.updn s4 hD, us ++ [r1], by rw [upd_same, List.map_append]; rfl, ?_⟩
      · have l1 := prd_len en4
        rw [List.length_map, List.length_take] at l1
        rw [List.length_map]
        exact Nat.lt_of_le_of_lt (by omega : _ ≤ 1000) (by decide)
      · rw [List.take_add_one, hp, List.map_append]
        exact prd_snoc (paired_mono en4 fun _ _ w => ts5 _ _ w) (ts5 _ _ hr1)
    rintro H4 ⟨s4, us, hD4, en4⟩
    rw [List.length_map, la, List.take_length] at en4
    refine ⟨D1, us, _, D, rfl, hD4, en4, D0, D6, fun y hy => ?_, ?_⟩
    · obtain ⟨p, hp, rfl⟩ := List.mem_map.mp hy
      exact dv p hp
    have hT4 := s4 _ _ hT
    have hf4 : RQ H4 f x := s4 _ _ hf
    refine ⟨_, rfl, T, rfl, ⟨_, SqT.of hT4⟩, for_tup (K := K) (a := T) (xs := ts.map V.ref) (fun i σ H' => ∃ v4 v5 : Option V, σ = [some (.ref T), some (.ref f), some (.int (lcmD (a.map (·.2)) : Int)), v4, v5, some (.int (gcdN (a.take i) : Int))] ∧ H' = H4) ⟨_, _, rfl, rfl⟩ (fun i σ H' _ hh => let ⟨_, _, _, e⟩ := hh; e ▸ SqT.of hT4) ?_ ?_⟩
    · rintro i y σ H5 hy ⟨v4, v5, rfl, rfl⟩
      obtain ⟨b, hb, rfl⟩ := map_ref hy
      obtain ⟨p, hp, ent⟩ := prd_get en hb
      obtain ⟨k1, r1, hb1, hk1, hr1⟩ := ent.same s4
      refine ⟨b, _, rfl, SqT.of hb1, rfl, _, _, rfl, _, _, rfl, rfl, ?_⟩
      refine ⟨_, rfl, _, rfl, r1, _, _, _, rfl, rfl, SqT.of hr1, rfl, _, _, rfl, ?_⟩
      refine ⟨some (.ref k1), some (.ref r1), ?_, rfl⟩
      rw [gcd_take hp, Int.natAbs_natCast]
      rfl
    · rintro σ H5 ⟨v4, v5, rfl, rfl⟩
      rw [List.length_map, la, List.take_length]
      refine ⟨fun σ' H' => σ' = [some (.ref T), some (.ref f), some (.int (lcmD (a.map (·.2)) : Int)), v4, v5, some (.int (sgG x (gcdN a)))] ∧ H' = H5, ?_, ?_⟩
      · refine ⟨_, rfl, f, _, _, _, rfl, rfl, SqT.of hf4, rfl, _, _, rfl, rfl, _, rfl, ?_⟩
        by_cases hx : x.num < 0
        · rw [decide_eq_true hx]
          refine iteT ?_
          refine ⟨_, rfl, _, rfl, ?_, rfl⟩
          unfold sgG
          rw [if_pos hx]
          rfl
        · rw [decide_eq_false hx]
          refine iteF ?_
          refine ⟨?_, rfl⟩
          unfold sgG
          rw [if_neg hx]
      · rintro σ2 H6 ⟨rfl, rfl⟩
        refine ⟨_, rfl, _, rfl, (by show 2 ≤ sizeLine; decide), fun t ht => ?_⟩
        exact q t _ (s4.trans (AL.Same.new ht)) upd_same
end
end AL
set_option Elab.async false
set_option maxRecDepth 100000
set_option exponentiation.threshold 70000
set_option maxHeartbeats 1000000
namespace AL
open PySem PySem.Spec PyProof.Rows L2 RZ
section
variable {P : Program} {w : World} {K : PySem.W.Frag} {mg : Str → Option Value} {base : Heap}

def subE (e s : Ex) : Ex := List.zipWith (· - ·) e s
/-- scaled by c, lowered by s -/
def qf (c : Rat) (s : Ex) (a : PM) : PM := a.map fun p => (subE p.1 s, p.2 * c)
/-- exponents and an integer -/
def IntAt (H : Hp) (b : Addr) (e : Ex × Int) : Prop := ∃ k, H b = some (.tup [.ref k, .int e.2]) ∧ KeyAt H k e.1
theorem IntAt.same {H H' : Hp} {b : Addr} {e : Ex × Int} (h : IntAt H b e) (s : Same H H') : IntAt H' b e := let ⟨k, h1, h2⟩ := h; ⟨k, s _ _ h1, s _ _ h2⟩
theorem IntAt.tups {H H' : Hp} {b : Addr} {e : Ex × Int} (h : IntAt H b e) (s : ∀ c ys, H c = some (.tup ys) → H' c = some (.tup ys)) : IntAt H' b e := let ⟨k, h1, h2⟩ := h; ⟨k, s _ _ h1, s _ _ h2⟩
def lowL (s : Ex) (l : List (Ex × Int)) : List (Ex × Int) := l.map fun p => (subE p.1 s, p.2)
def spLowr : Sp := fun vs H Q _ => ∃ (T l : Addr) (ts : List Addr) (a : List (Ex × Int)) (s : Ex) (n : Nat), vs = [.ref T, .ref l] ∧ H T = some (.lst (ts.map V.ref)) ∧ Paired (IntAt H) ts a ∧ H l = some (.lst ((ki s).map V.int)) ∧ s.length = n ∧ n ≤ 80 ∧ (∀ p ∈ a, p.1.length = n ∧ (∀ k ∈ p.1, k ≤ 1000) ∧ ∀ j : Nat, s.getD j 0 ≤ p.1.getD j 0) ∧ a.length < 200 ∧
  ∀ d H' us, Same H H' → H' d = some (.lst (us.map V.ref)) → Paired (IntAt H') us (lowL s a) → Q (.ref d) H'

def rTup (K : PySem.W.Frag) : List V → Hp → VK → Prop := fun xs H Q => ∃ p ys, xs = [.ref p] ∧ ((SqL K H p ys ∧ ∀ l, H l = none → Q (.ref l) (upd H l (.tup ys))) ∨ (SqT K H p ys ∧ Q (.ref p) H))
theorem call_tupK {X : Cx} : CallR X (.type "tuple") (rTup X.K) := call_tuple_of
theorem blkOk_nf {N : List Str} {sc scope : Scope} {own : List (Str × Nat)} (h : blkC N { scope with names := [] } scope own = true) : BlkOk N sc scope own := by
  obtain ⟨k, u, i, f, o⟩ := blkOk_by h
  exact ⟨k, u, i, fun y hy e => by have z := f y hy e; simp at z, o⟩

abbrev stlowered : Stmt := top 33
theorem sclowered : FnScope ["terms", "least", "exponents", "ratio", "a", "b"] ["terms", "least"] (defScope stlowered) := ⟨rfl, rfl, rfl, by decide +kernel, rfl, by decide +kernel, by decide +kernel⟩
theorem oklowered (B : Blt mg)  {flowered : Addr} {fdlowered : FuncData} (Dlowered : DefAt K mg "lowered" stlowered ["terms", "least"] flowered fdlowered) : FnOk P w K mg base CX0 1 flowered fdlowered ["terms", "least"] spLowr := by
  refine Dlowered.F.ok sclowered (fun vs H Q E h => ?_) (fun cdv A outer s H vs Q E hr h => ?_)
  · obtain ⟨T, l, ts, a, s, n, rfl, _⟩ := h; rfl
  · have hu := hu_of hr
    refine ⟨_, (pss_one (ps_ret (pe_lc (own := [("exponents", 2), ("ratio", 3)]) (g := gTup K 2 (gCons (gName 2) (gCons (gName 3) gNil))) (tt := tYes) rfl sclowered.nd (pi_list (pv 0)) (blkOk_by (own := [("exponents", 2), ("ratio", 3)]) (N := ["terms", "least", "exponents", "ratio", "a", "b"]) (sc := defScope stlowered) (by decide +kernel)) (fun _ _ _ _ _ => (pg_tup rfl (pgs_cons (pg_name (i := 2) sclowered.nd rfl (Or.inl rfl)) (pgs_cons (pg_name (i := 3) sclowered.nd rfl (Or.inl rfl)) pgs_nil)))) (fun _ _ _ _ _ => pts_nil) (fun _ _ _ _ _ => (pe_tup (pa_cons (pe_callTy (call_tupK : CallR _ _ (rTup K)) (by rfl) B.tuple_ (by decide +kernel) (pa_cons (pe_lc (own := [("a", 4), ("b", 5)]) (g := gTup K 2 (gCons (gName 4) (gCons (gName 5) gNil))) (tt := tYes) rfl sclowered.nd (pi_zipB (by rfl) B.zip_ (pa_cons (pv 2) (pa_cons (pv 1) pa_nil)) : PI _ _ _ (iZipB K (tCons (tVar 2) (tCons (tVar 1) tNil)))) (blkOk_nf (own := [("a", 4), ("b", 5)]) (N := ["terms", "least", "exponents", "ratio", "a", "b"]) (by decide +kernel)) (fun _ _ _ _ _ => (pg_tup rfl (pgs_cons (pg_name (i := 4) sclowered.nd rfl (Or.inl rfl)) (pgs_cons (pg_name (i := 5) sclowered.nd rfl (Or.inl rfl)) pgs_nil)))) (fun _ _ _ _ _ => pts_nil) (fun _ _ _ _ _ => (pe_op op_sub (pv 4) (pv 5)))) pa_nil)) (pa_cons (pv 3) pa_nil))))))), ?_⟩
    obtain ⟨T, l, ts, a, s, n, rfl, hT, en, hl, ls, hn, ba, few, q⟩ := h
    have la := prd_len en
    refine ⟨_, rfl, T, rfl, ⟨_, SqL.of hT⟩, fun D1 hD => ?_⟩
    refine lc_list (K := K) (a := T) (xs := ts.map V.ref) (fun i H' => Same H H' ∧ ∃ us : List Addr, H' D1 = some (.lst (us.map V.ref)) ∧ Paired (IntAt H') us (lowL s (a.take i))) ⟨AL.Same.new hD, [], upd_same, .nil⟩ (fun i H' _ hh => SqL.of (hh.1 _ _ hT)) ?_ ?_
    · rintro i y H4 hy ⟨s4, us, hD4, en4⟩
      obtain ⟨b, hb, rfl⟩ := map_ref hy
      obtain ⟨p, hp, ent⟩ := prd_get en hb
      obtain ⟨k1, g1, g2⟩ := ent.same s4
      obtain ⟨p1, p2, p3⟩ := ba p (List.mem_of_getElem? hp)
      have hi : i < a.length := (List.getElem?_eq_some_iff.mp hp).1
      have hl4 := s4 _ _ hl
      have lsub : (subE p.1 s).length = n := by unfold subE; rw [List.length_zipWith]; omega
      refine ⟨b, _, rfl, SqT.of g1, rfl, _, _, rfl, _, _, rfl, rfl, rfl, ?_⟩
      refine ⟨_, rfl, _, rfl, k1, l, false, true, _, _, rfl, SqT.of g2, SqL.of hl4, fun D hD2 => ?_⟩
      refine lc_it (walk_zipB (K := K) (a := k1) (b := l) (k := false) (l := true) (xs := (ki p.1).map V.int) (ys := (ki s).map V.int) (n := n) (by rw [List.length_map, List.length_map, len_ki, len_ki]; omega)) (fun i2 H' => Same H4 H' ∧ H' D = some (.lst ((ki ((subE p.1 s).take i2)).map V.int))) ⟨AL.Same.new hD2, upd_same⟩ (fun i2 H' _ hh => ⟨SqT.of (hh.1 _ _ g2), SqL.of (hh.1 _ _ hl4)⟩) ?_ ?_
      · rintro i2 x0 H0 H1' hi2 ⟨s0, hd0⟩ ⟨T0, u1, u2, rfl, hT0, rfl, e1, e2⟩
        obtain ⟨z1, c1, rfl⟩ := map_int e1
        obtain ⟨z2, c2, rfl⟩ := map_int e2
        obtain ⟨f1, d1, rfl⟩ := ki_get c1
        obtain ⟨f2, d2, rfl⟩ := ki_get c2
        have le := p3 i2
        rw [List.getD_eq_getElem?_getD, List.getD_eq_getElem?_getD, d1, d2] at le
        have le' : f2 ≤ f1 := le
        have hDT : D ≠ T0 := fun z => by rw [z, hT0] at hd0; cases hd0
        have sT : Same H4 (upd H0 T0 (.tup [.int (f1 : Int), .int (f2 : Int)])) := s0.trans (AL.Same.new hT0)
        refine ⟨T0, _, rfl, SqT.of upd_same, rfl, _, _, rfl, _, _, rfl, rfl, rfl, ?_⟩
        refine ⟨_, rfl, _, rfl, _, _, rfl, rfl, _, Eq.trans (upd_ne hDT) hd0, ?_, AL.Same.updn sT hD2, ?_⟩
        · rw [List.length_map, len_ki, List.length_take]
          exact Nat.lt_of_le_of_lt (by omega : _ ≤ 100) (by decide)
        · have me : (subE p.1 s)[i2]? = some (f1 - f2) := by
            unfold subE
            rw [List.getElem?_zipWith, d1, d2]
          rw [upd_same, List.take_add_one, me]
          show some (HO.lst (_ ++ [V.int ((f1 : Int) - (f2 : Int))])) = _
          rw [← Int.ofNat_sub le']
          unfold ki
          rw [List.map_append, List.map_append]
          rfl
      · rintro H5 ⟨s5, hd5⟩
        rw [List.take_of_length_le (by omega)] at hd5
        refine ⟨D, _, rfl, .inl ⟨SqL.of hd5, fun kk hkk => ?_⟩⟩
        have nk := AL.Same.new (o := .tup ((ki (subE p.1 s)).map V.int)) hkk
        refine ⟨_, rfl, (by show 2 ≤ sizeLine; decide), fun t ht => ?_⟩
        have nt := AL.Same.new (o := .tup [.ref kk, .int p.2]) ht
        have s6 := s5.trans (nk.trans nt)
        have hD6 := s6 _ _ hD4
        have ts6 := upd_tups (o := .lst (us.map V.ref ++ [V.ref t])) hD6 (fun _ z => nomatch z)
        refine ⟨_, hD6, ?_, AL.Same.updn (s4.trans s6) hD, us ++ [t], by rw [upd_same, List.map_append]; rfl, ?_⟩
        · have l1 := prd_len en4
          unfold lowL at l1
          rw [List.length_map, List.length_take] at l1
          rw [List.length_map]
          exact Nat.lt_of_le_of_lt (by omega : _ ≤ 1000) (by decide)
        · unfold lowL at en4 ⊢
          rw [List.take_add_one, hp, List.map_append]
          exact prd_snoc (paired_mono en4 fun _ _ w => (w.same s6).tups ts6) ⟨kk, ts6 _ _ upd_same, ts6 _ _ (nt _ _ upd_same)⟩
    · rintro H4 ⟨s4, us, hD4, en4⟩
      rw [List.length_map, la, List.take_length] at en4
      exact q D1 H4 us s4 hD4 en4
end
end AL
set_option Elab.async false
set_option maxRecDepth 100000
set_option exponentiation.threshold 70000
set_option maxHeartbeats 1000000
namespace AL
open PySem PySem.Spec PyProof.Rows L2 RZ
section
variable {P : Program} {w : World} {K : PySem.W.Frag} {mg : Str → Option Value} {base : Heap}

/-- the integer that a ratio becomes -/
def cI (L : Nat) (sg : Int) (x : Rat) : Int := x.num.fdiv sg * ((L : Int).fdiv (x.den : Int))
theorem bro_rat {x : Rat} {L : Nat} {sg : Int} (hs : sg ≠ 0) (hd : x.den ∣ L) (hg : sg ∣ x.num) : ((cI L sg x : Int) : Rat) = x * ((L : Rat) / (sg : Rat)) := by
  obtain ⟨v, hv⟩ := hd
  obtain ⟨u, hu⟩ := hg
  have d0 : x.den ≠ 0 := x.den_nz
  have e1 : x.num.fdiv sg = u := by rw [hu, Int.mul_comm]; exact Int.mul_fdiv_cancel _ hs
  have e2 : (L : Int).fdiv (x.den : Int) = (v : Int) := by
    rw [hv, Int.natCast_mul, Int.mul_comm]
    exact Int.mul_fdiv_cancel _ (by omega)
  have ex : (x.num : Rat) / ((x.den : Nat) : Rat) = x := by
    have w := Rat.mkRat_self x
    rw [Rat.mkRat_eq_div] at w
    exact w
  have eL : (L : Rat) = ((x.den : Nat) : Rat) * ((v : Nat) : Rat) := by rw [← Rat.natCast_mul, ← hv]
  have eN : (x.num : Rat) = (sg : Rat) * (u : Rat) := by rw [← Rat.intCast_mul, ← hu]
  have s0 : (sg : Rat) ≠ 0 := fun z => hs (by exact_mod_cast z)
  have dr : ((x.den : Nat) : Rat) ≠ 0 := fun z => d0 (by exact_mod_cast z)
  unfold cI
  rw [e1, e2, Rat.intCast_mul, Rat.intCast_natCast, eL]
  have hx : x = ((sg : Rat) * (u : Rat)) / ((x.den : Nat) : Rat) := by rw [← eN]; exact ex.symm
  generalize ((x.den : Nat) : Rat) = b at dr hx ⊢
  rw [hx]
  generalize (sg : Rat) = a at s0 ⊢
  generalize (u : Rat) = c
  generalize ((v : Nat) : Rat) = d
  rw [Rat.div_def, Rat.div_def]
  have h1 : b * b⁻¹ = 1 := Rat.mul_inv_cancel _ dr
  have h2 : a * a⁻¹ = 1 := Rat.mul_inv_cancel _ s0
  calc c * d = (a * a⁻¹) * (b * b⁻¹) * (c * d) := by rw [h1, h2]; grind
    _ = a * c * b⁻¹ * (b * d * a⁻¹) := by grind
theorem fdiv_le {x : Int} {sg : Int} (hs : sg ≠ 0) (hg : sg ∣ x) : (x.fdiv sg).natAbs ≤ x.natAbs := by
  obtain ⟨u, hu⟩ := hg
  have e1 : x.fdiv sg = u := by rw [hu, Int.mul_comm]; exact Int.mul_fdiv_cancel _ hs
  rw [e1, hu, Int.natAbs_mul]
  exact Nat.le_mul_of_pos_left _ (Int.natAbs_pos.mpr hs)
theorem fdivN_le {L d : Nat} (hd : d ∣ L) (d0 : d ≠ 0) : ((L : Int).fdiv (d : Int)).natAbs ≤ L := by
  have w := fdiv_le (x := (L : Int)) (sg := (d : Int)) (by omega) (Int.natCast_dvd_natCast.mpr hd)
  rwa [Int.natAbs_natCast] at w

def spBro (K : PySem.W.Frag) (CP : Addr) : Sp := fun vs H Q _ => ∃ (x t l : Addr) (n Em L B : Nat) (sg : Int) (s : Ex) (a : PM), vs = [.ref x, .ref t, .ref l] ∧ PolyAt CP H x n a ∧ H t = some (.tup [.int (L : Int), .int sg]) ∧ H l = some (.lst ((ki s).map V.int)) ∧ s.length = n ∧ n ≤ 80 ∧ Em ≤ 80 ∧ a.length < 64 ∧ sg ≠ 0 ∧
  sg.natAbs < 2 ^ 5900 ∧ L < 2 ^ 5900 ∧ (∀ p ∈ a, p.1.length = n ∧ (∀ k ∈ p.1, k ≤ Em) ∧ (∀ j : Nat, s.getD j 0 ≤ p.1.getD j 0) ∧ p.2.den ∣ L ∧ sg ∣ p.2.num ∧ p.2.num.natAbs < 2 ^ 5900 ∧ (cI L sg p.2).natAbs ≤ B) ∧ Szs 1 B a.length ∧
  ∀ z H' m, Same H H' → PolyAt CP H' z n m → Can n Em 1 (B * a.length) m → m.length ≤ a.length → Eqp m (qf ((L : Rat) / (sg : Rat)) s a) → Q (.ref z) H'

abbrev stbrought : Stmt := top 32
theorem scbrought : FnScope ["poly", "scale", "least", "many", "shared", "whole", "exponents", "ratio"] ["poly", "scale", "least"] (defScope stbrought) := ⟨rfl, rfl, rfl, by decide +kernel, rfl, by decide +kernel, by decide +kernel⟩
theorem okbrought (B : Blt mg) {CPoly CQuotient BZ BN BM UL fZ fN : Addr} {fdZ fdN : FuncData} (Es : ErP K mg CPoly CQuotient BZ BN BM UL fZ fN fdZ fdN) {flowest : Addr} {fdlowest : FuncData} (Dlowest : DefAt K mg "lowest" stlowest ["top", "bottom"] flowest fdlowest) {fas_ratio : Addr} {fdas_ratio : FuncData} (Das_ratio : DefAt K mg "as_ratio" stas_ratio ["value"] fas_ratio fdas_ratio) {fis_whole : Addr} {fdis_whole : FuncData} (Dis_whole : DefAt K mg "is_whole" stis_whole ["value"] fis_whole fdis_whole) {fare_integers : Addr} {fdare_integers : FuncData} (Dare_integers : DefAt K mg "are_integers" stare_integers ["items"] fare_integers fdare_integers) {fis_ratio : Addr} {fdis_ratio : FuncData} (Dis_ratio : DefAt K mg "is_ratio" stis_ratio ["value"] fis_ratio fdis_ratio) {fis_term : Addr} {fdis_term : FuncData} (Dis_term : DefAt K mg "is_term" stis_term ["term", "size"] fis_term fdis_term) {fratio_sum : Addr} {fdratio_sum : FuncData} (Dratio_sum : DefAt K mg "ratio_sum" stratio_sum ["one", "other"] fratio_sum fdratio_sum) {fP_init : Addr} {fdP_init : FuncData} (DP_init : IniA K "__init__" "Poly.__init__" stP_init ["self", "size", "terms"] CPoly fP_init fdP_init) {flowered : Addr} {fdlowered : FuncData} (Dlowered : DefAt K mg "lowered" stlowered ["terms", "least"] flowered fdlowered) {fbrought : Addr} {fdbrought : FuncData} (Dbrought : DefAt K mg "brought" stbrought ["poly", "scale", "least"] fbrought fdbrought) : FnOk P w K mg base CX0 8 fbrought fdbrought ["poly", "scale", "least"] (spBro K CPoly) := by
  have OKP_init : FnOk P w K mg base CX0 5 fP_init fdP_init ["self", "size", "terms"] (spIniP K CPoly) := okP_init B Es Dlowest Das_ratio Dis_whole Dare_integers Dis_ratio Dis_term Dratio_sum DP_init
  have OKlowered : FnOk P w K mg base CX0 1 flowered fdlowered ["terms", "least"] spLowr := oklowered B  Dlowered
  refine Dbrought.F.ok scbrought (fun vs H Q E h => ?_) (fun cdv A outer s H vs Q E hr h => ?_)
  · obtain ⟨x, t, l, n, Em, L, B, sg, s, a, rfl, _⟩ := h; rfl
  · have hu := hu_of hr
    refine ⟨_, (pss_cons (ps_asg (pv 1) (pg_tup rfl (pgs_cons (pg_name (i := 3) scbrought.nd rfl (Or.inr rfl)) (pgs_cons (pg_name (i := 4) scbrought.nd rfl (Or.inr rfl)) pgs_nil))))
    (pss_cons (ps_setLc (i := 5) (own := [("exponents", 6), ("ratio", 7)]) (g := gTup K 2 (gCons (gName 6) (gCons (gName 7) gNil))) (tt := tYes) rfl scbrought.nd rfl rfl (sw_true rfl rfl rfl (by decide +kernel)) (pi_tup ((pe_fld (pv 0) rfl : PE _ _ (tFld K (tVar 0) "terms")))) (blkOk_by (own := [("exponents", 6), ("ratio", 7)]) (N := ["poly", "scale", "least", "many", "shared", "whole", "exponents", "ratio"]) (sc := defScope stbrought) (by decide +kernel)) (fun _ _ _ _ _ => (pg_tup rfl (pgs_cons (pg_name (i := 6) scbrought.nd rfl (Or.inl rfl)) (pgs_cons (pg_name (i := 7) scbrought.nd rfl (Or.inl rfl)) pgs_nil)))) (fun _ _ _ _ _ => pts_nil) (fun _ _ _ _ _ => (pe_tup (pa_cons (pv 6) (pa_cons (pe_op op_mulW (pe_op op_fdivC (pe_ix (ix_tup : IxR _ (rIxT K)) (pv 7) pe_int (fun _ _ => rfl)) (pv 4)) (pe_op op_fdivC (pv 3) (pe_ix (ix_tup : IxR _ (rIxT K)) (pv 7) pe_int (fun _ _ => rfl)))) pa_nil)))))
    (pss_one (ps_ret (pe_make DP_init.M OKP_init (hr.mono (by decide)) rfl Es.mP DP_init.b .nil pass0 (pa_cons ((pe_fld (pv 0) rfl : PE _ _ (tFld K (tVar 0) "size"))) (pa_cons (pe_call OKlowered (hr.mono (by decide)) rfl Dlowered.m Dlowered.F.kp Dlowered.b .nil pass0 (pa_cons (pv 5) (pa_cons (pv 2) pa_nil))) pa_nil))))))), ?_⟩
    obtain ⟨x, t, l, n, Em, L, B, sg, s, a, rfl, hx, ht, hl, ls, hn, hE, few, s0, s3, L3, ba, zz, q⟩ := h
    obtain ⟨dx, T, ts, ex, eT, en⟩ := hx
    have la := prd_len en
    have up : ∀ {x : Nat}, x < 2 ^ 5900 → x < 2 ^ 13500 := fun h => Nat.lt_of_lt_of_le h (Nat.pow_le_pow_right (by decide) (by decide))
    refine ⟨_, rfl, t, _, rfl, SqT.of ht, rfl, _, _, rfl, _, _, rfl, rfl, ?_⟩
    refine ⟨_, rfl, x, _, dx, _, _, rfl, ex, Es.cl, Es.nT, flP_t _ _, T, rfl, ⟨_, SqT.of eT⟩, fun D1 hD => ?_⟩
    refine lc_tup (K := K) (a := T) (xs := ts.map V.ref) (fun i H' => Same H H' ∧ ∃ us : List Addr, H' D1 = some (.lst (us.map V.ref)) ∧ Paired (IntAt H') us ((a.take i).map fun p => (p.1, cI L sg p.2))) ⟨AL.Same.new hD, [], upd_same, .nil⟩ (fun i H' _ hh => SqT.of (hh.1 _ _ eT)) ?_ ?_
    · rintro i y H4 hy ⟨s4, us, hD4, en4⟩
      obtain ⟨b, hb, rfl⟩ := map_ref hy
      obtain ⟨p, hp, ent⟩ := prd_get en hb
      obtain ⟨k1, r1, hb1, hk1, hr1⟩ := ent.same s4
      obtain ⟨_, _, _, hd, hg, h3, _⟩ := ba p (List.mem_of_getElem? hp)
      have hi : i < a.length := (List.getElem?_eq_some_iff.mp hp).1
      have dn : (p.2.den : Int) ≠ 0 := by have := p.2.den_nz; omega
      refine ⟨b, _, rfl, SqT.of hb1, rfl, _, _, rfl, _, _, rfl, rfl, rfl, ?_⟩
      refine ⟨_, rfl, _, rfl, r1, _, _, _, rfl, rfl, SqT.of hr1, rfl, _, rfl, _, _, rfl, rfl, ⟨s0, .inl (up h3)⟩, _, rfl, _, rfl, r1, _, _, _, rfl, rfl, SqT.of hr1, rfl, _, _, rfl, rfl, ⟨dn, .inl (by rw [Int.natAbs_natCast]; exact up L3)⟩, _, _, rfl, rfl, wide_mul (a := 5900) (b := 5900) (Nat.lt_of_le_of_lt (fdiv_le s0 hg) h3) (Nat.lt_of_le_of_lt (fdivN_le hd p.2.den_nz) L3) (by decide) (by decide) (by decide), (by show 2 ≤ sizeLine; decide), fun t5 ht5 => ?_⟩
      have nt := AL.Same.new (o := .tup [.ref k1, .int (cI L sg p.2)]) ht5
      have hD5 := nt _ _ hD4
      have ts5 := upd_tups (o := .lst (us.map V.ref ++ [V.ref t5])) hD5 (fun _ z => nomatch z)
      refine ⟨_, hD5, ?_, AL.Same.updn (s4.trans nt) hD, us ++ [t5], by rw [upd_same, List.map_append]; rfl, ?_⟩
      · have l1 := prd_len en4
        rw [List.length_map, List.length_take] at l1
        rw [List.length_map]
        exact Nat.lt_of_le_of_lt (by omega : _ ≤ 1000) (by decide)
      · rw [List.take_add_one, hp, List.map_append]
        exact prd_snoc (paired_mono en4 fun _ _ w => (w.same nt).tups ts5) ⟨k1, ts5 _ _ upd_same, ts5 _ _ (nt _ _ hk1)⟩
    · rintro H4 ⟨s4, us, hD4, en4⟩
      rw [List.length_map, la, List.take_length] at en4
      refine ⟨_, rfl, x, _, dx, _, _, rfl, (s4 _ _ ex), Es.cl, Es.nS, flP_s _ _, _, rfl, _, rfl, D1, l, us, _, s, n, rfl, hD4, en4, s4 _ _ hl, ls, hn, fun r hr => ?_, by rw [List.length_map]; omega, fun d H5 us2 s5 hd5 en5 => ?_⟩
      · obtain ⟨p, hp, rfl⟩ := List.mem_map.mp hr
        obtain ⟨w1, w2, w3, _⟩ := ba p hp
        exact ⟨w1, fun k hk => Nat.le_trans (w2 k hk) (by omega), w3⟩
      have eqL : qf ((L : Rat) / (sg : Rat)) s a = (lowL s (a.map fun p => (p.1, cI L sg p.2))).map fun p => (p.1, (p.2 : Rat)) := by
        unfold qf lowL
        rw [List.map_map, List.map_map]
        refine List.map_congr_left fun p hp => ?_
        obtain ⟨_, _, _, hd, hg, _⟩ := ba p hp
        show (subE p.1 s, _) = (subE p.1 s, ((cI L sg p.2 : Int) : Rat))
        rw [bro_rat s0 hd hg]
      have len5 : (qf ((L : Rat) / (sg : Rat)) s a).length = a.length := by unfold qf; rw [List.length_map]
      have pb : PB n Em 1 B (qf ((L : Rat) / (sg : Rat)) s a) := fun r hr => by
        unfold qf at hr
        obtain ⟨p, hp, rfl⟩ := List.mem_map.mp hr
        obtain ⟨w1, w2, w3, hd, hg, _, hB⟩ := ba p hp
        refine ⟨?_, fun k hk => ?_, by decide, cI L sg p.2, by rw [Nat.mul_one]; exact hB, ?_⟩
        · show (subE p.1 s).length = n
          unfold subE
          rw [List.length_zipWith]
          omega
        · obtain ⟨j, hj, e⟩ := List.getElem_of_mem (show k ∈ subE p.1 s from hk)
          unfold subE at hj e
          rw [List.getElem_zipWith] at e
          have := w2 _ (List.getElem_mem (by rw [List.length_zipWith] at hj; omega : j < p.1.length))
          omega
        · show p.2 * _ = _
          rw [← bro_rat s0 hd hg, Rat.mkRat_eq_div]
          grind
      have tv : Paired (TermV K H5) us2 (qf ((L : Rat) / (sg : Rat)) s a) := by
        rw [eqL]
        clear eqL len5 pb hd5
        have bd : ∀ r ∈ lowL s (a.map fun p => (p.1, cI L sg p.2)), r.2.natAbs < 2 ^ 6000 := fun r hr => by
          unfold lowL at hr
          rw [List.map_map] at hr
          obtain ⟨p, hp, rfl⟩ := List.mem_map.mp hr
          obtain ⟨_, _, _, _, _, _, hB⟩ := ba p hp
          refine Nat.lt_of_le_of_lt hB ?_
          have := zz.b
          rw [Nat.mul_one] at this
          exact Nat.lt_trans this (Nat.pow_lt_pow_right (by decide) (by decide))
        revert bd
        generalize lowL s (a.map fun p => (p.1, cI L sg p.2)) = rs at en5
        intro bd
        induction en5 with
        | nil => exact .nil
        | cons r _ ih =>
          refine .cons ?_ (ih fun r hr => bd r (List.mem_cons_of_mem _ hr))
          obtain ⟨k, g1, g2⟩ := r
          refine ⟨k, _, _, 1, g1, g2, .int _, ⟨by decide, bd _ (List.mem_cons_self ..), by decide +kernel⟩, ?_⟩
          rw [Rat.mkRat_eq_div]
          show _ / ((1 : Nat) : Rat) = _
          grind
      exact make_p (k := true) (ts := us2) (l := qf ((L : Rat) / (sg : Rat)) s a) (SqL.of hd5) tv pb hn hE (by omega) (by rw [len5]; exact zz)
        fun y H' m s6 p6 c6 l6 e6 => q y H' m ((s4.trans s5).trans s6) p6 (by rw [len5] at c6; exact c6) (by omega) e6
end
end AL
set_option Elab.async false
set_option maxRecDepth 100000
set_option exponentiation.threshold 70000
set_option maxHeartbeats 1000000
namespace AL
open PySem PySem.Spec PyProof.Rows L2 RZ
section
variable {P : Program} {w : World} {K : PySem.W.Frag} {mg : Str → Option Value} {base : Heap}

theorem sub_len {α : Type} [DecidableEq α] : ∀ {a b : List α}, a.Nodup → (∀ x ∈ a, x ∈ b) → a.length ≤ b.length
  | [], _, _, _ => Nat.zero_le _
  | x :: r, b, nd, h => by
    rw [List.nodup_cons] at nd
    have hx := h x (List.mem_cons_self ..)
    have ih := sub_len (a := r) (b := b.erase x) nd.2 fun y hy => (List.mem_erase_of_ne (fun z => nd.1 (by rw [← z]; exact hy))).mpr (h y (List.mem_cons_of_mem _ hy))
    have e := List.length_erase_of_mem hx
    have pos := List.length_pos_of_mem hx
    rw [List.length_cons]
    omega
theorem key_in {a b : PM} (nda : (a.map (·.1)).Nodup) (nz : NZ a) (h : Eqp a b) : ∀ e ∈ a.map (·.1), e ∈ b.map (·.1) := fun e he => by
  obtain ⟨p, hp, rfl⟩ := List.mem_map.mp he
  refine Classical.byContradiction fun w => nz p hp ?_
  have z := h (ind p.1)
  rw [ind_none (m := b) fun q hq e => w (List.mem_map.mpr ⟨q, hq, e⟩)] at z
  have one : ∀ {m : PM}, (m.map (·.1)).Nodup → p ∈ m → lin (ind p.1) m = p.2 := by
    intro m
    induction m with
    | nil => exact fun _ h => nomatch h
    | cons q r ih =>
      intro nd hm
      rw [List.map_cons, List.nodup_cons] at nd
      show q.2 * (if q.1 = p.1 then 1 else 0) + lin (ind p.1) r = p.2
      rcases List.mem_cons.mp hm with e | hm
      · subst e
        rw [if_pos rfl, ind_none fun s hs e => nd.1 (List.mem_map.mpr ⟨s, hs, e⟩)]
        grind
      · rw [if_neg fun e => nd.1 (List.mem_map.mpr ⟨p, hm, e.symm⟩), ih nd.2 hm]
        grind
  rw [one nda hp] at z
  exact z
theorem asc_nodup {m : PM} (h : Asc m) : (m.map (·.1)).Nodup := by
  unfold List.Nodup
  rw [List.pairwise_map]
  exact h.imp fun w e => by rw [e] at w; omega
/-- two ways to write the same polynomial have as many terms -/
theorem len_eq {a b : PM} (nda : (a.map (·.1)).Nodup) (ndb : (b.map (·.1)).Nodup) (na : NZ a) (nb : NZ b) (h : Eqp a b) : a.length = b.length := by
  have z1 := sub_len nda (key_in nda na h)
  have z2 := sub_len ndb (key_in ndb nb h.symm)
  rw [List.length_map, List.length_map] at z1 z2
  omega

def dE (e : Ex × Rat) : PyData := .tuple [.tuple ((ki e.1).map PyData.int), .tuple ([e.2.num, (e.2.den : Int)].map PyData.int)]
theorem dp_ent {K : PySem.W.Frag} {H : Hp} {b : Addr} {e : Ex × Rat} (h : EntAt H b e) : Dp K H (.ref b) (dE e) := by
  obtain ⟨k, r, h1, h2, h3⟩ := h
  exact .tup (SqT.of h1) (.cons (dp_ints h2) (.cons (dp_ints (rat_ints h3)) .nil))
theorem dp_terms {K : PySem.W.Frag} {H : Hp} {T : Addr} {ts : List Addr} {m : PM} (hT : H T = some (.tup (ts.map V.ref))) (h : Paired (EntAt H) ts m) : Dp K H (.ref T) (.tuple (m.map dE)) := by
  refine .tup (SqT.of hT) ?_
  clear hT
  induction h with
  | nil => exact .nil
  | cons r _ ih => exact .cons (dp_ent r) ih
theorem can_dE (e : Ex × Rat) : PyData.canLay0 (dE e) = true ∧ PyData.depth (dE e) = 2 := by
  have a := can_ints (ki e.1)
  have b := can_ints [e.2.num, (e.2.den : Int)]
  unfold dE
  constructor
  · simp only [PyData.canLay0, PyData.canLayAll0, a.1, b.1, Bool.and_self]
  · simp only [PyData.depth, PyData.depthAll, a.2, b.2]
    decide
theorem can_terms : ∀ m : PM, PyData.canLayAll0 (m.map dE) = true ∧ PyData.depthAll (m.map dE) ≤ 2
  | [] => ⟨rfl, by decide⟩
  | e :: r => by
    have a := can_dE e
    have b := can_terms r
    rw [List.map_cons]
    constructor
    · simp only [PyData.canLayAll0, a.1, b.1, Bool.and_self]
    · simp only [PyData.depthAll, a.2]
      omega
theorem shaped_terms (m : PM) : SeqAt.shaped (.tuple (m.map dE)) = true := by
  have z := can_terms m
  unfold SeqAt.shaped
  rw [show PyData.canLay0 (.tuple (m.map dE)) = true by simpa only [PyData.canLay0] using z.1]
  have d : PyData.depth (.tuple (m.map dE)) ≤ 3 := by simp only [PyData.depth]; omega

  simp only [Bool.true_and, decide_eq_true_eq]
  omega

theorem eqv_dE (e f : Ex × Rat) : PyData.eqv (dE e) (dE f) = decide (e = f) := by
  unfold dE
  rw [PyData.eqv, PyData.eqvAll, PyData.eqvAll, PyData.eqvAll, eqv_ints, eqv_ints, Bool.and_true, ← Bool.decide_and]
  refine decide_eq_decide.mpr ⟨fun ⟨h1, h2⟩ => ?_, fun h => by rw [h]; exact ⟨rfl, rfl⟩⟩
  have k1 := ki_inj h1
  have k2 : e.2 = f.2 := by
    injection h2 with n d
    injection d with d
    exact Rat.ext n (by omega)
  exact Prod.ext k1 k2
theorem eqv_terms : ∀ a b : PM, PyData.eqvAll (a.map dE) (b.map dE) = decide (a = b)
  | [], [] => by rw [decide_eq_true rfl]; rfl
  | [], f :: b => by rw [decide_eq_false (fun z => nomatch z)]; rfl
  | e :: a, [] => by rw [decide_eq_false (fun z => nomatch z)]; rfl
  | e :: a, f :: b => by
    rw [List.map_cons, List.map_cons, PyData.eqvAll, eqv_dE, eqv_terms a b, ← Bool.decide_and]
    refine decide_eq_decide.mpr ⟨fun ⟨h1, h2⟩ => by rw [h1, h2], fun h => by injection h with h1 h2; exact ⟨h1, h2⟩⟩

theorem poly_keep {CP : Addr} {H H' : Hp} {x q0 C dx : Addr} {n : Nat} {m : PM} {fs : List (Str × V)} (h : PolyAt CP H x n m) (hq : H q0 = some (.ins C dx fs)) (ne : x ≠ q0) (k : ∀ c o, c ≠ q0 → H c = some o → H' c = some o) : PolyAt CP H' x n m := by
  obtain ⟨d, T, ts, h1, h2, h3⟩ := h
  have tu : ∀ c ys, H c = some (.tup ys) → H' c = some (.tup ys) := fun c ys w => k c _ (fun e => by rw [e, hq] at w; cases w) w
  exact ⟨d, T, ts, k _ _ ne h1, tu _ _ h2, paired_mono h3 fun _ _ z => z.tups tu⟩
/-- a Quotient -/
def QuoAt (CP CQ : Addr) (H : Hp) (q : Addr) (n : Nat) (t u : PM) : Prop := ∃ dx x y, H q = some (.ins CQ dx [("size", .int (n : Int)), ("top", .ref x), ("bottom", .ref y)]) ∧ PolyAt CP H x n t ∧ PolyAt CP H y n u
theorem QuoAt.same {CP CQ : Addr} {H H' : Hp} {q : Addr} {n : Nat} {t u : PM} (h : QuoAt CP CQ H q n t u) (s : Same H H') : QuoAt CP CQ H' q n t u := let ⟨dx, x, y, h1, h2, h3⟩ := h; ⟨dx, x, y, s _ _ h1, h2.same s, h3.same s⟩
/-- t over u is a over b in its form -/
def FormOf (n : Nat) (a b t u : PM) : Prop := (a = [] → t = [] ∧ Eqp u [(List.replicate n 0, 1)]) ∧
  (a ≠ [] → ∃ (p0 : Ex × Rat) (s : Ex), b[0]? = some p0 ∧ s.length = n ∧ (∀ j : Nat, (∀ p ∈ a ++ b, s.getD j 0 ≤ p.1.getD j 0) ∧ ∃ p ∈ a ++ b, s.getD j 0 = p.1.getD j 0) ∧
    Eqp t (qf ((lcmD ((a ++ b).map (·.2)) : Rat) / (sgG p0.2 (gcdN (a ++ b)) : Rat)) s a) ∧ Eqp u (qf ((lcmD ((a ++ b).map (·.2)) : Rat) / (sgG p0.2 (gcdN (a ++ b)) : Rat)) s b))
def spQIni (K : PySem.W.Frag) (CP CQ BZ : Addr) : Sp := fun vs H Q E => ∃ (q dx x y : Addr) (n Em D B : Nat) (a b : PM), vs = [.ref q, .ref x, .ref y] ∧ H q = some (.ins CQ dx []) ∧ PolyAt CP H x n a ∧ PolyAt CP H y n b ∧ Can n Em D B a ∧ Can n Em D B b ∧ n ≤ 80 ∧ Em ≤ 80 ∧ a.length < 64 ∧ b.length < 64 ∧ D < 2 ^ 1400 ∧ B * D < 2 ^ 5900 ∧ B * D * D < 2 ^ 5990 ∧
  ((b = [] ∧ ∀ d H2, H2 d = none → Same H H2 → E (.ref BZ) (some d) (upd H2 d errZ)) ∨
   (b ≠ [] ∧ ∀ H' x' y' t u, (∀ c o, c ≠ q → H c = some o → H' c = some o) → H' q = some (.ins CQ dx [("size", .int (n : Int)), ("top", .ref x'), ("bottom", .ref y')]) → PolyAt CP H' x' n t → PolyAt CP H' y' n u →
     Can n Em 1 (B * D * D * 64) t → Can n Em 1 (B * D * D * 64 + 1) u → t.length ≤ a.length → u.length ≤ b.length + 1 → FormOf n a b t u → Q .non H'))

abbrev stQ_init : Stmt := inClass (top 26) 0
theorem scQ_init : FnScope ["self", "top", "bottom", "least", "scale"] ["self", "top", "bottom"] (defScope stQ_init) := ⟨rfl, rfl, rfl, by decide +kernel, rfl, by decide +kernel, by decide +kernel⟩
theorem okQ_init (B : Blt mg) {CPoly CQuotient BZ BN BM UL fZ fN : Addr} {fdZ fdN : FuncData} (Es : ErP K mg CPoly CQuotient BZ BN BM UL fZ fN fdZ fdN) {flowest : Addr} {fdlowest : FuncData} (Dlowest : DefAt K mg "lowest" stlowest ["top", "bottom"] flowest fdlowest) {fas_ratio : Addr} {fdas_ratio : FuncData} (Das_ratio : DefAt K mg "as_ratio" stas_ratio ["value"] fas_ratio fdas_ratio) {fis_whole : Addr} {fdis_whole : FuncData} (Dis_whole : DefAt K mg "is_whole" stis_whole ["value"] fis_whole fdis_whole) {fare_integers : Addr} {fdare_integers : FuncData} (Dare_integers : DefAt K mg "are_integers" stare_integers ["items"] fare_integers fdare_integers) {fis_ratio : Addr} {fdis_ratio : FuncData} (Dis_ratio : DefAt K mg "is_ratio" stis_ratio ["value"] fis_ratio fdis_ratio) {fis_term : Addr} {fdis_term : FuncData} (Dis_term : DefAt K mg "is_term" stis_term ["term", "size"] fis_term fdis_term) {fratio_sum : Addr} {fdratio_sum : FuncData} (Dratio_sum : DefAt K mg "ratio_sum" stratio_sum ["one", "other"] fratio_sum fdratio_sum) {fP_init : Addr} {fdP_init : FuncData} (DP_init : IniA K "__init__" "Poly.__init__" stP_init ["self", "size", "terms"] CPoly fP_init fdP_init) {flowered : Addr} {fdlowered : FuncData} (Dlowered : DefAt K mg "lowered" stlowered ["terms", "least"] flowered fdlowered) {fbrought : Addr} {fdbrought : FuncData} (Dbrought : DefAt K mg "brought" stbrought ["poly", "scale", "least"] fbrought fdbrought) {fcommon_bottom : Addr} {fdcommon_bottom : FuncData} (Dcommon_bottom : DefAt K mg "common_bottom" stcommon_bottom ["ratios"] fcommon_bottom fdcommon_bottom) {fform_scale : Addr} {fdform_scale : FuncData} (Dform_scale : DefAt K mg "form_scale" stform_scale ["terms", "first"] fform_scale fdform_scale) {fleast_exponents : Addr} {fdleast_exponents : FuncData} (Dleast_exponents : DefAt K mg "least_exponents" stleast_exponents ["terms"] fleast_exponents fdleast_exponents) {fnumber_poly : Addr} {fdnumber_poly : FuncData} (Dnumber_poly : DefAt K mg "number_poly" stnumber_poly ["size", "ratio"] fnumber_poly fdnumber_poly) {fQ_init : Addr} {fdQ_init : FuncData} (DQ_init : IniA K "__init__" "Quotient.__init__" stQ_init ["self", "top", "bottom"] CQuotient fQ_init fdQ_init) : FnOk P w K mg base (L2.CX P w) 11 fQ_init fdQ_init ["self", "top", "bottom"] (spQIni K CPoly CQuotient BZ) := by
  have OKbrought : FnOk P w K mg base CX0 8 fbrought fdbrought ["poly", "scale", "least"] (spBro K CPoly) := okbrought B Es Dlowest Das_ratio Dis_whole Dare_integers Dis_ratio Dis_term Dratio_sum DP_init Dlowered Dbrought
  have OKform_scale : FnOk P w K mg base CX0 2 fform_scale fdform_scale ["terms", "first"] (spScale K) := okform_scale B Es Dcommon_bottom Dform_scale
  have OKleast_exponents : FnOk P w K mg base CX0 1 fleast_exponents fdleast_exponents ["terms"] (spLeast K) := okleast_exponents B  Dleast_exponents
  have OKnumber_poly : FnOk P w K mg base CX0 8 fnumber_poly fdnumber_poly ["size", "ratio"] (spNumP CPoly) := oknumber_poly B Es Dlowest Das_ratio Dis_whole Dare_integers Dis_ratio Dis_term Dratio_sum DP_init Dnumber_poly
  refine DQ_init.F.okX scQ_init (fun vs H Q E h => ?_) (fun cdv A outer s H vs Q E hr h => ?_)
  · obtain ⟨q0, dx, x, y, n, Em, D, B, a, b, rfl, _⟩ := h; rfl
  · have hu := hu_of hr
    refine ⟨_, (pss_cons (ps_if (pt_cmpR (op_eqD hr.units) (pe_fld (pv 2) rfl) (pe_tup pa_nil) (nomark _)) (pss_one (ps_raiseC rfl (takes_of rfl rfl rfl rfl) Es.eZ Es.iZ (oki_ByZero Es.eZ Es.iZ) (hr.mono (by decide)) (by decide) rfl (pa_cons pe_int pa_nil))) pss_nil)
    (pss_cons (ps_fld (pv 0) (pe_fld (pv 1) rfl) rfl)
    (pss_one (ps_if (pt_cmpR (op_eqD hr.units) (pe_fld (pv 1) rfl) (pe_tup pa_nil) (nomark _)) (pss_cons (ps_fld (pv 0) (pv 1) rfl)
    (pss_one (ps_fld (pv 0) (pe_call OKnumber_poly (hr.mono (by decide)) rfl Dnumber_poly.m Dnumber_poly.F.kp Dnumber_poly.b .nil pass0 (pa_cons (pe_fld (pv 1) rfl) (pa_cons pe_int pa_nil))) rfl))) (pss_cons (ps_set (i := 3) scQ_init.nd rfl (Or.inl rfl) (pe_call OKleast_exponents (hr.mono (by decide)) rfl Dleast_exponents.m Dleast_exponents.F.kp Dleast_exponents.b .nil pass0 (pa_cons (pe_op op_catA (pe_fld (pv 1) rfl) (pe_fld (pv 2) rfl)) pa_nil)))
    (pss_cons (ps_set (i := 4) scQ_init.nd rfl (Or.inl rfl) (pe_call OKform_scale (hr.mono (by decide)) rfl Dform_scale.m Dform_scale.F.kp Dform_scale.b .nil pass0 (pa_cons (pe_op op_catA (pe_fld (pv 1) rfl) (pe_fld (pv 2) rfl)) (pa_cons (pe_ix ix_tup (pe_ix ix_tup (pe_fld (pv 2) rfl) pe_int (fun _ _ => rfl)) pe_int (fun _ _ => rfl)) pa_nil))))
    (pss_cons (ps_fld (pv 0) (pe_call OKbrought (hr.mono (by decide)) rfl Dbrought.m Dbrought.F.kp Dbrought.b .nil pass0 (pa_cons (pv 1) (pa_cons (pv 4) (pa_cons (pv 3) pa_nil)))) rfl)
    (pss_one (ps_fld (pv 0) (pe_call OKbrought (hr.mono (by decide)) rfl Dbrought.m Dbrought.F.kp Dbrought.b .nil pass0 (pa_cons (pv 2) (pa_cons (pv 4) (pa_cons (pv 3) pa_nil)))) rfl))))))))), ?_⟩
    obtain ⟨q0, dx, x, y, n, Em, D, B, a, b, rfl, hq, hx, hy, ca, cb, hn, hE, fa, fb, hD, hBD, big, h⟩ := h
    obtain ⟨d1, T, ts, ex, eT, en⟩ := id hx
    obtain ⟨d2, U, us, ey, eU, em⟩ := id hy
    refine ⟨_, rfl, y, _, d2, _, _, rfl, ey, Es.cl, Es.nT, flP_t _ _, (by show 0 ≤ sizeLine; decide), fun te hte => ?_⟩
    have n1 := AL.Same.new (o := .tup []) hte
    refine ⟨_, _, dp_terms (n1 _ _ eU) (paired_mono em fun _ _ w => w.same n1), dp_terms (m := []) (ts := []) upd_same .nil, shaped_terms _, shaped_terms _, _, rfl, ?_⟩
    rw [PyData.eqv, eqv_terms]
    rcases h with ⟨b0, thr⟩ | ⟨b0, q⟩
    · rw [decide_eq_true b0]
      refine iteT ?_
      exact ⟨rfl, fun d hd => thr d _ hd n1⟩
    rw [decide_eq_false b0]
    refine iteF ?_
    have xq : x ≠ q0 := fun e => by rw [e, hq] at ex; cases ex
    have yq : y ≠ q0 := fun e => by rw [e, hq] at ey; cases ey
    refine ⟨_, rfl, x, _, d1, _, _, rfl, (n1 _ _ ex), Es.cl, Es.nS, flP_s _ _, _, rfl, q0, CQuotient, dx, [], rfl, n1 _ _ hq, Es.clQ, Es.qS, (by show 0 < 1000; decide), ?_⟩
    have kp1 : ∀ c o, c ≠ q0 → H c = some o → upd (upd H te (.tup [])) q0 (.ins CQuotient dx (putF "size" (V.int (n : Int)) [])) c = some o := fun c o ne w => by rw [upd_ne ne]; exact n1 _ _ w
    have f1 : upd (upd H te (.tup [])) q0 (.ins CQuotient dx (putF "size" (V.int (n : Int)) [])) q0 = some (.ins CQuotient dx [("size", V.int (n : Int))]) := upd_same
    generalize upd (upd H te (.tup [])) q0 (.ins CQuotient dx (putF "size" (V.int (n : Int)) [])) = H1 at kp1 f1 ⊢
    have X1 := poly_keep hx hq xq kp1
    have Y1 := poly_keep hy hq yq kp1
    clear n1 hte ex eT en ey eU em hx hy
    obtain ⟨d1, T, ts, ex, eT, en⟩ := id X1
    obtain ⟨d2, U, us, ey, eU, em⟩ := id Y1
    refine ⟨_, rfl, x, _, d1, _, _, rfl, ex, Es.cl, Es.nT, flP_t _ _, (by show 0 ≤ sizeLine; decide), fun te hte => ?_⟩
    have n2 := AL.Same.new (o := .tup []) hte
    refine ⟨_, _, dp_terms (n2 _ _ eT) (paired_mono en fun _ _ w => w.same n2), dp_terms (m := []) (ts := []) upd_same .nil, shaped_terms _, shaped_terms _, _, rfl, ?_⟩
    rw [PyData.eqv, eqv_terms]
    have f2 := n2 _ _ f1
    have X2 := X1.same n2
    have Y2 := Y1.same n2
    have kp2 : ∀ c o, c ≠ q0 → H c = some o → upd H1 te (.tup []) c = some o := fun c o ne w => n2 _ _ (kp1 c o ne w)
    generalize upd H1 te (.tup []) = H2 at n2 f2 X2 Y2 kp2 ⊢
    clear kp1 f1 X1 Y1 ex eT en ey eU em
    obtain ⟨d1, T, ts, ex, eT, en⟩ := id X2
    obtain ⟨d2, U, us, ey, eU, em⟩ := id Y2
    by_cases a0 : a = []
    · rw [decide_eq_true a0]
      refine iteT ?_
      refine ⟨_, rfl, _, rfl, q0, CQuotient, dx, _, rfl, f2, Es.clQ, Es.qT, (by show 1 < 1000; decide), ?_⟩
      have f3 : upd H2 q0 (.ins CQuotient dx (putF "top" (V.ref x) [("size", V.int (n : Int))])) q0 = some (.ins CQuotient dx [("size", V.int (n : Int)), ("top", .ref x)]) := upd_same
      have kp3 : ∀ c o, c ≠ q0 → H2 c = some o → upd H2 q0 (.ins CQuotient dx (putF "top" (V.ref x) [("size", V.int (n : Int))])) c = some o := fun c o ne w => by rw [upd_ne ne]; exact w
      generalize upd H2 q0 (.ins CQuotient dx (putF "top" (V.ref x) [("size", V.int (n : Int))])) = H3 at f3 kp3 ⊢
      have X3 := poly_keep X2 f2 xq kp3
      obtain ⟨d3, T3, ts3, ex3, _⟩ := id X3
      refine ⟨_, rfl, x, _, d3, _, _, rfl, ex3, Es.cl, Es.nS, flP_s _ _, n, rfl, hn, fun z H4 m s4 Z cz ez => ?_⟩
      have zq : z ≠ q0 := fun e => by obtain ⟨dz, Tz, tz, ez', _⟩ := Z; rw [e, s4 _ _ f3] at ez'; cases ez'
      refine ⟨_, rfl, q0, CQuotient, dx, _, rfl, s4 _ _ f3, Es.clQ, Es.qB, (by show 2 < 1000; decide), ?_⟩
      have kp5 : ∀ c o, c ≠ q0 → H4 c = some o → upd H4 q0 (.ins CQuotient dx (putF "bottom" (V.ref z) [("size", V.int (n : Int)), ("top", .ref x)])) c = some o := fun c o ne w => by rw [upd_ne ne]; exact w
      have mlen : m.length ≤ b.length + 1 := by
        have nd1 : (([(List.replicate n 0, (1 : Rat))] : PM).map (·.1)).Nodup := by simp
        have nz1 : NZ [(List.replicate n 0, (1 : Rat))] := fun p hp => by rw [List.mem_singleton] at hp; rw [hp]; exact (by decide +kernel : (1 : Rat) ≠ 0)
        have := len_eq (asc_nodup cz.asc) nd1 cz.nz nz1 ez
        rw [this]
        show 1 ≤ _
        omega
      refine q _ x z a m (fun c o ne w => kp5 c o ne (s4 _ _ (kp3 c o ne (kp2 c o ne w)))) upd_same (poly_keep (X3.same s4) (s4 _ _ f3) xq kp5) (poly_keep Z (s4 _ _ f3) zq kp5) ?_ ⟨cz.asc, cz.nz, cz.pb.mono (by omega) (Nat.zero_le _)⟩ (Nat.le_refl _) mlen ⟨fun _ => ⟨a0, ez⟩, fun w => absurd a0 w⟩
      rw [a0]
      exact ⟨.nil, (fun p hp => nomatch hp), fun p hp => nomatch hp⟩
    rw [decide_eq_false a0]
    refine iteF ?_
    have da : ∀ p ∈ a ++ b, p.2.den ∣ D := fun p hp => by
      rcases List.mem_append.mp hp with hp | hp
      · exact sz_dvd (ca.pb p hp).2.2
      · exact sz_dvd (cb.pb p hp).2.2
    have nb : ∀ p ∈ a ++ b, p.1.length = n ∧ (∀ k ∈ p.1, k ≤ Em) ∧ p.2.num.natAbs ≤ B * D := fun p hp => by
      rcases List.mem_append.mp hp with hp | hp
      · exact ⟨(ca.pb p hp).1, (ca.pb p hp).2.1, (ca.pb p hp).2.2.le.1⟩
      · exact ⟨(cb.pb p hp).1, (cb.pb p hp).2.1, (cb.pb p hp).2.2.le.1⟩
    obtain ⟨p0, hp0⟩ : ∃ p, b[0]? = some p := by
      cases b with
      | nil => exact absurd rfl b0
      | cons p r => exact ⟨p, rfl⟩
    have mp0 := List.mem_of_getElem? hp0
    have D0 : 0 < D := (cb.pb p0 mp0).2.2.1
    have lc := lcm_fold ((a ++ b).map (·.2)) 1 (by decide)
    have Ld : ∀ p ∈ a ++ b, p.2.den ∣ lcmD ((a ++ b).map (·.2)) := fun p hp => lc.2.2.1 p.2 (List.mem_map.mpr ⟨p, hp, rfl⟩)
    have LD : lcmD ((a ++ b).map (·.2)) ≤ D := Nat.le_of_dvd D0 (lc.2.2.2 D (Nat.one_dvd _) fun y hy => by
      obtain ⟨p, hp, rfl⟩ := List.mem_map.mp hy
      exact da p hp)
    have gf := gcd_fold (a ++ b) 0
    have gd : ∀ p ∈ a ++ b, gcdN (a ++ b) ∣ p.2.num.natAbs := gf.2.1
    have n0 : p0.2.num.natAbs ≠ 0 := fun w => cb.nz p0 mp0 (num_zero.mp (Int.natAbs_eq_zero.mp w))
    have mp1 : p0 ∈ a ++ b := List.mem_append_right _ mp0
    have g0 : gcdN (a ++ b) ≠ 0 := fun w => by
      have z := gd p0 mp1
      rw [w] at z
      exact n0 (Nat.eq_zero_of_zero_dvd z)
    have gle : gcdN (a ++ b) ≤ B * D := Nat.le_trans (Nat.le_of_dvd (by omega) (gd p0 mp1)) (nb p0 mp1).2.2
    have s0 : sgG p0.2 (gcdN (a ++ b)) ≠ 0 := by unfold sgG; split <;> omega
    have sn : (sgG p0.2 (gcdN (a ++ b))).natAbs = gcdN (a ++ b) := by unfold sgG; split <;> omega
    have sd : ∀ p ∈ a ++ b, sgG p0.2 (gcdN (a ++ b)) ∣ p.2.num := fun p hp => by
      have z := Int.ofNat_dvd_left.mpr (gd p hp)
      unfold sgG
      split
      · exact Int.neg_dvd.mpr z
      · exact z
    have cb' : ∀ p ∈ a ++ b, (cI (lcmD ((a ++ b).map (·.2))) (sgG p0.2 (gcdN (a ++ b))) p.2).natAbs ≤ B * D * D := fun p hp => by
      unfold cI
      rw [Int.natAbs_mul]
      exact Nat.mul_le_mul (Nat.le_trans (fdiv_le s0 (sd p hp)) (nb p hp).2.2) (Nat.le_trans (fdivN_le (Ld p hp) p.2.den_nz) LD)
    have zz : ∀ k, k ≤ 64 → Szs 1 (B * D * D) k := fun k hk => by
      have e6 : (2 : Nat) ^ 5990 * 2 ^ 6 < 2 ^ 5999 := by rw [← Nat.pow_add]; exact Nat.pow_lt_pow_right (by decide) (by decide)
      have e7 : (2 : Nat) ^ 5990 < 2 ^ 5999 := Nat.pow_lt_pow_right (by decide) (by decide)
      refine ⟨?_, by rw [Nat.mul_one]; exact Nat.lt_trans big e7, by decide +kernel⟩
      rw [Nat.mul_one]
      exact Nat.lt_of_le_of_lt (Nat.mul_le_mul (Nat.le_of_lt big) hk) e6
    have lts := prd_len en
    have lus := prd_len em
    have tne : ts.map V.ref ≠ [] := fun w => a0 (List.eq_nil_of_length_eq_zero (by rw [← lts, ← List.length_map (f := V.ref), w]; rfl))
    have une : us.map V.ref ≠ [] := fun w => b0 (List.eq_nil_of_length_eq_zero (by rw [← lus, ← List.length_map (f := V.ref), w]; rfl))
    have lab : (a ++ b).length < 200 := by rw [List.length_append]; omega
    have cl : (ts.map V.ref).length + (us.map V.ref).length ≤ sizeLine := by rw [List.length_map, List.length_map]; exact Nat.le_trans (by omega : _ ≤ 1000) (by decide)
    refine ⟨_, rfl, x, _, d1, _, _, rfl, ex, Es.cl, Es.nT, flP_t _ _, _, rfl, y, _, d2, _, _, rfl, ey, Es.cl, Es.nT, flP_t _ _, T, U, _, _, rfl, rfl, SqT.of eT, SqT.of eU, cl, fun z => absurd z tne, fun _ z => absurd z une, fun _ _ W hW => ?_⟩
    have nW := AL.Same.new (o := .tup (ts.map V.ref ++ us.map V.ref)) hW
    refine ⟨W, ts ++ us, a ++ b, n, rfl, by rw [upd_same, List.map_append], prd_app (paired_mono en fun _ _ w => w.same nW) (paired_mono em fun _ _ w => w.same nW), fun w => a0 (List.append_eq_nil_iff.mp w).1, fun p hp => (nb p hp).1, hn, lab, fun l H3 s s3 hl ls lst => ?_⟩
    have sA := nW.trans s3
    refine ⟨_, rfl, x, _, d1, _, _, rfl, (sA _ _ ex), Es.cl, Es.nT, flP_t _ _, _, rfl, y, _, d2, _, _, rfl, (sA _ _ ey), Es.cl, Es.nT, flP_t _ _, T, U, _, _, rfl, rfl, SqT.of (sA _ _ eT), SqT.of (sA _ _ eU), cl, fun z => absurd z tne, fun _ z => absurd z une, fun _ _ W2 hW2 => ?_⟩
    have nW2 := AL.Same.new (o := .tup (ts.map V.ref ++ us.map V.ref)) hW2
    have sB := sA.trans nW2
    obtain ⟨u0, hu0⟩ : ∃ u, us[0]? = some u := ⟨us[0]'(by have := (List.getElem?_eq_some_iff.mp hp0).1; omega), List.getElem?_eq_getElem _⟩
    obtain ⟨p0', hp0', ent0⟩ := prd_get em hu0
    rw [hp0] at hp0'
    cases Option.some.inj hp0'
    obtain ⟨k0, r0, hb0, hk0, hr0⟩ := ent0.same sB
    refine ⟨_, rfl, y, _, d2, _, _, rfl, (sB _ _ ey), Es.cl, Es.nT, flP_t _ _, U, _, _, _, rfl, rfl, SqT.of (sB _ _ eU), (by rw [show (0 : Int) = ((0 : Nat) : Int) from rfl]; exact atI_nat (by rw [List.getElem?_map, hu0]; rfl)), u0, _, _, _, rfl, rfl, SqT.of hb0, rfl, W2, r0, ts ++ us, a ++ b, p0.2, D, rfl, by rw [upd_same, List.map_append], prd_app (paired_mono en fun _ _ w => w.same sB) (paired_mono em fun _ _ w => w.same sB), hr0, lab, D0, Nat.lt_trans hD (Nat.pow_lt_pow_right (by decide) (by decide)), da, fun t H4 s4 ht => ?_⟩
    have sC := sB.trans s4
    have hl4 := (nW2.trans s4) _ _ hl
    have bro : ∀ p ∈ a ++ b, p.1.length = n ∧ (∀ k ∈ p.1, k ≤ Em) ∧ (∀ j : Nat, s.getD j 0 ≤ p.1.getD j 0) ∧ p.2.den ∣ lcmD ((a ++ b).map (·.2)) ∧ sgG p0.2 (gcdN (a ++ b)) ∣ p.2.num ∧ p.2.num.natAbs < 2 ^ 5900 ∧ (cI (lcmD ((a ++ b).map (·.2))) (sgG p0.2 (gcdN (a ++ b))) p.2).natAbs ≤ B * D * D := fun p hp =>
      ⟨(nb p hp).1, (nb p hp).2.1, fun j => (lst j).1 p hp, Ld p hp, sd p hp, Nat.lt_of_le_of_lt (nb p hp).2.2 hBD, cb' p hp⟩
    have sg3 : (sgG p0.2 (gcdN (a ++ b))).natAbs < 2 ^ 5900 := by rw [sn]; exact Nat.lt_of_le_of_lt gle hBD
    have L3 : lcmD ((a ++ b).map (·.2)) < 2 ^ 5900 := Nat.lt_of_le_of_lt LD (Nat.lt_trans hD (Nat.pow_lt_pow_right (by decide) (by decide)))
    refine ⟨_, rfl, _, rfl, _, rfl, x, t, l, n, Em, _, B * D * D, _, s, a, rfl, X2.same sC, ht, hl4, ls, hn, hE, fa, s0, sg3, L3, fun p hp => bro p (List.mem_append_left _ hp), zz _ (by omega), fun z1 H5 m1 s5 Z1 cz1 lz1 ez1 => ?_⟩
    have f5 := s5 _ _ (sC _ _ f2)
    have z1q : z1 ≠ q0 := fun e => by obtain ⟨dz, Tz, tz, ez', _⟩ := Z1; rw [e, f5] at ez'; cases ez'
    refine ⟨_, rfl, q0, CQuotient, dx, _, rfl, f5, Es.clQ, Es.qT, (by show 1 < 1000; decide), ?_⟩
    have sD := sC.trans s5
    have kp6 : ∀ c o, c ≠ q0 → H5 c = some o → upd H5 q0 (.ins CQuotient dx (putF "top" (V.ref z1) [("size", V.int (n : Int))])) c = some o := fun c o ne w => by rw [upd_ne ne]; exact w
    have f6 : upd H5 q0 (.ins CQuotient dx (putF "top" (V.ref z1) [("size", V.int (n : Int))])) q0 = some (.ins CQuotient dx [("size", V.int (n : Int)), ("top", .ref z1)]) := upd_same
    have Y6 := poly_keep (Y2.same sD) f5 yq kp6
    have Z16 := poly_keep Z1 f5 z1q kp6
    have ht6 := kp6 _ _ (fun e => by rw [e, sC _ _ f2] at ht; cases ht) (s5 _ _ ht)
    have hl6 := kp6 _ _ (fun e => by rw [e, sC _ _ f2] at hl4; cases hl4) (s5 _ _ hl4)
    have kpB : ∀ c o, c ≠ q0 → H c = some o → upd H5 q0 (.ins CQuotient dx (putF "top" (V.ref z1) [("size", V.int (n : Int))])) c = some o := fun c o ne w => kp6 _ _ ne (sD _ _ (kp2 c o ne w))
    generalize upd H5 q0 (.ins CQuotient dx (putF "top" (V.ref z1) [("size", V.int (n : Int))])) = H6 at kp6 f6 Y6 Z16 ht6 hl6 kpB ⊢
    refine ⟨_, rfl, _, rfl, _, rfl, y, t, l, n, Em, _, B * D * D, _, s, b, rfl, Y6, ht6, hl6, ls, hn, hE, fb, s0, sg3, L3, fun p hp => bro p (List.mem_append_right _ hp), zz _ (by omega), fun z2 H7 m2 s7 Z2 cz2 lz2 ez2 => ?_⟩
    have f7 := s7 _ _ f6
    have z2q : z2 ≠ q0 := fun e => by obtain ⟨dz, Tz, tz, ez', _⟩ := Z2; rw [e, f7] at ez'; cases ez'
    refine ⟨_, rfl, q0, CQuotient, dx, _, rfl, f7, Es.clQ, Es.qB, (by show 2 < 1000; decide), ?_⟩
    have kp8 : ∀ c o, c ≠ q0 → H7 c = some o → upd H7 q0 (.ins CQuotient dx (putF "bottom" (V.ref z2) [("size", V.int (n : Int)), ("top", .ref z1)])) c = some o := fun c o ne w => by rw [upd_ne ne]; exact w
    exact q _ z1 z2 m1 m2 (fun c o ne w => kp8 c o ne (s7 _ _ (kpB c o ne w))) upd_same (poly_keep (Z16.same s7) f7 z1q kp8) (poly_keep Z2 f7 z2q kp8)
      ⟨cz1.asc, cz1.nz, cz1.pb.mono (Nat.mul_le_mul_left _ (by omega)) (Nat.le_refl _)⟩ ⟨cz2.asc, cz2.nz, cz2.pb.mono (Nat.le_trans (Nat.mul_le_mul_left _ (by omega : b.length ≤ 64)) (Nat.le_add_right _ _)) (Nat.le_refl _)⟩ lz1 (by omega)
      ⟨fun w => absurd w a0, fun _ => ⟨p0, s, hp0, ls, lst, ez1, ez2⟩⟩
end
end AL
set_option Elab.async false
set_option maxRecDepth 100000
set_option exponentiation.threshold 70000
set_option maxHeartbeats 1000000
namespace AL
open PySem PySem.Spec PyProof.Rows L2 RZ
section
variable {P : Program} {w : World} {K : PySem.W.Frag} {mg : Str → Option Value} {base : Heap}
/-- x == y -/
def spEqX (K : PySem.W.Frag) (CP : Addr) : Sp := fun vs H Q _ => ∃ (x : Addr) (y : V) (n : Nat) (a : PM), vs = [.ref x, y] ∧ PolyAt CP H x n a ∧
  ((∃ (z : Addr) (m : Nat) (b : PM), y = .ref z ∧ PolyAt CP H z m b ∧ Q (.bl (decide (n = m) && decide (a = b))) H) ∨ (∃ u, TyX K H y u ∧ PySem.W.kitOne K u (.ref CP) = some false ∧ Q (.bl false) H))

theorem flQ_t (a b c : V) : ([("size", a), ("top", b), ("bottom", c)] : List (Str × V)).lookup ("top" : Str) = some b := rfl
theorem flQ_b (a b c : V) : ([("size", a), ("top", b), ("bottom", c)] : List (Str × V)).lookup ("bottom" : Str) = some c := rfl
def spQEq (K : PySem.W.Frag) (CP CQ : Addr) : Sp := fun vs H Q _ => ∃ (q : Addr) (v : V) (n : Nat) (t u : PM), vs = [.ref q, v] ∧ QuoAt CP CQ H q n t u ∧
  ((∃ (r : Addr) (m : Nat) (t' u' : PM), v = .ref r ∧ QuoAt CP CQ H r m t' u' ∧ Q (.bl (decide (n = m) && decide (t = t') && decide (u = u'))) H) ∨ (∃ w, TyX K H v w ∧ PySem.W.kitOne K w (.ref CQ) = some false ∧ Q (.bl false) H))
def spNothing (CP CQ : Addr) : Sp := fun vs H Q _ => ∃ (q : Addr) (n : Nat) (t u : PM), vs = [.ref q] ∧ QuoAt CP CQ H q n t u ∧ ∀ H', Same H H' → Q (.bl (decide (t = []))) H'

abbrev stP_eq : Stmt := inClass (top 21) 5
theorem scP_eq : FnScope ["self", "other"] ["self", "other"] (defScope stP_eq) := ⟨rfl, rfl, rfl, by decide +kernel, rfl, by decide +kernel, by decide +kernel⟩
theorem okP_eq (B : Blt mg) {CPoly CQuotient BZ BN BM UL fZ fN : Addr} {fdZ fdN : FuncData} (Es : ErP K mg CPoly CQuotient BZ BN BM UL fZ fN fdZ fdN) {fP_eq : Addr} {fdP_eq : FuncData} (DP_eq : MetA K "__eq__" "Poly.__eq__" stP_eq ["self", "other"] CPoly fP_eq fdP_eq) : FnOk P w K mg base CX0 1 fP_eq fdP_eq ["self", "other"] (spEqX K CPoly) := by
  refine DP_eq.F.ok scP_eq (fun vs H Q E h => ?_) (fun cdv A outer s H vs Q E hr h => ?_)
  · obtain ⟨x, y, n, a, rfl, _⟩ := h; rfl
  · have hu := hu_of hr
    refine ⟨_, (pss_one (ps_ret (pe_and (pe_callB call_isi (by rfl) B.isinstance_ (by decide +kernel) (pa_cons (pv 1) (pa_cons (pe_glob (v := .ref CPoly) rfl Es.mP rfl) pa_nil))) (pe_and (pe_cmpR op_eq (pe_fld (pv 0) rfl) (pe_fld (pv 1) rfl) (nomark _)) (pe_one (pe_cmpR (op_eqD hr.units) (pe_fld (pv 0) rfl) (pe_fld (pv 1) rfl) (nomark _))))))), ?_⟩
    obtain ⟨x, y, n, a, rfl, hx, h⟩ := h
    obtain ⟨dx, T, ts, ex, eT, en⟩ := hx
    rcases h with ⟨z, m, b, rfl, hz, q⟩ | ⟨u, ty, no, q⟩
    · obtain ⟨dy, U, us, ey, eU, em⟩ := hz
      refine ⟨_, rfl, _, _, _, _, _, rfl, ClsV.own _, TyX.base (.ins ey Es.cl Es.c1 Es.c2 Es.c3 Es.c4), Es.k1, true, rfl, ?_⟩
      refine iteT ?_
      refine ⟨_, rfl, x, _, dx, _, _, rfl, ex, Es.cl, Es.nS, flP_s _ _, _, rfl, z, _, dy, _, _, rfl, ey, Es.cl, Es.nS, flP_s _ _, rfl, _, rfl, ?_⟩
      by_cases h : n = m
      · subst h
        rw [decide_eq_true rfl]
        refine iteT ?_
        refine ⟨_, rfl, x, _, dx, _, _, rfl, ex, Es.cl, Es.nT, flP_t _ _, _, rfl, z, _, dy, _, _, rfl, ey, Es.cl, Es.nT, flP_t _ _, _, _, dp_terms eT en, dp_terms eU em, shaped_terms _, shaped_terms _, ?_⟩
        rw [PyData.eqv, eqv_terms]
        rw [decide_eq_true rfl, Bool.true_and] at q
        exact q
      · rw [decide_eq_false (fun w => h (by injection w with w; omega))]
        refine iteF ?_
        rw [decide_eq_false h, Bool.false_and] at q
        exact q
    · refine ⟨_, rfl, _, _, _, _, _, rfl, ClsV.own _, ty, no, false, rfl, ?_⟩
      refine iteF ?_
      exact q
abbrev stQ_eq : Stmt := inClass (top 26) 5
theorem scQ_eq : FnScope ["self", "other"] ["self", "other"] (defScope stQ_eq) := ⟨rfl, rfl, rfl, by decide +kernel, rfl, by decide +kernel, by decide +kernel⟩
theorem okQ_eq (B : Blt mg) {CPoly CQuotient BZ BN BM UL fZ fN : Addr} {fdZ fdN : FuncData} (Es : ErP K mg CPoly CQuotient BZ BN BM UL fZ fN fdZ fdN) {fP_eq : Addr} {fdP_eq : FuncData} (DP_eq : MetA K "__eq__" "Poly.__eq__" stP_eq ["self", "other"] CPoly fP_eq fdP_eq) {fQ_eq : Addr} {fdQ_eq : FuncData} (DQ_eq : MetA K "__eq__" "Quotient.__eq__" stQ_eq ["self", "other"] CQuotient fQ_eq fdQ_eq) : FnOk P w K mg base CX0 2 fQ_eq fdQ_eq ["self", "other"] (spQEq K CPoly CQuotient) := by
  have OKP_eq : FnOk P w K mg base CX0 1 fP_eq fdP_eq ["self", "other"] (spEqX K CPoly) := okP_eq B Es DP_eq
  refine DQ_eq.F.ok scQ_eq (fun vs H Q E h => ?_) (fun cdv A outer s H vs Q E hr h => ?_)
  · obtain ⟨q0, v, n, t, u, rfl, _⟩ := h; rfl
  · have hu := hu_of hr
    refine ⟨_, (pss_one (ps_ret (pe_and (pe_callB call_isi (by rfl) B.isinstance_ (by decide +kernel) (pa_cons (pv 1) (pa_cons (pe_glob (v := .ref CQuotient) rfl Es.mQ rfl) pa_nil))) (pe_and (pe_cmpR (op_ownE DP_eq.M OKP_eq (hr.mono (by decide)) DP_eq.b pass0) (pe_fld (pv 0) rfl) (pe_fld (pv 1) rfl) (nomark _)) (pe_one (pe_cmpR (op_ownE DP_eq.M OKP_eq (hr.mono (by decide)) DP_eq.b pass0) (pe_fld (pv 0) rfl) (pe_fld (pv 1) rfl) (nomark _))))))), ?_⟩
    obtain ⟨q0, v, n, t, u, rfl, hq, h⟩ := h
    obtain ⟨dq, x, y, eq, hx, hy⟩ := hq
    rcases h with ⟨r, m, t', u', rfl, hr, k⟩ | ⟨w, ty, no, k⟩
    · obtain ⟨dr, x', y', er, hx', hy'⟩ := hr
      refine ⟨_, rfl, _, _, _, _, _, rfl, ClsV.own _, TyX.base (.ins er Es.clQ Es.d1 Es.c2 Es.c3 Es.d4), Es.kQ, true, rfl, ?_⟩
      refine iteT ?_
      obtain ⟨dx', X', xs', ex', _⟩ := id hx'
      obtain ⟨dy', Y', ys', ey', _⟩ := id hy'
      refine ⟨_, rfl, q0, _, dq, _, _, rfl, eq, Es.clQ, Es.qT, flQ_t _ _ _, _, rfl, r, _, dr, _, _, rfl, er, Es.clQ, Es.qT, flQ_t _ _ _, x, _, rfl, hx.ins, TyX.base (.ins ex' Es.cl Es.c1 Es.c2 Es.c3 Es.c4), Es.nf, x, _, n, t, rfl, hx, .inl ⟨x', m, t', rfl, hx', .inr ⟨_, rfl⟩, _, rfl, ?_⟩⟩
      by_cases hnm : (decide (n = m) && decide (t = t')) = true
      · rw [hnm]
        refine iteT ?_
        refine ⟨_, rfl, q0, _, dq, _, _, rfl, eq, Es.clQ, Es.qB, flQ_b _ _ _, _, rfl, r, _, dr, _, _, rfl, er, Es.clQ, Es.qB, flQ_b _ _ _, y, _, rfl, hy.ins, TyX.base (.ins ey' Es.cl Es.c1 Es.c2 Es.c3 Es.c4), Es.nf, y, _, n, u, rfl, hy, .inl ⟨y', m, u', rfl, hy', .inr ⟨_, rfl⟩, ?_⟩⟩
        rw [hnm, Bool.true_and] at k
        rw [Bool.and_eq_true] at hnm
        rw [hnm.1, Bool.true_and]
        exact k
      · rw [Bool.not_eq_true] at hnm
        rw [hnm]
        refine iteF ?_
        rw [hnm, Bool.false_and] at k
        exact k
    · refine ⟨_, rfl, _, _, _, _, _, rfl, ClsV.own _, ty, no, false, rfl, ?_⟩
      refine iteF ?_
      exact k
abbrev stis_nothing : Stmt := top 27
theorem scis_nothing : FnScope ["f"] ["f"] (defScope stis_nothing) := ⟨rfl, rfl, rfl, by decide +kernel, rfl, by decide +kernel, by decide +kernel⟩
theorem okis_nothing (B : Blt mg) {CPoly CQuotient BZ BN BM UL fZ fN : Addr} {fdZ fdN : FuncData} (Es : ErP K mg CPoly CQuotient BZ BN BM UL fZ fN fdZ fdN) {fis_nothing : Addr} {fdis_nothing : FuncData} (Dis_nothing : DefAt K mg "is_nothing" stis_nothing ["f"] fis_nothing fdis_nothing) : FnOk P w K mg base CX0 1 fis_nothing fdis_nothing ["f"] (spNothing CPoly CQuotient) := by
  refine Dis_nothing.F.ok scis_nothing (fun vs H Q E h => ?_) (fun cdv A outer s H vs Q E hr h => ?_)
  · obtain ⟨q0, n, t, u, rfl, _⟩ := h; rfl
  · have hu := hu_of hr
    refine ⟨_, (pss_one (ps_ret (pe_cmpR (op_eqD hr.units) (pe_fld (pe_fld (pv 0) rfl) rfl) (pe_tup pa_nil) (nomark _)))), ?_⟩
    obtain ⟨q0, n, t, u, rfl, hq, k⟩ := h
    obtain ⟨dq, x, y, eq, hx, hy⟩ := hq
    obtain ⟨dx, T, ts, ex, eT, en⟩ := hx
    refine ⟨_, rfl, q0, _, dq, _, _, rfl, eq, Es.clQ, Es.qT, flQ_t _ _ _, x, _, dx, _, _, rfl, ex, Es.cl, Es.nT, flP_t _ _, (by show 0 ≤ sizeLine; decide), fun te hte => ?_⟩
    have n1 := AL.Same.new (o := .tup []) hte
    refine ⟨_, _, dp_terms (n1 _ _ eT) (paired_mono en fun _ _ w => w.same n1), dp_terms (m := []) (ts := []) upd_same .nil, shaped_terms _, shaped_terms _, ?_⟩
    rw [PyData.eqv, eqv_terms]
    exact k _ n1
end
end AL
set_option Elab.async false
set_option linter.all false
set_option maxRecDepth 100000
/-! set(l), l a list of ints, as sorted(set(l)) wants it. -/
namespace AL
open PySem PySem.Spec PyProof.Rows L2
section
variable {prog : Program} {w : World} {A : Around} {E : Value → Shared → Prop} {s : Shared}
abbrev eSet (w : World) : Obj := { cls := .type "set", dict := none, data := .set #[] 0 (.fresh 0 0 (!w.params.followText "set-order")) }
set_option maxHeartbeats 3200000 in
theorem set_of_list {b : Addr} {its : Array Value} (ks : List Int) {Q : Value → Shared → Prop} (calm : A.handled = none) (isl : s.heap.IsList b its) (isk : IntsAre its.toList ks) (few : ks.length + 1 < scanBound)
    (kq : ∀ (g : Heap) (u m : Nat), SetR w g s.heap.objs.size (fun j => decide (j ∈ ks)) m → m ≤ ks.length → (∀ c o, s.heap.get? c = some o → g.get? c = some o) → Q (.ref s.heap.objs.size) { s with heap := g, toks := u }) :
    wpAny (model prog w) A (call (.type "set") [.ref b]) Q E s := by
  have size : its.size = ks.length := (Array.length_toList (xs := its)).symm.trans (IntsAre.length isk)
  obtain ⟨c0, rest0, order0⟩ := F.called_set.mro
  have f1 := F.called_set.made
  have f2 := F.called_set.sub
  refine wpAny_call (codeAny_of_tree (show wpAny _ _ (callAny (.type "set") _) _ _ _ from ?_))
  refine wpAny_pure ⟨Code.quiet_builtin _ (by first | decide +kernel | kernel_rfl), codeAny_builtin F.entry_type_call ?_⟩
  rw [Around.under_plain (weight_type_call_type "set" [.ref b] []) (Eq.refl _)]
  have f3 := F.called_set.notType
  have f4 := F.called_set.canCreate
  have f5 := F.typeCall_set_1 (.ref b)
  repeat (any_goals (first | assumption | wp_step))
  refine codeAny_mono (L2.code_set_led1 (.ref b) (E := E) (Q₁ := fun x t => x = .ref s.heap.objs.size ∧ t = { s with heap := s.heap.push (eSet w) }) ⟨rfl, rfl⟩) fun r t hr => ?_
  rcases r with e | fl
  · exact hr
  cases fl with
  | ret x =>
    obtain ⟨rfl, rfl⟩ := hr
    have top : (s.heap.push (eSet w)).get? s.heap.objs.size = some (eSet w) := Heap.get?_push_size _ rfl
    have isSet : Shared.TypeIs { s with heap := s.heap.push (eSet w) } (.ref s.heap.objs.size) "set" := ⟨_, top, rfl⟩
    have f6 := F.called_set.init.lookup
    have f7 := F.called_set.init.bind (.ref s.heap.objs.size)
    repeat (any_goals (first | assumption | wp_step))
    refine codeAny_mono (codeAny_call_builtin (R := wants (fun y t2 => y = .none ∧ ∃ g u m, t2 = { s with heap := g, toks := u } ∧ SetR w g s.heap.objs.size (fun j => decide (j ∈ ks)) m ∧ m ≤ ks.length ∧ ∀ c o, s.heap.get? c = some o → g.get? c = some o) E) F.called_set.init.plain F.entry_set_init (check_set_init_1 isSet ?_)) fun y t2 hy => ?_
    · obtain ⟨⟨q1, q2, q3, q4⟩, hb, hc, nl, hd⟩ := isl
      dsimp only at hc hd
      subst hc hd
      have hb1 : (s.heap.push (eSet w)).get? b = some { cls := .type "list", dict := q2, data := .seq its nl, slots := q4 } := Heap.get?_push_of_some _ hb
      have g1 := F.sub_list_set
      have g2 := F.sub_list_frozenset
      have g3 : (Value.type "list" == Value.type "dict") = false := by first | decide | rfl
      have isl1 : (s.heap.push (eSet w)).IsList b its := ⟨_, hb1, rfl, nl, rfl⟩
      unfold Builtin.«set.__init__» noKeywords Builtin.Frozenset.updateFrom
      generalize iterIs : pyIter = IT
      wp_walk
      subst iterIs
      refine wpAny_pyIter_list isl1 (wpAny_bind (wpAny_runValue ?_))
      have lb : b < s.heap.objs.size := Heap.lt_size hb
      have calm3 : A.in1.in1.in1.handled = none := by simp [calm]
      have sz : (s.heap.push (eSet w)).objs.size = s.heap.objs.size + 1 := Heap.size_push ..
      have nb : b ≠ (s.heap.push (eSet w)).objs.size := by rw [sz]; exact Nat.ne_of_lt (Nat.lt_succ_of_lt lb)
      have nS : s.heap.objs.size ∉ [(s.heap.push (eSet w)).objs.size, b] := by
        rw [sz]
        intro z
        rcases List.mem_cons.mp z with z | z
        · omega
        · rw [List.mem_singleton] at z; exact absurd z (Nat.ne_of_gt lb)
      have vals : ∀ (i : Nat) (v : Value), its[i]? = some v → ∃ k t, ks[i]? = some k ∧ v = .int k t := fun i v hv => by
        have hi : i < ks.length := size ▸ (Array.getElem?_eq_some_iff.mp hv).1
        obtain ⟨t, e⟩ := IntsAre.int_at isk i v (by rw [Array.getElem?_toList]; exact hv)
        refine ⟨ks[i], t, List.getElem?_eq_getElem hi, ?_⟩
        rw [e, List.getD_eq_getElem?_getD, List.getElem?_eq_getElem hi]
        rfl
      refine L2.set_update_ints ((Walks.list calm3 _ b nb its).toS) s.heap.objs.size nS ks size few vals (its.size - 0) 0 _ (by omega) (Nat.zero_le _) ⟨⟨_, Heap.get?_push_size _ rfl, rfl, rfl⟩, (isl1.push _)⟩ ⟨0, Nat.le_refl 0, L2.setR_new_at (Heap.get?_push_of_some _ top)⟩ ?_
      rintro ⟨g, g2', d', u, o'⟩ m mv lm R
      cases (show g2' = s.gens from mv.gens)
      cases (show d' = s.drawn from mv.drawn)
      cases (show o' = s.os from mv.os)
      show wpAny _ _ _ _ _ _
      refine wpAny_pure ?_
      show wpAny _ _ (ret Value.none) _ _ _
      refine wpAny_pure ⟨rfl, g, u, m, rfl, R, size ▸ lm, fun c o e => ?_⟩
      have lc := Heap.lt_size e
      refine mv.heap c o (fun z => ?_) (Heap.get?_push_of_some _ (Heap.get?_push_of_some _ e))
      rcases List.mem_cons.mp z with z | z
      · exact absurd z (Nat.ne_of_lt lc)
      · rw [List.mem_singleton] at z
        exact absurd (z.trans sz) (Nat.ne_of_lt (Nat.lt_succ_of_lt lc))
    · rcases y with e | fl2
      · exact hy
      cases fl2 with
      | ret r2 =>
        obtain ⟨rfl, g, u, m, rfl, R, lm, kp⟩ := hy
        repeat (any_goals (first | assumption | wp_step))
        exact kq _ _ _ R lm kp
      | _ => exact hy.elim
  | _ => exact hr.elim
end
section
variable {X : Cx}
/-- set(l), l a list of ints -/
def rSetLI (K : PySem.W.Frag) (w : World) : List V → Hp → VK → Prop := fun xs H Q => ∃ (a : Addr) (ns : List Int), xs = [V.ref a] ∧ SqL K H a (ns.map V.int) ∧ ns.length ≤ 1000 ∧ ∀ p m, H p = none → m ≤ ns.length → Q (.ref p) (upd H p (SetO w p (fun k => decide (k ∈ ns)) m))
theorem cr_setLI (hc : X.calm = true) : CallR X (.type "set") (rSetLI X.K X.w) := by
  intro pins s σ H xs us Q I r h
  obtain ⟨a, ns, rfl, hs, few, q⟩ := h
  obtain ⟨its, rv, pl, hz⟩ := I.list hs
  rw [Vals.ref1 r]
  refine set_of_list ns (I.ok.hd hc) pl.isList (by simpa using Vals.ints rv) (by unfold scanBound; omega) fun g u m R lm kp => ?_
  exact ⟨.ref s.heap.objs.size, upd H s.heap.objs.size (SetO X.w s.heap.objs.size (fun k => decide (k ∈ ns)) m), I.laid (t' := u) kp (Nat.le_refl _) (setO_new R), rfl, q _ m (I.hok.fresh (Nat.le_refl _)) lm⟩
end
end AL
set_option Elab.async false
set_option linter.all false
set_option maxRecDepth 100000
/-! set(l) of unlike ints, l a list or a tuple, and how many these are. -/
namespace AL
open PySem PySem.Spec PyProof.Rows L2
section
variable {prog : Program} {w : World} {A : Around} {E : Value → Shared → Prop} {s : Shared}
set_option maxHeartbeats 3200000 in
theorem set_of_tup {b : Addr} {its : Array Value} (ks : List Int) {Q : Value → Shared → Prop} (calm : A.handled = none) (isl : s.heap.IsTuple b its) (isk : IntsAre its.toList ks) (few : ks.length + 1 < scanBound)
    (kq : ∀ (g : Heap) (u m : Nat), SetR w g s.heap.objs.size (fun j => decide (j ∈ ks)) m → m ≤ ks.length → (∀ c o, s.heap.get? c = some o → g.get? c = some o) → Q (.ref s.heap.objs.size) { s with heap := g, toks := u }) :
    wpAny (model prog w) A (call (.type "set") [.ref b]) Q E s := by
  have size : its.size = ks.length := (Array.length_toList (xs := its)).symm.trans (IntsAre.length isk)
  obtain ⟨c0, rest0, order0⟩ := F.called_set.mro
  have f1 := F.called_set.made
  have f2 := F.called_set.sub
  refine wpAny_call (codeAny_of_tree (show wpAny _ _ (callAny (.type "set") _) _ _ _ from ?_))
  refine wpAny_pure ⟨Code.quiet_builtin _ (by first | decide +kernel | kernel_rfl), codeAny_builtin F.entry_type_call ?_⟩
  rw [Around.under_plain (weight_type_call_type "set" [.ref b] []) (Eq.refl _)]
  have f3 := F.called_set.notType
  have f4 := F.called_set.canCreate
  have f5 := F.typeCall_set_1 (.ref b)
  repeat (any_goals (first | assumption | wp_step))
  refine codeAny_mono (L2.code_set_led1 (.ref b) (E := E) (Q₁ := fun x t => x = .ref s.heap.objs.size ∧ t = { s with heap := s.heap.push (eSet w) }) ⟨rfl, rfl⟩) fun r t hr => ?_
  rcases r with e | fl
  · exact hr
  cases fl with
  | ret x =>
    obtain ⟨rfl, rfl⟩ := hr
    have top : (s.heap.push (eSet w)).get? s.heap.objs.size = some (eSet w) := Heap.get?_push_size _ rfl
    have isSet : Shared.TypeIs { s with heap := s.heap.push (eSet w) } (.ref s.heap.objs.size) "set" := ⟨_, top, rfl⟩
    have f6 := F.called_set.init.lookup
    have f7 := F.called_set.init.bind (.ref s.heap.objs.size)
    repeat (any_goals (first | assumption | wp_step))
    refine codeAny_mono (codeAny_call_builtin (R := wants (fun y t2 => y = .none ∧ ∃ g u m, t2 = { s with heap := g, toks := u } ∧ SetR w g s.heap.objs.size (fun j => decide (j ∈ ks)) m ∧ m ≤ ks.length ∧ ∀ c o, s.heap.get? c = some o → g.get? c = some o) E) F.called_set.init.plain F.entry_set_init (check_set_init_1 isSet ?_)) fun y t2 hy => ?_
    · obtain ⟨⟨q1, q2, q3, q4⟩, hb, hc, nl, hd⟩ := isl
      dsimp only at hc hd
      subst hc hd
      have hb1 : (s.heap.push (eSet w)).get? b = some { cls := .type "tuple", dict := q2, data := .seq its nl, slots := q4 } := Heap.get?_push_of_some _ hb
      have g1 := F.sub_tuple_set
      have g2 := F.sub_tuple_frozenset
      have g3 : (Value.type "tuple" == Value.type "dict") = false := by first | decide | rfl
      have isl1 : (s.heap.push (eSet w)).IsTuple b its := ⟨_, hb1, rfl, nl, rfl⟩
      unfold Builtin.«set.__init__» noKeywords Builtin.Frozenset.updateFrom
      generalize iterIs : pyIter = IT
      wp_walk
      subst iterIs
      refine wpAny_pyIter_tuple isl1 (wpAny_bind (wpAny_runValue ?_))
      have lb : b < s.heap.objs.size := Heap.lt_size hb
      have calm3 : A.in1.in1.in1.handled = none := by simp [calm]
      have sz : (s.heap.push (eSet w)).objs.size = s.heap.objs.size + 1 := Heap.size_push ..
      have nb : b ≠ (s.heap.push (eSet w)).objs.size := by rw [sz]; exact Nat.ne_of_lt (Nat.lt_succ_of_lt lb)
      have nS : s.heap.objs.size ∉ [(s.heap.push (eSet w)).objs.size, b] := by
        rw [sz]
        intro z
        rcases List.mem_cons.mp z with z | z
        · omega
        · rw [List.mem_singleton] at z; exact absurd z (Nat.ne_of_gt lb)
      have vals : ∀ (i : Nat) (v : Value), its[i]? = some v → ∃ k t, ks[i]? = some k ∧ v = .int k t := fun i v hv => by
        have hi : i < ks.length := size ▸ (Array.getElem?_eq_some_iff.mp hv).1
        obtain ⟨t, e⟩ := IntsAre.int_at isk i v (by rw [Array.getElem?_toList]; exact hv)
        refine ⟨ks[i], t, List.getElem?_eq_getElem hi, ?_⟩
        rw [e, List.getD_eq_getElem?_getD, List.getElem?_eq_getElem hi]
        rfl
      refine L2.set_update_ints ((Walks.tuple calm3 _ b nb its).toS) s.heap.objs.size nS ks size few vals (its.size - 0) 0 _ (by omega) (Nat.zero_le _) ⟨⟨_, Heap.get?_push_size _ rfl, rfl, rfl⟩, (isl1.push _)⟩ ⟨0, Nat.le_refl 0, L2.setR_new_at (Heap.get?_push_of_some _ top)⟩ ?_
      rintro ⟨g, g2', d', u, o'⟩ m mv lm R
      cases (show g2' = s.gens from mv.gens)
      cases (show d' = s.drawn from mv.drawn)
      cases (show o' = s.os from mv.os)
      show wpAny _ _ _ _ _ _
      refine wpAny_pure ?_
      show wpAny _ _ (ret Value.none) _ _ _
      refine wpAny_pure ⟨rfl, g, u, m, rfl, R, size ▸ lm, fun c o e => ?_⟩
      have lc := Heap.lt_size e
      refine mv.heap c o (fun z => ?_) (Heap.get?_push_of_some _ (Heap.get?_push_of_some _ e))
      rcases List.mem_cons.mp z with z | z
      · exact absurd z (Nat.ne_of_lt lc)
      · rw [List.mem_singleton] at z
        exact absurd (z.trans sz) (Nat.ne_of_lt (Nat.lt_succ_of_lt lc))
    · rcases y with e | fl2
      · exact hy
      cases fl2 with
      | ret r2 =>
        obtain ⟨rfl, g, u, m, rfl, R, lm, kp⟩ := hy
        repeat (any_goals (first | assumption | wp_step))
        exact kq _ _ _ R lm kp
      | _ => exact hy.elim
  | _ => exact hr.elim
end
theorem nodup_len {l m : List Int} (hl : l.Nodup) (hm : m.Nodup) (h : ∀ k, k ∈ l ↔ k ∈ m) : l.length = m.length :=
  (List.perm_iff_count.mpr fun k => by
    rw [hl.count, hm.count]
    by_cases z : k ∈ l
    · rw [if_pos z, if_pos ((h k).mp z)]
    · rw [if_neg z, if_neg fun y => z ((h k).mpr y)]).length_eq
theorem setR_len {w : World} {h : Heap} {a : Addr} {ns : List Int} {m : Nat} (R : SetR w h a (fun j => decide (j ∈ ns)) m) (nd : ns.Nodup) : m = ns.length := by
  obtain ⟨o, es, ep, t, ho, hx, hd, gd, nd2, mem, few, fit, sz, _⟩ := R
  have e := nodup_len nd2 nd fun k => by
    rw [← mem k]; exact decide_eq_true_iff
  rw [List.length_map, Array.length_toList] at e
  omega
section
variable {X : Cx}
/-- len(set(l)), l a list or a tuple of unlike ints -/
def tLenSetQ (K : PySem.W.Frag) (ta : TE) : TE := fun σ H Q => ta σ H fun x H1 => ∃ (l : Addr) (ns : List Int), x = .ref l ∧ (SqL K H1 l (ns.map V.int) ∨ SqT K H1 l (ns.map V.int)) ∧ ns.Nodup ∧ ns.length ≤ 1000 ∧ Q (.int (ns.length : Nat)) H1
theorem pe_lenSetQ {a : Expr} {ta : TE} {p p2 q pos : Pos} (hg : Gl X "len") (hm : X.mg "len" = none) (hg2 : Gl X "set") (hm2 : X.mg "set" = none) (ha : PE X a ta) (hc : X.calm = true := by rfl)
    (na : starEach [a] X.env = (false, eval a X.env) :: starEach [] X.env := by rfl) : PE X (.Call (.Name "len" p) [.Call (.Name "set" p2) [a] [] q] [] pos) (tLenSetQ X.K ta) := by
  refine ⟨fun pins s σ H Q I h => ?_⟩
  refine Call_ (ld_blt I hg hm boot_len ?_)
  refine PyProof.Rows.callWith_builtin1 (PyProof.Rows.args_cons ?_ rfl) rfl rfl
  refine Call_ (ld_blt I hg2 hm2 boot_set ?_)
  refine PyProof.Rows.callWith_type1 (PyProof.Rows.args_cons (thn (ha.run pins s σ H _ I h) fun v s1 ⟨x, H1, I1, r1, q1⟩ => PyProof.Rows.args_nil ?_) na) na rfl
  obtain ⟨l, ns, rfl, hq, hnd, hl, q1⟩ := q1
  cases r1
  have few : ns.length + 1 < scanBound := by unfold scanBound; omega
  rcases hq with hq | hq
  · obtain ⟨its, r, pl, hz⟩ := I1.list hq
    refine set_of_list ns (I1.ok.hd hc) pl.isList (by simpa using Vals.ints r) few fun g u m R lm kp => ?_
    refine PyProof.Rows.args_nil ?_
    have em := setR_len R hnd
    obtain ⟨o, es, ep, t, ho, hex, hd, _, _, _, fw, hf, hn, _⟩ := R
    have I2 : Inv X pins σ H1 { s1 with heap := g, toks := u } := I1.kept fun b o e => kp b o e
    exact call_len_set ho hex hd hf (by omega) ⟨.int ns.length, H1, I2.tok _, ⟨_, by rw [hn, em]⟩, q1⟩
  · obtain ⟨its, r, pl, hz⟩ := I1.tuple hq
    refine set_of_tup ns (I1.ok.hd hc) pl (by simpa using Vals.ints r) few fun g u m R lm kp => ?_
    refine PyProof.Rows.args_nil ?_
    have em := setR_len R hnd
    obtain ⟨o, es, ep, t, ho, hex, hd, _, _, _, fw, hf, hn, _⟩ := R
    have I2 : Inv X pins σ H1 { s1 with heap := g, toks := u } := I1.kept fun b o e => kp b o e
    exact call_len_set ho hex hd hf (by omega) ⟨.int ns.length, H1, I2.tok _, ⟨_, by rw [hn, em]⟩, q1⟩
end
end AL
set_option Elab.async false
set_option maxRecDepth 100000
set_option exponentiation.threshold 70000
set_option maxHeartbeats 1000000
namespace AL
open PySem PySem.Spec PyProof.Rows L2 RZ
section
variable {P : Program} {w : World} {K : PySem.W.Frag} {mg : Str → Option Value} {base : Heap}

def zN (js : List Nat) : List Int := js.map fun j : Nat => (j : Int)
theorem zN_len (js : List Nat) : (zN js).length = js.length := List.length_map _
/-- letters: unlike indices below n, in a list or a tuple -/
structure LetA (H : Hp) (a : Addr) (n : Nat) (js : List Nat) : Prop where
  at_ : H a = some (.lst ((zN js).map V.int)) ∨ H a = some (.tup ((zN js).map V.int))
  nd : js.Nodup
  lt : ∀ j ∈ js, j < n
  few : js.length ≤ 100
theorem LetA.same {H H' : Hp} {a : Addr} {n : Nat} {js : List Nat} (h : LetA H a n js) (s : Same H H') : LetA H' a n js := ⟨h.at_.imp (s _ _) (s _ _), h.nd, h.lt, h.few⟩
theorem LetA.seq {K : PySem.W.Frag} {H : Hp} {a : Addr} {n : Nat} {js : List Nat} (h : LetA H a n js) : SqL K H a ((zN js).map V.int) ∨ SqT K H a ((zN js).map V.int) := h.at_.imp SqL.of SqT.of
theorem LetA.sqb {K : PySem.W.Frag} {H : Hp} {a : Addr} {n : Nat} {js : List Nat} (h : LetA H a n js) : ∃ k, ∀ H', Same H H' → SqB K H' a ((zN js).map V.int) k := by
  rcases h.at_ with z | z
  · exact ⟨true, fun H' s => SqL.of (s _ _ z)⟩
  · exact ⟨false, fun H' s => SqT.of (s _ _ z)⟩
def spIsLs (K : PySem.W.Frag) : Sp := fun vs H Q _ => ∃ (a : Addr) (xs : List V), vs = [.ref a] ∧ (H a = some (.lst xs) ∨ H a = some (.tup xs)) ∧ ∀ H', Same H H' → Q (.bl true) H'
def spIdxJ : Sp := fun vs H Q _ => ∃ (j n : Nat), vs = [.int (j : Int), .int (n : Int)] ∧ j < n ∧ Q (.bl true) H
/-- check_indices(letters, many), good letters -/
def spCi : Sp := fun vs H Q _ => ∃ (a : Addr) (n : Nat) (js : List Nat), vs = [.ref a, .int (n : Int)] ∧ LetA H a n js ∧ ∀ H', Same H H' → Q .non H'
theorem nodup_cast {js : List Nat} (h : js.Nodup) : (zN js).Nodup := by
  unfold zN
  unfold List.Nodup at h ⊢
  rw [List.pairwise_map]
  exact h.imp fun n z => n (by omega)

abbrev stis_list : Stmt := top 9
theorem scis_list : FnScope ["value"] ["value"] (defScope stis_list) := ⟨rfl, rfl, rfl, by decide +kernel, rfl, by decide +kernel, by decide +kernel⟩
theorem okis_list (B : Blt mg) {CPoly CQuotient BZ BN BM UL fZ fN : Addr} {fdZ fdN : FuncData} (Es : ErP K mg CPoly CQuotient BZ BN BM UL fZ fN fdZ fdN) {fis_list : Addr} {fdis_list : FuncData} (Dis_list : DefAt K mg "is_list" stis_list ["value"] fis_list fdis_list) : FnOk P w K mg base CX0 1 fis_list fdis_list ["value"] (spIsLs K) := by
  refine Dis_list.F.ok scis_list (fun vs H Q E h => ?_) (fun cdv A outer s H vs Q E hr h => ?_)
  · obtain ⟨a, xs, rfl, _⟩ := h; rfl
  · have hu := hu_of hr
    refine ⟨_, (pss_one (ps_ret (pe_callB call_isiT (by rfl) B.isinstance_ (by decide +kernel) (pa_cons (pv 0) (pa_cons (pe_tup (pa_cons (pe_bltn (v := .ty "list") (by rfl) B.list_ PyProof.Rows.Boot.«list» rfl) (pa_cons (pe_bltn (v := .ty "tuple") (by rfl) B.tuple_ PyProof.Rows.Boot.«tuple» rfl) pa_nil))) pa_nil))))), ?_⟩
    obtain ⟨a, xs, rfl, ha, q⟩ := h
    refine ⟨_, rfl, (by show 2 ≤ sizeLine; decide), fun T hT => ?_⟩
    have n1 := AL.Same.new (o := .tup [.ty "list", .ty "tuple"]) hT
    rcases ha with ha | ha
    · exact ⟨_, T, _, _, _, true, rfl, upd_same, .cons (ClsV.ty _) (.cons (ClsV.ty _) .nil), TyX.base (.lst (n1 _ _ ha)), rfl, q _ n1⟩
    · exact ⟨_, T, _, _, _, true, rfl, upd_same, .cons (ClsV.ty _) (.cons (ClsV.ty _) .nil), TyX.base (.tup (n1 _ _ ha)), rfl, q _ n1⟩
abbrev stis_index : Stmt := top 11
theorem scis_index : FnScope ["value", "many"] ["value", "many"] (defScope stis_index) := ⟨rfl, rfl, rfl, by decide +kernel, rfl, by decide +kernel, by decide +kernel⟩
theorem okis_index (B : Blt mg) {CPoly CQuotient BZ BN BM UL fZ fN : Addr} {fdZ fdN : FuncData} (Es : ErP K mg CPoly CQuotient BZ BN BM UL fZ fN fdZ fdN) {fis_whole : Addr} {fdis_whole : FuncData} (Dis_whole : DefAt K mg "is_whole" stis_whole ["value"] fis_whole fdis_whole) {fis_index : Addr} {fdis_index : FuncData} (Dis_index : DefAt K mg "is_index" stis_index ["value", "many"] fis_index fdis_index) : FnOk P w K mg base CX0 2 fis_index fdis_index ["value", "many"] spIdxJ := by
  have OKis_whole : FnOk P w K mg base CX0 1 fis_whole fdis_whole ["value"] (spWholeV K) := okis_whole B Es Dis_whole
  refine Dis_index.F.ok scis_index (fun vs H Q E h => ?_) (fun cdv A outer s H vs Q E hr h => ?_)
  · obtain ⟨j, n, rfl, _⟩ := h; rfl
  · have hu := hu_of hr
    refine ⟨_, (pss_one (ps_ret (pe_and (pe_call OKis_whole (hr.mono (by decide)) rfl Dis_whole.m Dis_whole.F.kp Dis_whole.b .nil pass0 (pa_cons (pv 0) pa_nil)) (pe_one (pe_chain op_le op_lt pe_int (pv 0) (pv 1)))))), ?_⟩
    obtain ⟨j, n, rfl, h, q⟩ := h
    refine ⟨_, rfl, _, _, true, false, rfl, TyX.base (.int (j : Int)), rfl, rfl, _, rfl, ?_⟩
    refine iteT ?_
    refine ⟨_, rfl, _, _, rfl, rfl, _, rfl, ?_⟩
    rw [decide_eq_true (by omega : (0 : Int) ≤ (j : Int))]
    refine iteT ?_
    refine ⟨_, rfl, _, _, rfl, rfl, ?_⟩
    dsimp only
    rw [decide_eq_true (by omega : (j : Int) < (n : Int))]
    exact q
abbrev stcheck_indices : Stmt := top 37
theorem sccheck_indices : FnScope ["letters", "many", "j"] ["letters", "many"] (defScope stcheck_indices) := ⟨rfl, rfl, rfl, by decide +kernel, rfl, by decide +kernel, by decide +kernel⟩
theorem okcheck_indices (B : Blt mg) {CPoly CQuotient BZ BN BM UL fZ fN : Addr} {fdZ fdN : FuncData} (Es : ErP K mg CPoly CQuotient BZ BN BM UL fZ fN fdZ fdN) {fis_whole : Addr} {fdis_whole : FuncData} (Dis_whole : DefAt K mg "is_whole" stis_whole ["value"] fis_whole fdis_whole) {fis_index : Addr} {fdis_index : FuncData} (Dis_index : DefAt K mg "is_index" stis_index ["value", "many"] fis_index fdis_index) {fis_list : Addr} {fdis_list : FuncData} (Dis_list : DefAt K mg "is_list" stis_list ["value"] fis_list fdis_list) {fcheck_indices : Addr} {fdcheck_indices : FuncData} (Dcheck_indices : DefAt K mg "check_indices" stcheck_indices ["letters", "many"] fcheck_indices fdcheck_indices) : FnOk P w K mg base CX0 3 fcheck_indices fdcheck_indices ["letters", "many"] spCi := by
  have OKis_index : FnOk P w K mg base CX0 2 fis_index fdis_index ["value", "many"] spIdxJ := okis_index B Es Dis_whole Dis_index
  have OKis_list : FnOk P w K mg base CX0 1 fis_list fdis_list ["value"] (spIsLs K) := okis_list B Es Dis_list
  refine Dcheck_indices.F.ok sccheck_indices (fun vs H Q E h => ?_) (fun cdv A outer s H vs Q E hr h => ?_)
  · obtain ⟨a, n, js, rfl, _⟩ := h; rfl
  · have hu := hu_of hr
    refine ⟨_, (pss_cons (ps_if (PW.pt (pw_or (pt_not (pt_val (pe_call OKis_list (hr.mono (by decide)) rfl Dis_list.m Dis_list.F.kp Dis_list.b .nil pass0 (pa_cons (pv 0) pa_nil)))) (pw_or1 (pt_not (pt_val (pe_callB (cr_all rfl) (by rfl) B.all_ (by decide +kernel) (pa_cons (pe_lc (own := [("j", 2)]) (g := gName 2) (tt := tYes) rfl sccheck_indices.nd (pi_seq (pv 0)) (blkOk_by (own := [("j", 2)]) (N := ["letters", "many", "j"]) (sc := defScope stcheck_indices) (by decide +kernel)) (fun _ _ _ _ _ => pg_name (i := 2) sccheck_indices.nd rfl (Or.inl rfl)) (fun _ _ _ _ _ => pts_nil) (fun _ _ _ _ _ => (pe_call OKis_index (hr.mono (by decide)) rfl Dis_index.m Dis_index.F.kp Dis_index.b .nil pass0 (pa_cons (pv 2) (pa_cons (pv 1) pa_nil))))) pa_nil))))))) (pss_one ps_never) pss_nil)
    (pss_one (ps_if (pt_cmpR op_ne (pe_lenSetQ (by rfl) B.len_ (by rfl) B.set_ (pv 0)) (pe_callB call_len_seq (by rfl) B.len_ (by decide +kernel) (pa_cons (pv 0) pa_nil)) (nomark _)) (pss_one ps_never) pss_nil))), ?_⟩
    obtain ⟨a, n, js, rfl, la, q⟩ := h
    obtain ⟨k, sq⟩ := la.sqb (K := K)
    refine ⟨_, rfl, a, _, rfl, la.at_, fun H1 s1 => ⟨_, rfl, ?_⟩⟩
    refine iteF ?_
    refine ⟨_, rfl, a, k, rfl, ⟨_, sq _ s1⟩, fun D hD => ?_⟩
    refine lc_seq (K := K) (k := k) (a := a) (xs := (zN js).map V.int) (fun i H' => Same H1 H' ∧ H' D = some (.lst (List.replicate i (.bl true)))) ⟨AL.Same.new hD, upd_same⟩ (fun i H' _ hh => sq _ (s1.trans hh.1)) ?_ ?_
    · rintro i x H2 hx ⟨s2, hd⟩
      obtain ⟨z, hz, rfl⟩ := map_int hx
      obtain ⟨j, hj, rfl⟩ : ∃ j, js[i]? = some j ∧ z = (j : Int) := by
        unfold zN at hz
        rw [List.getElem?_map] at hz
        cases w : js[i]? with
        | none => rw [w] at hz; cases hz
        | some j => rw [w] at hz; cases hz; exact ⟨j, rfl, rfl⟩
      have il := (List.getElem?_eq_some_iff.mp hj).1
      have jf := la.few
      refine ⟨rfl, ?_⟩
      refine ⟨_, rfl, _, rfl, j, n, rfl, la.lt j (List.mem_of_getElem? hj), ?_⟩
      refine ⟨_, hd, ?_, AL.Same.updn s2 hD, ?_⟩
      · rw [List.length_replicate]; exact Nat.lt_of_le_of_lt (by omega : _ ≤ 100) (by decide)
      · rw [upd_same, ← List.replicate_succ']
    rintro H2 ⟨s2, hd⟩
    have s12 := s1.trans s2
    have lf := la.few
    refine ⟨D, List.replicate ((zN js).map V.int).length true, rfl, SqL.of (by rw [hd, List.map_replicate]), _, rfl, ?_⟩
    rw [show (List.replicate ((zN js).map V.int).length true).all id = true by rw [List.all_eq_true]; intro x hx; rw [List.eq_of_mem_replicate hx]; rfl]
    refine iteF ?_
    refine ⟨_, rfl, a, zN js, rfl, (la.same s12).seq, nodup_cast la.nd, by rw [zN_len]; omega, ?_⟩
    refine ⟨_, rfl, a, _, rfl, (la.same s12).seq, rfl, _, rfl, ?_⟩
    rw [List.length_map, decide_eq_true rfl]
    refine iteF ?_
    exact q _ s12
end
end AL
set_option Elab.async false
set_option linter.all false
set_option maxRecDepth 100000
set_option maxHeartbeats 2000000
/-! enumerate(t) of a tuple, in a for. -/
namespace AL
open PySem PySem.Spec PyProof.Rows L2
theorem newE_of {v : Value} {ob : Obj} {HH : Heap → Prop} (B : Begins v ob HH) :
    Meets (Builtin.«enumerate.__new__» ⟨[.type "enumerate", v], []⟩) (fun _ R s => HH s.heap ∧
      R (.ok (.ret (.ref (s.heap.push ob).objs.size))) { s with heap := (s.heap.push ob).push { cls := .type "enumerate", data := .fields #[.none, .bool false, .ref s.heap.objs.size, rawInt 0, .none, .none] } }) :=
  .of_wp fun pr wo Ar R s hh => by
    obtain ⟨hp, g, d, tk, os⟩ := s; obtain ⟨z1, hh⟩ := hh
    have hsub := sub_enumerate
    have its : ∀ {A' : Around} {E : Value → Shared → Prop} {Q : Value → Shared → Prop}, Q (.ref hp.objs.size) ⟨hp.push ob, g, d, tk, os⟩ → wpAny (model pr wo) A' (pyIter v) Q E ⟨hp, g, d, tk, os⟩ :=
      fun q => B.iter pr wo _ _ ⟨hp, g, d, tk, os⟩ _ z1 q
    wp_walk using its
    refine wpAny_stack_any fun st => wpAny_pure ?_
    split
    · rename_i cc _ _ _ _ _
      cases (cc == Value.type "enumerate")
      · wp_walk using its
        exact ⟨_, rfl, hh⟩
      · wp_walk using its
        exact ⟨_, rfl, hh⟩
    · wp_walk using its
      exact ⟨_, rfl, hh⟩
theorem call_enumT {prog : Program} {w : World} {A : Around} {E : Value → Shared → Prop} {s : Shared} {a : Addr} {items : Array Value} {Q : Value → Shared → Prop} (hL : s.heap.IsTuple a items)
    (hh : ∀ h', IsEnum h' (s.heap.objs.size + 1) s.heap.objs.size 0 .none → h'.IsTupleIter s.heap.objs.size a 0 → h'.objs.size = s.heap.objs.size + 2 →
      (∀ b o, s.heap.get? b = some o → h'.get? b = some o) → Q (.ref (s.heap.objs.size + 1)) { s with heap := h' }) :
    wpAny (model prog w) A (call (.type "enumerate") [.ref a]) Q E s := by
  refine callType_new F.called_enumerate (by decide) (F.typeCall_enumerate_1 _) (F.newCall_enumerate_1 _) (fun obj => F.args_object_init_2 obj _) F.entry_enumerate_new (newE_of (begins_tuple a items)) ⟨hL, ?_⟩
  have sz : (s.heap.push { cls := .type "tuple_iterator", data := .fields #[.ref a, .int 0 0] }).objs.size = s.heap.objs.size + 1 := Heap.size_push ..
  show _ ∧ _
  rw [sz]
  have en : IsEnum ((s.heap.push { cls := .type "tuple_iterator", data := .fields #[.ref a, .int 0 0] }).push
      { cls := .type "enumerate", data := .fields #[.none, .bool false, .ref s.heap.objs.size, rawInt 0, .none, .none] }) (s.heap.objs.size + 1) s.heap.objs.size 0 .none := by
    have z := Heap.get?_push_size (s.heap.push { cls := .type "tuple_iterator", data := .fields #[.ref a, .int 0 0] }) (o := { cls := .type "enumerate", data := .fields #[.none, .bool false, .ref s.heap.objs.size, rawInt 0, .none, .none] }) rfl
    rw [sz] at z; exact z
  refine ⟨⟨_, en, rfl⟩, hh _ en ⟨_, Heap.get?_push_of_some _ (Heap.get?_push_size _ rfl), rfl, rfl⟩ (by rw [Heap.size_push, sz]) fun b o x => Heap.get?_push_of_some _ (Heap.get?_push_of_some _ x)⟩
/-- the tuple at a as it stands at each turn, each item in a new pair -/
def IteT (K : PySem.W.Frag) (a : Addr) : It :=
  ⟨fun i H => ∃ (xs : List V) (x : V), SqT K H a xs ∧ xs[i]? = some x, fun i H v H' => ∃ T x, v = .ref T ∧ H T = none ∧ H' = upd H T (.tup [.int (i : Nat), x]) ∧ ∀ xs, SqT K H a xs → xs[i]? = some x, fun i H => ∃ xs : List V, SqT K H a xs ∧ xs.length ≤ i⟩
theorem turn_enumT {P : Program} {w : World} {K : PySem.W.Frag} {elts : List Expr} {kk : Nat} {tpos : Pos} (a e it : Addr) :
    Turn P w K (.Tuple elts kk tpos) (IteT K a) [e, it] e (fun i h => (∃ old, IsEnum h e it ((i : Nat) : Int) old) ∧ h.IsTupleIter it a i ∧ e ≠ it ∧ a ≠ it ∧ a ≠ e) where
  mem := by simp
  obj := fun i h st b hb => by
    obtain ⟨⟨old, he⟩, ⟨o, ho, hc, hd⟩, _⟩ := st
    have z : b = e ∨ b = it := by simpa using hb
    rcases z with z | z
    · rw [z]; exact ⟨_, he, fun v q => nomatch q⟩
    · rw [z]; exact ⟨o, ho, fun v q => by rw [hd] at q; cases q⟩
  keep := fun i h h' st k => let ⟨⟨old, he⟩, hi, hne⟩ := st; ⟨⟨old, k e (by simp) _ he⟩, hi.at fun o q => k it (by simp) o q, hne⟩
  item := by
    intro X hP hw hK hc i pins s σ H E I hf st hg
    subst hP hw hK
    obtain ⟨⟨old, he⟩, hit, hne, hai, hae⟩ := st
    obtain ⟨xs, x, hq, hx⟩ := hg
    obtain ⟨its, rv, p, hz⟩ := I.tuple hq
    obtain ⟨u, hu, ru⟩ := rv.get hx
    have pt : s.heap.IsTuple a its.toArray := p
    have hel : e < s.heap.objs.size := Heap.lt_size he
    have hil : it < s.heap.objs.size := by obtain ⟨_, q, _⟩ := hit; exact Heap.lt_size q
    have le : i < its.toArray.size := by
      have := (List.getElem?_eq_some_iff.mp hu).1
      simpa using this
    have D := Draws.tuple (prog := X.prog) (w := X.w) (A := X.A.in1) (I.ok.hd hc) it a hai its.toArray
    refine wpAny_pyNext_enum_itemD D he ⟨hit, pt⟩ le hne (by simp [hne, Ne.symm hae]) fun xv h' tk hxv ho hst' hT hsz hk => ?_
    have ev : xv = u := by
      have hu' : its.toArray[i]? = some u := by simpa using hu
      rw [hu'] at hxv
      exact (Option.some.inj hxv).symm
    subst ev
    obtain ⟨hit', pt'⟩ := hst'
    refine ⟨_, rfl, wpAny_letOwnedTupleGo_enum (s := { s with heap := h', toks := tk + 1 }) ho fun h'' he' sb => ?_⟩
    have hT2 : h''.get? s.heap.objs.size = some { cls := .type "tuple", data := .seq #[.int i tk, xv] } := (sb.2 _ (Nat.ne_of_gt hel)).trans hT
    have new : ObjOk X.prog X.w (upd H s.heap.objs.size (.tup [.int (i : Nat), x])) h'' s.heap.objs.size (.tup [.int (i : Nat), x]) :=
      ⟨by show 2 ≤ sizeLine; decide, [.int i tk, xv], .cons ⟨_, rfl⟩ (.cons ru .nil), ⟨_, hT2, rfl, _, rfl⟩⟩
    have I1 : Inv X pins σ (upd H s.heap.objs.size (.tup [.int (i : Nat), x])) { s with heap := h'', toks := tk + 1 } :=
      I.turnedNew (t' := tk + 1) (ch := [e, it]) (fun b ob hb q => (sb.2 b (fun z => hb (by simp [z]))).trans (hk b ob (fun z => hb (by simp [z])) (fun z => hb (by simp [z])) q)) hf (Nat.le_refl _) new
    refine ⟨.ref s.heap.objs.size, _, I1, rfl, ⟨_, x, rfl, I.hok.fresh (Nat.le_refl _), rfl, fun ys hy => by rw [I.tuple_inj hy hq]; exact hx⟩, ⟨⟨xv, ?_⟩, hit'.at fun o q => (sb.2 it (Ne.symm hne)).trans q, hne, hai, hae⟩, fun b hb => ?_⟩
    · have e1 : ((i + 1 : Nat) : Int) = (i : Int) + 1 := by omega
      rw [e1]; exact he'
    · have hb' : b < s.heap.objs.size := by
        have z : b = e ∨ b = it := by simpa using hb
        rcases z with z | z
        · rw [z]; exact hel
        · rw [z]; exact hil
      rw [upd_ne (Nat.ne_of_lt hb')]
      exact (hf b hb).1
  done := by
    intro X hP hw hK hc i pins s σ H E I hf st hg
    subst hP hw hK
    obtain ⟨⟨old, he⟩, hit, hne, hai, hae⟩ := st
    obtain ⟨xs, hq, hx⟩ := hg
    obtain ⟨its, rv, p, hz⟩ := I.tuple hq
    have pt : s.heap.IsTuple a its.toArray := p
    obtain ⟨f0, f1, f2, f3, f4, f5⟩ := hf it (by simp)
    have hl := rv.length
    obtain ⟨_, he0⟩ : ∃ o, IsEnum s.heap e it ((i : Nat) : Int) o := ⟨old, he⟩
    have hT : s.TypeIs (.ref e) "enumerate" := ⟨_, he, rfl⟩
    unfold pyNext
    refine wpAny_bind (wpAny_attempt (wpAny_callSpecial?_slot (name := Str.ofString "__next__") hT F.slot_enumerate_next (wpAny_call_entry F.slot_enumerate_next hT F.entry_enumerate_next ?_ (F.args_enumerate_next_1 _))))
    show wpAny _ _ (field (.ref e) 2 >>= _) _ _ _
    refine wpAny_bind (wpAny_field he rfl (x := .ref it) rfl ?_)
    refine wpAny_bind (wpAny_nextOf_tuple_end (I.ok.hd hc) hit pt (by simp; omega) fun h' x eb hx' => ?_)
    obtain ⟨o, ho, hc'⟩ := hx'
    refine wpAny_bind (wpAny_isInstance (T := "StopIteration") (b := true) ⟨o, ho, hc'⟩ isSubtype_stop ?_)
    exact wpAny_pure ⟨rfl, I.turned (t' := s.toks) (fun b o hb q => eb b o hb q) f0 f1 f3 f4 f5⟩
  self := fun A i s Q E st h => let ⟨⟨_, he⟩, _⟩ := st; wpAny_pyIter_enum he h
def iEnumT (K : PySem.W.Frag) (ta : TA) : TI := fun σ H R => ta σ H fun vs H1 => ∃ a xs, vs = [.ref a] ∧ SqT K H1 a xs ∧ R (IteT K a) H1
theorem pi_enumT {X : Cx} {e : Expr} {ta : TA} {p pos tpos : Pos} {elts : List Expr} {kk : Nat} (hg : Gl X "enumerate") (hm : X.mg "enumerate" = none) (ha : PA X [e] ta) (hs : starEach [e] X.env = [(false, eval e X.env)] := by rfl) :
    PI X (.Tuple elts kk tpos) (.Call (.Name "enumerate" p) [e] [] pos) (iEnumT X.K ta) := by
  refine ⟨fun pins s σ H R I h => ?_⟩
  refine Call_ (ld_blt I hg hm boot_enumerate (PyProof.Rows.callWith_type1 (thn (ha.run pos pins s σ H _ I h) fun us s1 ⟨vs, H1, I1, r1, q1⟩ => ?_) hs rfl))
  obtain ⟨a, xs, ex, hq, q⟩ := q1
  subst ex
  cases r1 with
  | cons r rr =>
    cases rr
    cases r
    obtain ⟨its, rv, p', hz⟩ := I1.tuple hq
    have pt : s1.heap.IsTuple a its.toArray := p'
    have la : a < s1.heap.objs.size := by obtain ⟨_, z, _⟩ := pt; exact Heap.lt_size z
    refine call_enumT pt fun h' he hit hsz hk => wpAny_pyIter_enum he ?_
    have I2 : Inv X pins σ H1 { s1 with heap := h' } := I1.kept (t' := s1.toks) hk
    refine ⟨s1.heap.objs.size + 1, [s1.heap.objs.size + 1, s1.heap.objs.size], _, _, H1, rfl, I2, turn_enumT a (s1.heap.objs.size + 1) s1.heap.objs.size, ⟨⟨.none, he⟩, hit, Nat.succ_ne_self _, Nat.ne_of_lt la, Nat.ne_of_lt (Nat.lt_succ_of_lt la)⟩, fun b hb => ?_, q⟩
    have z : b = s1.heap.objs.size + 1 ∨ b = s1.heap.objs.size := by simpa using hb
    have hle : s1.heap.objs.size ≤ b := by
      rcases z with z | z
      · rw [z]; exact Nat.le_add_right _ _
      · rw [z]; exact Nat.le_refl _
    exact I1.fpOk hle (I1.hok.fresh hle)
theorem walk_enumT {K : PySem.W.Frag} {a : Addr} {xs : List V} : Walk (IteT K a) xs.length (fun H => SqT K H a xs) (YPair (fun i => some (.int (i : Nat))) (fun i => xs[i]?)) := by
  refine ⟨fun i _ hi q => ⟨xs, xs[i], q, by simp [hi]⟩, fun _ q => ⟨xs, q, Nat.le_refl _⟩, fun i H v H' _ q y => ?_⟩
  obtain ⟨T, x, g1, g2, g3, g4⟩ := y
  exact ⟨T, .int (i : Nat), x, g1, g2, g3, rfl, g4 xs q⟩
end AL
set_option Elab.async false
set_option maxRecDepth 100000
set_option exponentiation.threshold 70000
set_option maxHeartbeats 1000000
namespace AL
open PySem PySem.Spec PyProof.Rows L2 RZ
section
variable {P : Program} {w : World} {K : PySem.W.Frag} {mg : Str → Option Value} {base : Heap}

def zeroE (js : List Nat) (e : Ex) : Ex := e.mapIdx fun i k => if i ∈ js then 0 else k
/-- the letters left out -/
def outL (js : List Nat) (a : PM) : PM := a.map fun p => (zeroE js p.1, p.2)
theorem zeroE_len (js : List Nat) (e : Ex) : (zeroE js e).length = e.length := List.length_mapIdx ..
theorem zeroE_get (js : List Nat) {e : Ex} {i f : Nat} (h : e[i]? = some f) : (zeroE js e)[i]? = some (if i ∈ js then 0 else f) := by
  unfold zeroE
  rw [List.getElem?_mapIdx, h]; rfl
theorem zeroE_le (js : List Nat) {e : Ex} {E : Nat} (h : ∀ k ∈ e, k ≤ E) : ∀ k ∈ zeroE js e, k ≤ E := fun k hk => by
  obtain ⟨i, hi⟩ := List.mem_iff_getElem?.mp hk
  have il : i < e.length := by have := (List.getElem?_eq_some_iff.mp hi).1; rwa [zeroE_len] at this
  have e0 : e[i]? = some e[i] := List.getElem?_eq_getElem il
  rw [zeroE_get js e0] at hi
  rw [← Option.some.inj hi]
  split
  · exact Nat.zero_le _
  · exact h _ (List.getElem_mem il)
theorem outL_pb {n E D B : Nat} {a : PM} (js : List Nat) (h : PB n E D B a) : PB n E D B (outL js a) := fun r hr => by
  unfold outL at hr
  obtain ⟨p, hp, rfl⟩ := List.mem_map.mp hr
  obtain ⟨h1, h2, h3⟩ := h p hp
  exact ⟨by show (zeroE js p.1).length = n; rw [zeroE_len]; exact h1, zeroE_le js h2, h3⟩
theorem inV_zN {j : Nat} {js : List Nat} : inV (.int (j : Int)) ((zN js).map V.int) = decide (j ∈ js) := by
  unfold inV zN
  rw [Bool.eq_iff_iff, List.any_eq_true, decide_eq_true_iff]
  constructor
  · rintro ⟨x, hx, e⟩
    rw [List.map_map] at hx
    obtain ⟨k, hk, rfl⟩ := List.mem_map.mp hx
    have e' : ((k : Int) == (j : Int)) = true := e
    have : k = j := by have := eq_of_beq e'; omega
    exact this ▸ hk
  · intro h
    exact ⟨_, List.mem_map.mpr ⟨(j : Int), List.mem_map.mpr ⟨j, h, rfl⟩, rfl⟩, show ((j : Int) == (j : Int)) = true from beq_self_eq_true _⟩
theorem flat_zN (js : List Nat) : ((zN js).map V.int).all flatV = true := by
  rw [List.all_eq_true]
  intro x hx
  obtain ⟨z, _, rfl⟩ := List.mem_map.mp hx
  rfl
/-- without_letters(poly, letters) -/
def spWl (K : PySem.W.Frag) (CP : Addr) : Sp := fun vs H Q _ => ∃ (x l : Addr) (n Em D B : Nat) (a : PM) (js : List Nat), vs = [.ref x, .ref l] ∧ PolyAt CP H x n a ∧ Can n Em D B a ∧ LetA H l n js ∧ n ≤ 80 ∧ Em ≤ 80 ∧ a.length < 64 ∧ Szs D B a.length ∧ (∀ p ∈ a, Mid p.2.num p.2.den) ∧
  ∀ z H' m, Same H H' → PolyAt CP H' z n m → Can n Em D (B * a.length) m → m.length ≤ a.length → Eqp m (outL js a) → Q (.ref z) H'

abbrev stwithout_letters : Stmt := top 36
theorem scwithout_letters : FnScope ["poly", "letters", "terms", "exponents", "ratio", "j", "n"] ["poly", "letters"] (defScope stwithout_letters) := ⟨rfl, rfl, rfl, by decide +kernel, rfl, by decide +kernel, by decide +kernel⟩
theorem okwithout_letters (B : Blt mg) {CPoly CQuotient BZ BN BM UL fZ fN : Addr} {fdZ fdN : FuncData} (Es : ErP K mg CPoly CQuotient BZ BN BM UL fZ fN fdZ fdN) {flowest : Addr} {fdlowest : FuncData} (Dlowest : DefAt K mg "lowest" stlowest ["top", "bottom"] flowest fdlowest) {fas_ratio : Addr} {fdas_ratio : FuncData} (Das_ratio : DefAt K mg "as_ratio" stas_ratio ["value"] fas_ratio fdas_ratio) {fis_whole : Addr} {fdis_whole : FuncData} (Dis_whole : DefAt K mg "is_whole" stis_whole ["value"] fis_whole fdis_whole) {fare_integers : Addr} {fdare_integers : FuncData} (Dare_integers : DefAt K mg "are_integers" stare_integers ["items"] fare_integers fdare_integers) {fis_ratio : Addr} {fdis_ratio : FuncData} (Dis_ratio : DefAt K mg "is_ratio" stis_ratio ["value"] fis_ratio fdis_ratio) {fis_term : Addr} {fdis_term : FuncData} (Dis_term : DefAt K mg "is_term" stis_term ["term", "size"] fis_term fdis_term) {fratio_sum : Addr} {fdratio_sum : FuncData} (Dratio_sum : DefAt K mg "ratio_sum" stratio_sum ["one", "other"] fratio_sum fdratio_sum) {fP_init : Addr} {fdP_init : FuncData} (DP_init : IniA K "__init__" "Poly.__init__" stP_init ["self", "size", "terms"] CPoly fP_init fdP_init) {fwithout_letters : Addr} {fdwithout_letters : FuncData} (Dwithout_letters : DefAt K mg "without_letters" stwithout_letters ["poly", "letters"] fwithout_letters fdwithout_letters) : FnOk P w K mg base CX0 8 fwithout_letters fdwithout_letters ["poly", "letters"] (spWl K CPoly) := by
  have OKP_init : FnOk P w K mg base CX0 5 fP_init fdP_init ["self", "size", "terms"] (spIniP K CPoly) := okP_init B Es Dlowest Das_ratio Dis_whole Dare_integers Dis_ratio Dis_term Dratio_sum DP_init
  refine Dwithout_letters.F.ok scwithout_letters (fun vs H Q E h => ?_) (fun cdv A outer s H vs Q E hr h => ?_)
  · obtain ⟨x, l, n, Em, D0, B0, a, js, rfl, _⟩ := h; rfl
  · have hu := hu_of hr
    refine ⟨_, (pss_cons (ps_setLc (i := 2) (own := [("exponents", 3), ("ratio", 4)]) (g := gTup K 2 (gCons (gName 3) (gCons (gName 4) gNil))) (tt := tYes) rfl scwithout_letters.nd rfl rfl (sw_true rfl rfl rfl (by decide +kernel)) (pi_tup ((pe_fld (pv 0) rfl : PE _ _ (tFld K (tVar 0) "terms")))) (blkOk_by (own := [("exponents", 3), ("ratio", 4)]) (N := ["poly", "letters", "terms", "exponents", "ratio", "j", "n"]) (sc := defScope stwithout_letters) (by decide +kernel)) (fun _ _ _ _ _ => (pg_tup rfl (pgs_cons (pg_name (i := 3) scwithout_letters.nd rfl (Or.inl rfl)) (pgs_cons (pg_name (i := 4) scwithout_letters.nd rfl (Or.inl rfl)) pgs_nil)))) (fun _ _ _ _ _ => pts_nil) (fun _ _ _ _ _ => (pe_tup (pa_cons (pe_callTy (call_tupK : CallR _ _ (rTup K)) (by rfl) B.tuple_ (by decide +kernel) (pa_cons (pe_lc (own := [("j", 5), ("n", 6)]) (g := gTup K 2 (gCons (gName 5) (gCons (gName 6) gNil))) (tt := tYes) rfl scwithout_letters.nd (pi_enumT (by rfl) B.enumerate_ (pa_cons (pv 3) pa_nil) : PI _ _ _ (iEnumT K (tCons (tVar 3) tNil))) (blkOk_by (own := [("j", 5), ("n", 6)]) (N := ["poly", "letters", "terms", "exponents", "ratio", "j", "n"]) (by kernel_rfl)) (fun _ _ _ _ _ => (pg_tup rfl (pgs_cons (pg_name (i := 5) scwithout_letters.nd rfl (Or.inl rfl)) (pgs_cons (pg_name (i := 6) scwithout_letters.nd rfl (Or.inl rfl)) pgs_nil)))) (fun _ _ _ _ _ => pts_nil) (fun _ _ _ _ _ => (pe_ifExp (pt_cmpR (op_in_seq : OpR _ _ (rIn K false)) (pv 5) (pv 1) rfl) pe_int (pv 6)))) pa_nil)) (pa_cons (pv 4) pa_nil)))))
    (pss_one (ps_ret (pe_make DP_init.M OKP_init (hr.mono (by decide)) rfl Es.mP DP_init.b .nil pass0 (pa_cons ((pe_fld (pv 0) rfl : PE _ _ (tFld K (tVar 0) "size"))) (pa_cons (pv 2) pa_nil)))))), ?_⟩
    obtain ⟨x, l, n, Em, D0, B0, a, js, rfl, hx, ca, la, hn, hE, few, zz, md, q⟩ := h
    obtain ⟨dx, T, ts, ex, eT, en⟩ := hx
    have lna := prd_len en
    refine ⟨_, rfl, x, _, dx, _, _, rfl, ex, Es.cl, Es.nT, flP_t _ _, T, rfl, ⟨_, SqT.of eT⟩, fun D1 hD => ?_⟩
    refine lc_tup (K := K) (a := T) (xs := ts.map V.ref) (fun i H' => Same H H' ∧ ∃ us : List Addr, H' D1 = some (.lst (us.map V.ref)) ∧ Paired (EntAt H') us (outL js (a.take i))) ⟨AL.Same.new hD, [], upd_same, .nil⟩ (fun i H' _ hh => SqT.of (hh.1 _ _ eT)) ?_ ?_
    · rintro i y H4 hy ⟨s4, us, hD4, en4⟩
      obtain ⟨b, hb, rfl⟩ := map_ref hy
      obtain ⟨p, hp, ent⟩ := prd_get en hb
      obtain ⟨k1, r1, hb1, hk1, hr1⟩ := ent.same s4
      have hi : i < a.length := (List.getElem?_eq_some_iff.mp hp).1
      have p1 := (ca.pb p (List.mem_of_getElem? hp)).1
      refine ⟨b, _, rfl, SqT.of hb1, rfl, _, _, rfl, _, _, rfl, rfl, rfl, ?_⟩
      refine ⟨_, rfl, k1, _, rfl, SqT.of hk1, fun D hD2 => ?_⟩
      refine lc_it (walk_enumT (K := K) (a := k1) (xs := (ki p.1).map V.int)) (fun i2 H' => Same H4 H' ∧ H' D = some (.lst ((ki ((zeroE js p.1).take i2)).map V.int))) ⟨AL.Same.new hD2, upd_same⟩ (fun i2 H' _ hh => SqT.of (hh.1 _ _ hk1)) ?_ ?_
      · rintro i2 x0 H0 H1' hi2 ⟨s0, hd0⟩ ⟨T0, u1, u2, rfl, hT0, rfl, e1, e2⟩
        cases e1
        obtain ⟨z2, c2, rfl⟩ := map_int e2
        obtain ⟨f2, d2, rfl⟩ := ki_get c2
        have i2l := (List.getElem?_eq_some_iff.mp d2).1
        have hDT : D ≠ T0 := fun z => by rw [z, hT0] at hd0; cases hd0
        have sT : Same H4 (upd H0 T0 (.tup [.int (i2 : Int), .int (f2 : Int)])) := s0.trans (AL.Same.new hT0)
        have laT := la.same (s4.trans sT)
        refine ⟨T0, _, rfl, SqT.of upd_same, rfl, _, _, rfl, _, _, rfl, rfl, rfl, ?_⟩
        refine ⟨_, rfl, _, rfl, l, _, rfl, laT.seq, rfl, flat_zN js, _, rfl, ?_⟩
        have me := zeroE_get js d2
        have put : ∀ v : V, v = .int (((if i2 ∈ js then 0 else f2 : Nat) : Int)) → ∃ acc, upd H0 T0 (.tup [.int (i2 : Int), .int (f2 : Int)]) D = some (.lst acc) ∧ acc.length < sizeLine ∧ Same H4 (upd (upd H0 T0 (.tup [.int (i2 : Int), .int (f2 : Int)])) D (.lst (acc ++ [v]))) ∧ upd (upd H0 T0 (.tup [.int (i2 : Int), .int (f2 : Int)])) D (.lst (acc ++ [v])) D = some (.lst ((ki ((zeroE js p.1).take (i2 + 1))).map V.int)) := fun v hv => by
          refine ⟨_, Eq.trans (upd_ne hDT) hd0, ?_, AL.Same.updn sT hD2, ?_⟩
          · rw [List.length_map, len_ki, List.length_take]
            exact Nat.lt_of_le_of_lt (by omega : _ ≤ 100) (by decide)
          · rw [upd_same, List.take_add_one, me, hv]
            unfold ki
            rw [List.map_append, List.map_append]
            rfl
        rw [inV_zN]
        by_cases hj : i2 ∈ js
        · rw [decide_eq_true hj]
          refine iteT ?_
          exact put _ (by rw [if_pos hj]; rfl)
        · rw [decide_eq_false hj]
          refine iteF ?_
          exact ⟨_, rfl, put _ (by rw [if_neg hj])⟩
      · rintro H5 ⟨s5, hd5⟩
        rw [List.take_of_length_le (by rw [List.length_map, len_ki, zeroE_len]; exact Nat.le_refl _)] at hd5
        refine ⟨D, _, rfl, .inl ⟨SqL.of hd5, fun kk hkk => ?_⟩⟩
        have nk := AL.Same.new (o := .tup ((ki (zeroE js p.1)).map V.int)) hkk
        refine ⟨_, rfl, (by show 2 ≤ sizeLine; decide), fun t ht => ?_⟩
        have nt := AL.Same.new (o := .tup [.ref kk, .ref r1]) ht
        have s6 := s5.trans (nk.trans nt)
        have hD6 := s6 _ _ hD4
        have ts6 := upd_tups (o := .lst (us.map V.ref ++ [V.ref t])) hD6 (fun _ z => nomatch z)
        refine ⟨_, hD6, ?_, AL.Same.updn (s4.trans s6) hD, us ++ [t], by rw [upd_same, List.map_append]; rfl, ?_⟩
        · have l1 := prd_len en4
          unfold outL at l1
          rw [List.length_map, List.length_take] at l1
          rw [List.length_map]
          exact Nat.lt_of_le_of_lt (by omega : _ ≤ 1000) (by decide)
        · unfold outL at en4 ⊢
          rw [List.take_add_one, hp, List.map_append]
          refine prd_snoc (paired_mono en4 fun _ _ w => ?_) ⟨kk, r1, ts6 _ _ upd_same, ts6 _ _ (nt _ _ upd_same), ts6 _ _ (s6 _ _ hr1)⟩
          obtain ⟨k8, r8, w1, w2, w3⟩ := w.same s6
          exact ⟨k8, r8, ts6 _ _ w1, ts6 _ _ w2, ts6 _ _ w3⟩
    · rintro H4 ⟨s4, us, hD4, en4⟩
      rw [List.length_map, lna, List.take_length] at en4
      have lo : (outL js a).length = a.length := by unfold outL; rw [List.length_map]
      refine ⟨_, rfl, x, _, dx, _, _, rfl, (s4 _ _ ex), Es.cl, Es.nS, flP_s _ _, _, rfl, ?_⟩
      have tv : Paired (TermV K H4) us (outL js a) := by
        have md' : ∀ r ∈ outL js a, Mid r.2.num r.2.den := fun r hr => by
          unfold outL at hr
          obtain ⟨p, hp, rfl⟩ := List.mem_map.mp hr
          exact md p hp
        clear lo
        revert md'
        generalize outL js a = rs at en4
        intro md'
        clear hD4
        induction en4 with
        | nil => exact .nil
        | cons r _ ih =>
          refine .cons ?_ (ih fun r hr => md' r (List.mem_cons_of_mem _ hr))
          obtain ⟨k, r8, g1, g2, g3⟩ := r
          exact ⟨k, _, _, _, g1, g2, .pair g3 (Rat.den_pos _), md' _ (List.mem_cons_self ..), Rat.mkRat_self _⟩
      exact make_p (k := true) (ts := us) (l := outL js a) (SqL.of hD4) tv (outL_pb js ca.pb) hn hE (by omega) (by rw [lo]; exact zz)
        fun y H' m s6 p6 c6 l6 e6 => q y H' m (s4.trans s6) p6 (by rw [lo] at c6; exact c6) (by omega) e6
end
end AL
set_option Elab.async false
set_option maxRecDepth 100000
set_option exponentiation.threshold 70000
set_option maxHeartbeats 1000000
namespace AL
open PySem PySem.Spec PyProof.Rows L2 RZ
section
variable {P : Program} {w : World} {K : PySem.W.Frag} {mg : Str → Option Value} {base : Heap}

theorem made_sm {H : Hp} {z dz : Addr} {o : HO} (h1 : H z = none) (h2 : H dz = none) : Same H (upd (upd H dz (.own z)) z o) := fun b o' e => by
  rw [upd_ne (ne_of_none e h1), upd_ne (ne_of_none e h2)]; exact e
theorem flQ_s (a b c : V) : ([("size", a), ("top", b), ("bottom", c)] : List (Str × V)).lookup ("size" : Str) = some a := rfl
/-- called_one(f, letters), good letters -/
def spCo (CP CQ BZ : Addr) : Sp := fun vs H Q E => ∃ (q0 l : Addr) (n Em D B : Nat) (a b : PM) (js : List Nat), vs = [.ref q0, .ref l] ∧ QuoAt CP CQ H q0 n a b ∧ Can n Em D B a ∧ Can n Em D B b ∧ LetA H l n js ∧ n ≤ 80 ∧ Em ≤ 80 ∧ a.length < 64 ∧ b.length < 64 ∧ D < 2 ^ 1400 ∧ (B * 64) * D < 2 ^ 5900 ∧ (B * 64) * D * D < 2 ^ 5990 ∧
  ∀ a' b', Can n Em D (B * 64) a' → Can n Em D (B * 64) b' → Eqp a' (outL js a) → Eqp b' (outL js b) →
    (b' = [] → ∀ d H2, H2 d = none → Same H H2 → E (.ref BZ) (some d) (upd H2 d errZ)) ∧
    (b' ≠ [] → ∀ z H' t u, Same H H' → QuoAt CP CQ H' z n t u → Can n Em 1 (B * 64 * D * D * 64 + 1) t → Can n Em 1 (B * 64 * D * D * 64 + 1) u → t.length ≤ a.length → u.length ≤ b.length + 1 → FormOf n a' b' t u → Q (.ref z) H')

abbrev stcalled_one : Stmt := top 35
theorem sccalled_one : FnScope ["f", "letters"] ["f", "letters"] (defScope stcalled_one) := ⟨rfl, rfl, rfl, by decide +kernel, rfl, by decide +kernel, by decide +kernel⟩
theorem okcalled_one (B : Blt mg) {CPoly CQuotient BZ BN BM UL fZ fN : Addr} {fdZ fdN : FuncData} (Es : ErP K mg CPoly CQuotient BZ BN BM UL fZ fN fdZ fdN) {flowest : Addr} {fdlowest : FuncData} (Dlowest : DefAt K mg "lowest" stlowest ["top", "bottom"] flowest fdlowest) {fas_ratio : Addr} {fdas_ratio : FuncData} (Das_ratio : DefAt K mg "as_ratio" stas_ratio ["value"] fas_ratio fdas_ratio) {fis_whole : Addr} {fdis_whole : FuncData} (Dis_whole : DefAt K mg "is_whole" stis_whole ["value"] fis_whole fdis_whole) {fare_integers : Addr} {fdare_integers : FuncData} (Dare_integers : DefAt K mg "are_integers" stare_integers ["items"] fare_integers fdare_integers) {fis_ratio : Addr} {fdis_ratio : FuncData} (Dis_ratio : DefAt K mg "is_ratio" stis_ratio ["value"] fis_ratio fdis_ratio) {fis_term : Addr} {fdis_term : FuncData} (Dis_term : DefAt K mg "is_term" stis_term ["term", "size"] fis_term fdis_term) {fratio_sum : Addr} {fdratio_sum : FuncData} (Dratio_sum : DefAt K mg "ratio_sum" stratio_sum ["one", "other"] fratio_sum fdratio_sum) {fP_init : Addr} {fdP_init : FuncData} (DP_init : IniA K "__init__" "Poly.__init__" stP_init ["self", "size", "terms"] CPoly fP_init fdP_init) {flowered : Addr} {fdlowered : FuncData} (Dlowered : DefAt K mg "lowered" stlowered ["terms", "least"] flowered fdlowered) {fbrought : Addr} {fdbrought : FuncData} (Dbrought : DefAt K mg "brought" stbrought ["poly", "scale", "least"] fbrought fdbrought) {fcommon_bottom : Addr} {fdcommon_bottom : FuncData} (Dcommon_bottom : DefAt K mg "common_bottom" stcommon_bottom ["ratios"] fcommon_bottom fdcommon_bottom) {fform_scale : Addr} {fdform_scale : FuncData} (Dform_scale : DefAt K mg "form_scale" stform_scale ["terms", "first"] fform_scale fdform_scale) {fleast_exponents : Addr} {fdleast_exponents : FuncData} (Dleast_exponents : DefAt K mg "least_exponents" stleast_exponents ["terms"] fleast_exponents fdleast_exponents) {fnumber_poly : Addr} {fdnumber_poly : FuncData} (Dnumber_poly : DefAt K mg "number_poly" stnumber_poly ["size", "ratio"] fnumber_poly fdnumber_poly) {fQ_init : Addr} {fdQ_init : FuncData} (DQ_init : IniA K "__init__" "Quotient.__init__" stQ_init ["self", "top", "bottom"] CQuotient fQ_init fdQ_init) {fis_index : Addr} {fdis_index : FuncData} (Dis_index : DefAt K mg "is_index" stis_index ["value", "many"] fis_index fdis_index) {fis_list : Addr} {fdis_list : FuncData} (Dis_list : DefAt K mg "is_list" stis_list ["value"] fis_list fdis_list) {fcheck_indices : Addr} {fdcheck_indices : FuncData} (Dcheck_indices : DefAt K mg "check_indices" stcheck_indices ["letters", "many"] fcheck_indices fdcheck_indices) {fwithout_letters : Addr} {fdwithout_letters : FuncData} (Dwithout_letters : DefAt K mg "without_letters" stwithout_letters ["poly", "letters"] fwithout_letters fdwithout_letters) {fcalled_one : Addr} {fdcalled_one : FuncData} (Dcalled_one : DefAt K mg "called_one" stcalled_one ["f", "letters"] fcalled_one fdcalled_one) : FnOk P w K mg base (L2.CX P w) 14 fcalled_one fdcalled_one ["f", "letters"] (spCo CPoly CQuotient BZ) := by
  have OKQ_init : FnOk P w K mg base (L2.CX P w) 11 fQ_init fdQ_init ["self", "top", "bottom"] (spQIni K CPoly CQuotient BZ) := okQ_init B Es Dlowest Das_ratio Dis_whole Dare_integers Dis_ratio Dis_term Dratio_sum DP_init Dlowered Dbrought Dcommon_bottom Dform_scale Dleast_exponents Dnumber_poly DQ_init
  have OKcheck_indices : FnOk P w K mg base CX0 3 fcheck_indices fdcheck_indices ["letters", "many"] spCi := okcheck_indices B Es Dis_whole Dis_index Dis_list Dcheck_indices
  have OKwithout_letters : FnOk P w K mg base CX0 8 fwithout_letters fdwithout_letters ["poly", "letters"] (spWl K CPoly) := okwithout_letters B Es Dlowest Das_ratio Dis_whole Dare_integers Dis_ratio Dis_term Dratio_sum DP_init Dwithout_letters
  refine Dcalled_one.F.okX sccalled_one (fun vs H Q E h => ?_) (fun cdv A outer s H vs Q E hr h => ?_)
  · obtain ⟨q0, l, n, Em, D0, B0, a, b, js, rfl, _⟩ := h; rfl
  · have hu := hu_of hr
    refine ⟨_, (pss_cons (ps_expr (pe_call OKcheck_indices (hr.mono (by decide)) rfl Dcheck_indices.m Dcheck_indices.F.kp Dcheck_indices.b .nil pass0 (pa_cons (pv 1) (pa_cons (pe_fld (pv 0) rfl) pa_nil))))
    (pss_one (ps_ret (pe_make DQ_init.M OKQ_init (hr.mono (by decide)) rfl Es.mQ DQ_init.b .nil (passes_call (takes_of rfl rfl rfl rfl) (fun _ _ _ _ h => h)) (pa_cons (pe_call OKwithout_letters (hr.mono (by decide)) rfl Dwithout_letters.m Dwithout_letters.F.kp Dwithout_letters.b .nil pass0 (pa_cons (pe_fld (pv 0) rfl) (pa_cons (pv 1) pa_nil))) (pa_cons (pe_call OKwithout_letters (hr.mono (by decide)) rfl Dwithout_letters.m Dwithout_letters.F.kp Dwithout_letters.b .nil pass0 (pa_cons (pe_fld (pv 0) rfl) (pa_cons (pv 1) pa_nil))) pa_nil)))))), ?_⟩
    obtain ⟨q0, l, n, Em, D0, B0, a, b, js, rfl, hq, ca, cb, la, hn, hE, fa, fb, hD, hBD, big, q⟩ := h
    obtain ⟨dq, x, y, eq, X, Y⟩ := hq
    have m59 : (2 : Nat) ^ 5900 < 2 ^ 5999 := Nat.pow_lt_pow_right (by decide) (by decide)
    have bd0 : B0 * D0 ≤ B0 * 64 * D0 := Nat.mul_le_mul_right _ (Nat.le_mul_of_pos_right _ (by decide))
    have zz : ∀ k, k ≤ 64 → Szs D0 B0 k := fun k hk =>
      ⟨Nat.lt_trans (Nat.lt_of_le_of_lt (Nat.mul_le_mul_right _ (Nat.mul_le_mul_left _ hk)) hBD) m59, Nat.lt_trans (Nat.lt_of_le_of_lt bd0 hBD) m59, Nat.lt_trans hD (Nat.pow_lt_pow_right (by decide) (by decide))⟩
    have md : ∀ (c : PM), Can n Em D0 B0 c → ∀ p ∈ c, Mid p.2.num p.2.den := fun c cc p hp => by
      have w := (cc.pb p hp).2.2.le
      exact ⟨p.2.den_pos, Nat.lt_trans (Nat.lt_of_le_of_lt w.1 (Nat.lt_of_le_of_lt bd0 hBD)) (Nat.pow_lt_pow_right (by decide) (by decide)), Nat.lt_trans (Nat.lt_of_le_of_lt w.2 hD) (Nat.pow_lt_pow_right (by decide) (by decide))⟩
    refine ⟨_, rfl, _, rfl, q0, _, dq, _, _, rfl, eq, Es.clQ, Es.qS, flQ_s _ _ _, l, n, js, rfl, la, fun H1 s1 => ?_⟩
    refine ⟨_, rfl, q0, _, dq, _, _, rfl, (s1 _ _ eq), Es.clQ, Es.qT, flQ_t _ _ _, _, rfl, x, l, n, Em, D0, B0, a, js, rfl, X.same s1, ca, la.same s1, hn, hE, fa, zz _ (by omega), md a ca, fun z1 H2 a' s2 A c1 l1 e1 => ?_⟩
    have s12 := s1.trans s2
    refine ⟨_, rfl, q0, _, dq, _, _, rfl, (s12 _ _ eq), Es.clQ, Es.qB, flQ_b _ _ _, _, rfl, y, l, n, Em, D0, B0, b, js, rfl, Y.same s12, cb, la.same s12, hn, hE, fb, zz _ (by omega), md b cb, fun z2 H3 b' s3 B c2 l2 e2 => ?_⟩
    have s13 := s12.trans s3
    have up : ∀ {m c : PM}, m.length < 64 → Can n Em D0 (B0 * m.length) c → Can n Em D0 (B0 * 64) c := fun h k => ⟨k.asc, k.nz, k.pb.mono (Nat.mul_le_mul_left _ (by omega)) (Nat.le_refl _)⟩
    have k1 := up fa c1
    have k2 := up fb c2
    obtain ⟨qz, qg⟩ := q a' b' k1 k2 e1 e2
    intro z dz h1 h2 h3
    have s0 := made_sm (o := .ins CQuotient dz []) h1 h2
    refine ⟨z, dz, z1, z2, n, Em, D0, B0 * 64, a', b', rfl, upd_same, (A.same s3).same s0, B.same s0, k1, k2, hn, hE, by omega, by omega, hD, hBD, big, ?_⟩
    by_cases hb : b' = []
    · exact .inl ⟨hb, fun d H2 hd s => qz hb d H2 hd (s13.trans (s0.trans s))⟩
    refine .inr ⟨hb, fun H' x' y' t u kp hq XX YY ct cu lt lu FO => ⟨rfl, ?_⟩⟩
    exact qg hb z H' t u (s13.trans fun b o w => kp b o (ne_of_none w h1) (s0 b o w)) ⟨dz, x', y', hq, XX, YY⟩ ⟨ct.asc, ct.nz, ct.pb.mono (by omega) (Nat.le_refl _)⟩ cu (by omega) (by omega) FO
end
end AL
set_option Elab.async false
set_option linter.all false
set_option maxRecDepth 100000
/-! dicts whose keys are exponents, their values whole numbers -/
namespace AL
open PySem PySem.Spec PyProof.Rows L2 RZ
abbrev ZM := List (Ex × Int)
def entZ (p : Ex × Int) : List Key × V := (keyL p.1, .int p.2)
def DicZ (H : Hp) (a : Addr) (m : ZM) : Prop := H a = some (.dT (m.map entZ))
def toQ (m : ZM) : PM := m.map fun p => (p.1, ((p.2 : Int) : Rat))
def getZ (m : ZM) (e : Ex) : Option Int := (m.find? fun p => decide (p.1 = e)).map (·.2)
def hasZ (m : ZM) (e : Ex) : Bool := m.any fun p => decide (p.1 = e)
def putZ (m : ZM) (e : Ex) (v : Int) : ZM := if hasZ m e = true then m.map (fun p => if p.1 = e then (p.1, v) else p) else m ++ [(e, v)]
theorem DicZ.same {H H' : Hp} {a : Addr} {m : ZM} (h : DicZ H a m) (s : Same H H') : DicZ H' a m := s _ _ h
theorem entZ_key {p : Ex × Int} {e : Ex} : ((entZ p).1 = keyL e) ↔ p.1 = e := ⟨fun w => keyL_inj w, fun w => congrArg keyL w⟩
theorem valV_Z (e : Ex) : ∀ m : ZM, valV (m.map entZ) (keyL e) = (getZ m e).map V.int
  | [] => rfl
  | p :: m => by
    by_cases z : p.1 = e
    · rw [List.map_cons, valV_pos (entZ_key.mpr z)]
      unfold getZ; rw [List.find?_cons, decide_eq_true z]; rfl
    · rw [List.map_cons, valV_neg (fun w => z (entZ_key.mp w)), valV_Z e m]
      unfold getZ; rw [List.find?_cons, decide_eq_false z]
theorem any_Z (e : Ex) (m : ZM) : (m.map entZ).any (fun kv => decide (kv.1 = keyL e)) = hasZ m e := by
  unfold hasZ
  rw [List.any_map]
  congr 1
  funext p
  exact decide_eq_decide.mpr entZ_key
theorem putK_Z (m : ZM) (e : Ex) (v : Int) : putK (m.map entZ) (keyL e) (.int v) = (putZ m e v).map entZ := by
  unfold putK putZ
  rw [any_Z]
  by_cases z : hasZ m e = true
  · rw [if_pos z, if_pos z, List.map_map, List.map_map]
    refine List.map_congr_left fun p _ => ?_
    show (if (entZ p).1 = keyL e then ((entZ p).1, V.int v) else entZ p) = entZ (if p.1 = e then (p.1, v) else p)
    by_cases w : p.1 = e
    · rw [if_pos w, if_pos (entZ_key.mpr w)]; rfl
    · rw [if_neg w, if_neg (fun u => w (entZ_key.mp u))]
  · rw [if_neg z, if_neg z, List.map_append]; rfl
theorem dz_get {H : Hp} {a k : Addr} {m : ZM} {e : Ex} (D : DicZ H a m) (hk : KeyAt H k e) : DGet H a (.ref k) ((getZ m e).map V.int) := by
  rw [← valV_Z]; exact .t D (keyAt_L hk)
theorem dz_put {H : Hp} {a k : Addr} {m : ZM} {e : Ex} {v : Int} (D : DicZ H a m) (hk : KeyAt H k e) (few : m.length < sizeLine) : DPut H a (.ref k) (.int v) (upd H a (.dT ((putZ m e v).map entZ))) := by
  rw [← putK_Z]
  exact .t D (keyAt_L hk) (by rw [List.length_map]; exact few)
theorem toQ_keys (m : ZM) : (toQ m).map (·.1) = m.map (·.1) := by unfold toQ; rw [List.map_map]; rfl
theorem toQ_len (m : ZM) : (toQ m).length = m.length := List.length_map _
theorem toQ_app (a b : ZM) : toQ (a ++ b) = toQ a ++ toQ b := List.map_append
theorem toQ_get (e : Ex) : ∀ m : ZM, getM (toQ m) e = (getZ m e).map fun z : Int => (z : Rat)
  | [] => rfl
  | p :: m => by
    have ih := toQ_get e m
    unfold getM getZ toQ at ih ⊢
    rw [List.map_cons, List.find?_cons, List.find?_cons]
    show Option.map _ (match decide (p.1 = e) with | true => _ | false => _) = _
    cases decide (p.1 = e) with
    | true => rfl
    | false => exact ih
theorem toQ_has (m : ZM) (e : Ex) : hasM (toQ m) e = hasZ m e := by
  unfold hasM hasZ toQ
  rw [List.any_map]
  rfl
theorem toQ_put (m : ZM) (e : Ex) (v : Int) : toQ (putZ m e v) = putM (toQ m) e (v : Rat) := by
  unfold putZ putM
  rw [toQ_has]
  by_cases z : hasZ m e = true
  · rw [if_pos z, if_pos z]
    unfold toQ
    rw [List.map_map, List.map_map]
    refine List.map_congr_left fun p _ => ?_
    show (((if p.1 = e then (p.1, v) else p) : Ex × Int).1, ((((if p.1 = e then (p.1, v) else p) : Ex × Int).2 : Int) : Rat)) = if p.1 = e then (p.1, (v : Rat)) else (p.1, ((p.2 : Int) : Rat))
    by_cases w : p.1 = e
    · rw [if_pos w, if_pos w]
    · rw [if_neg w, if_neg w]
  · rw [if_neg z, if_neg z, toQ_app]; rfl
theorem putZ_mem {m : ZM} {e : Ex} {v : Int} {p : Ex × Int} (h : p ∈ putZ m e v) : p ∈ m ∨ p = (e, v) := by
  unfold putZ at h
  split at h
  · obtain ⟨q, hq, rfl⟩ := List.mem_map.mp h
    split
    · rename_i w; exact .inr (by rw [w])
    · exact .inl hq
  · rcases List.mem_append.mp h with z | z
    · exact .inl z
    · exact .inr (List.mem_singleton.mp z)
theorem putZ_len (m : ZM) (e : Ex) (v : Int) : (putZ m e v).length ≤ m.length + 1 := by
  have := put_len (toQ m) e (v : Rat)
  rw [← toQ_put, toQ_len, toQ_len] at this; exact this
theorem putZ_ne (m : ZM) (e : Ex) (v : Int) : putZ m e v ≠ [] := by
  unfold putZ
  split
  · rename_i h
    intro z
    rw [List.map_eq_nil_iff] at z
    subst z; cases h
  · simp
theorem putZ_nodup {m : ZM} (nd : (m.map (·.1)).Nodup) (e : Ex) (v : Int) : ((putZ m e v).map (·.1)).Nodup := by
  have := put_nodup (m := toQ m) (by rw [toQ_keys]; exact nd) e (v : Rat)
  rwa [← toQ_put, toQ_keys] at this
end AL
set_option Elab.async false
set_option linter.all false
set_option maxRecDepth 100000
set_option maxHeartbeats 2000000
/-! d.setdefault(k, x) and {k: v} where the keys are tuples. -/
namespace AL
open PySem PySem.Spec PyProof.Rows L2
section
variable {X : Cx} {o e f : Expr} {td ty tx tv : TE} {apos cpos pos : Pos}
/-- what d.setdefault(y, z) asks and gives -/
def SetD (H : Hp) (a : Addr) (y z : V) (Q : VK) : Prop := ∃ kvs k b, H a = some (.dT kvs) ∧ y = .ref b ∧ H b = some (.tup (k.map kV)) ∧ kvs.length < sizeLine ∧
  (∀ v, valV kvs k = some v → Q v H) ∧ (valV kvs k = none → Q z (upd H a (.dT (putK kvs k z))))
def tSetD (td ty tx : TE) : TE := fun σ H Q => td σ H fun x H1 => ∃ a, x = .ref a ∧ IsD H1 a ∧ ty σ H1 fun y H2 => tx σ H2 fun z H3 => SetD H3 a y z Q
theorem pe_setd (hu : X.A.units + 1 < cLine) (ho : PE X o td) (he : PE X e ty) (hf : PE X f tx) (m : M2 X o "setdefault" apos e f cpos) : PE X (.Call (.Attribute o "setdefault" apos) [e, f] [] cpos) (tSetD td ty tx) := by
  refine ⟨fun pins s σ H Q I h => ?_⟩
  refine wpAny_Call_method m.base m.few m.line PySem.F.plainAttrs_dict PySem.F.slot_dict_setdefault PySem.F.type_dict_setdefault (thn (ho.run pins s σ H _ I h) fun u s1 ⟨x, H1, I1, rx, a, ex, d, q1⟩ => ?_)
  subst ex
  obtain rfl : u = Value.ref a := rx
  obtain ⟨t1, t2, _⟩ := isD_at I1 d
  refine ⟨t1, t2, ?_⟩
  rw [m.trees]
  refine Calls.callWith_builtin rfl (Calls.evalArgs_plain (Calls.spliced_cons (thn (he.run pins s1 σ H1 _ I1 q1) fun iv s2 ⟨y, H2, I2, ry, q2⟩ =>
    Calls.spliced_cons (thn (hf.run pins s2 σ H2 _ I2 q2) fun fv s3 ⟨z, H3, I3, rz, kvs, k, b, g1, g2, g3, g4, g5, g6⟩ => Calls.spliced_nil ?_))))
  subst g2
  cases (show iv = Value.ref b from ry)
  obtain ⟨hz0, hd, xs, rel, dd⟩ := dt_of I3.hok g1
  have hz : xs.length ≤ sizeLine := by rw [← Paired.length rel]; exact hz0
  refine call_setdefault_heap (hsz := hz) (tupleKind_room_in1 hu) (key_of I3.hok g3) hd dd (fun p hp => ?_) (fun hn h' dd' hs => ?_)
  · have w := KT.val rel k
    rw [hp] at w
    cases hv : valV kvs k with
    | none => rw [hv] at w; cases w
    | some v =>
      rw [hv] at w
      exact ⟨v, H3, I3.tok _, w, g5 v hv⟩
  · have hv : valV kvs k = none := by
      have w := KT.val rel k
      rw [hn] at w
      cases hv : valV kvs k with
      | none => rfl
      | some v => rw [hv] at w; cases w
    have hl : (putK kvs k z).length ≤ sizeLine := by have := length_putK kvs k z; omega
    obtain ⟨q, es, ep, hq, h2, h3, h4, _, h5⟩ := dd'
    refine ⟨z, upd H3 a (.dT (putK kvs k z)), d_write I3 (by rw [g1]; exact True.intro) hs ⟨q, hq⟩ ⟨hl, hd, _, (rel.put k g3 rz).keeps fun c ys ec => ?_, q, es, ep, hq, h2, h3, h4, h5⟩, rz, g6 hv⟩
    rw [upd_ne (ne_of ec g1 (fun z => nomatch z))]
    exact ec
/-- {y: z}, y a tuple -/
def tDisp1 (tk tv : TE) : TE := fun σ H Q => ∀ p, H p = none → tk σ (upd H p (.dT [])) fun y H2 => tv σ H2 fun z H3 => ∃ k b, y = .ref b ∧ H3 p = some (.dT []) ∧ H3 b = some (.tup (k.map kV)) ∧ Q (.ref p) (upd H3 p (.dT [(k, z)]))
theorem pe_disp1 (hu : X.A.units + 1 < cLine) (he : PE X e ty) (hf : PE X f tx) : PE X (.Dict [some e] [f] pos) (tDisp1 ty tx) := by
  refine ⟨fun pins s σ H Q I h => ?_⟩
  have hn := I.hok.fresh (Nat.le_refl s.heap.objs.size)
  have new0 : ObjOk X.prog X.w (upd H s.heap.objs.size (.dT [])) (s.heap.push { cls := .type "dict", data := .dict #[] }) s.heap.objs.size (.dT []) :=
    ⟨Nat.zero_le _, beq_eq_false_iff_ne.mpr (Ne.symm (Nat.ne_of_lt I.big)), [], .nil, _, #[], 0, Heap.get?_push_size _ rfl, ⟨rfl, rfl, rfl⟩, rfl, rfl, List.nodup_nil⟩
  have I1 := I.laid (a := s.heap.objs.size) (o := .dT []) (h' := s.heap.push { cls := .type "dict", data := .dict #[] }) (t' := s.toks) (fun _ _ q => Heap.get?_push_of_some _ q) (Nat.le_refl _) new0
  have shape : (evalEachOpt [some e] X.env).zip ((evalEach [f] X.env).map fun v => do let x ← v; standAt pos; pure x) = [(eval e X.env, do let x ← eval f X.env; standAt pos; pure x)].map fun p => (some p.1, p.2) := rfl
  rw [arm_eval_Dict, shape, dictDisplay_pairs _ (by simp) (by simp)]
  refine wpAny_bind (wpAny_standAt (wpAny_bind (wpAny_subDictH (knd := tupleKind (mixKind X.prog X.w)) (Q := fun d s' => wpAny (model X.prog X.w) X.A (pure (Value.ref d)) (EP X pins σ Q) X.xe s') (show X.A.units < cLine by omega) (by simp) ?_)))
  unfold evalPairs
  refine wpAny_bind (thn (he.run pins _ σ _ _ I1 (h _ hn)) fun kv s2 ⟨y, H2, I2, ry, q2⟩ => ?_)
  refine wpAny_bind (wpAny_holding (wpAny_bind (thn (hf.run pins s2 σ H2 _ I2 q2) fun vv s3 ⟨z, H3, I3, rz, k, b, g1, g2, g3, g4⟩ => ?_)))
  refine wpAny_bind (wpAny_standAt (wpAny_pure (wpAny_bind (wpAny_holding ?_))))
  unfold evalPairs
  refine wpAny_pure (wpAny_pure ?_)
  subst g1
  cases (show kv = Value.ref b from ry)
  obtain ⟨hz0, hd, xs, rel, dd⟩ := dt_of I3.hok g2
  cases rel
  refine ⟨[(k, b, vv)], ⟨rfl, rfl, key_of I3.hok g3, trivial⟩, dd, fun h' tk dd' hs => wpAny_pure ?_⟩
  have one : (tupleKind (mixKind X.prog X.w)).is = (tupleKind (mixKind X.prog X.w)).is := rfl
  obtain ⟨q, es, ep, hq, h2, h3, h4, _, h5⟩ := dd'
  refine ⟨.ref s.heap.objs.size, upd H3 s.heap.objs.size (.dT [(k, z)]), d_write I3 (by rw [g2]; exact True.intro) hs ⟨q, hq⟩ ⟨by show 1 ≤ sizeLine; decide, hd, [(k, b, vv)], .cons ⟨rfl, ?_, rz⟩ .nil, q, es, ep, hq, h2, h3, h4, h5⟩, rfl, g4⟩
  show upd H3 s.heap.objs.size _ b = _
  rw [upd_ne (ne_of g3 g2 (fun z => nomatch z))]
  exact g3
end
end AL
set_option Elab.async false
set_option maxRecDepth 100000
set_option exponentiation.threshold 70000
set_option maxHeartbeats 1000000
namespace AL
open PySem PySem.Spec PyProof.Rows L2 RZ
section
variable {P : Program} {w : World} {K : PySem.W.Frag} {mg : Str → Option Value} {base : Heap}

theorem same_k7 {p : Addr} {H H' : Hp} (s : Same H H') : Keep p H H' := fun b o _ h => s _ _ h
theorem keep_upd7 {p : Addr} {H H' : Hp} {D : Addr} {o : HO} (k : Keep p H H') (h : H D = none) : Keep p H (upd H' D o) := fun b u nb e => by
  rw [upd_ne (ne_of_none e h)]; exact k b u nb e
theorem pen_ne7 {H : Hp} {p c : Addr} {m : Nat} {D : Addr} (P : Pen H p c m) (h : H D = none) : p ≠ D ∧ c ≠ D := by
  refine ⟨fun z => ?_, fun z => ?_⟩
  · obtain ⟨l, w⟩ := P.dict
    rw [z, h] at w; cases w
  · obtain ⟨ns, i, d, n, f, h1, h2, _⟩ := P.ex
    rw [z, h] at h2; cases h2
theorem pen_upd7 {H : Hp} {p c : Addr} {m : Nat} {D : Addr} {o : HO} (P : Pen H p c m) (h1 : p ≠ D) (h2 : c ≠ D) : Pen (upd H D o) p c m := P.keep (fun u e => by rw [upd_ne h1]; exact e) fun u e => by rw [upd_ne h2]; exact e
/-- a drawn polynomial -/
structure ZOk (n E C len : Nat) (z : ZM) : Prop where
  nd : (z.map (·.1)).Nodup
  ne : z ≠ []
  len : z.length ≤ len
  key : ∀ q ∈ z, q.1.length = n ∧ ∀ k ∈ q.1, k ≤ E
  sz : ∀ q ∈ z, q.2 ≠ 0 ∧ q.2.natAbs ≤ C
/-- _law_poly_drawn(pen, size, many, most) -/
def spPd : Sp := fun vs H Q _ => ∃ (p c : Addr) (m n k j : Nat), vs = [.ref p, .int (n : Int), .int (k : Int), .int (j : Int)] ∧ Pen H p c m ∧ m < 700000000 ∧ n ≤ 4 ∧ 1 ≤ k ∧ k ≤ 6 ∧ 1 ≤ j ∧ j ≤ 4 ∧
  ∀ d H' z, Pen H' p c (m + 500) → Keep p H H' → H d = none → d ≠ p → DicZ H' d z → ZOk n j 50 k z → Q (.ref d) H'

abbrev st_law_poly_drawn : Stmt := top 51
theorem sc_law_poly_drawn : FnScope ["_law_pen_here", "_law_size", "_law_many", "_law_most", "_law_found", "_law_lap", "_law_key", "_law_j"] ["_law_pen_here", "_law_size", "_law_many", "_law_most"] (defScope st_law_poly_drawn) := ⟨rfl, rfl, rfl, by decide +kernel, rfl, by decide +kernel, by decide +kernel⟩
theorem ok_law_poly_drawn (B : Blt mg)  {f_law_draw : Addr} {fd_law_draw : FuncData} (D_law_draw : DefAt K mg "_law_draw" st_law_draw ["_law_pen_here", "_law_many"] f_law_draw fd_law_draw) {f_law_pick : Addr} {fd_law_pick : FuncData} (D_law_pick : DefAt K mg "_law_pick" st_law_pick ["_law_pen_here", "_law_some"] f_law_pick fd_law_pick) {f_law_poly_drawn : Addr} {fd_law_poly_drawn : FuncData} (D_law_poly_drawn : DefAt K mg "_law_poly_drawn" st_law_poly_drawn ["_law_pen_here", "_law_size", "_law_many", "_law_most"] f_law_poly_drawn fd_law_poly_drawn) : FnOk P w K mg base CX0 3 f_law_poly_drawn fd_law_poly_drawn ["_law_pen_here", "_law_size", "_law_many", "_law_most"] spPd := by
  have OK_law_draw : FnOk P w K mg base CX0 1 f_law_draw fd_law_draw ["_law_pen_here", "_law_many"] spDraw := ok_law_draw B  D_law_draw
  have OK_law_pick : FnOk P w K mg base CX0 2 f_law_pick fd_law_pick ["_law_pen_here", "_law_some"] (spPick K) := ok_law_pick B  D_law_draw D_law_pick
  refine D_law_poly_drawn.F.ok sc_law_poly_drawn (fun vs H Q E h => ?_) (fun cdv A outer s H vs Q E hr h => ?_)
  · obtain ⟨p, c, m, n, k, j, rfl, _⟩ := h; rfl
  · have hu := hu_of hr
    refine ⟨_, (pss_cons (ps_set (i := 4) sc_law_poly_drawn.nd rfl (Or.inl rfl) pe_dnewT)
    (pss_cons (ps_for PassesOwn.never rfl (pi_range1 rfl B.range_ (pa_cons (pe_op op_add pe_int (pe_call OK_law_draw (hr.mono (by decide)) rfl D_law_draw.m D_law_draw.F.kp D_law_draw.b .nil pass0 (pa_cons (pv 0) (pa_cons (pv 2) pa_nil)))) pa_nil)) (pg_name (i := 5) sc_law_poly_drawn.nd rfl (Or.inl rfl))
      (pss_cons (ps_set (i := 6) sc_law_poly_drawn.nd rfl (Or.inl rfl) (pe_callTy (call_tupK : CallR _ _ (rTup K)) (by rfl) B.tuple_ (by decide +kernel) (pa_cons (pe_lc (own := [("_law_j", 7)]) (g := gName 7) (tt := tYes) rfl sc_law_poly_drawn.nd (pi_range1 rfl B.range_ (pa_cons (pv 1) pa_nil)) (blkOk_by (own := [("_law_j", 7)]) (N := ["_law_pen_here", "_law_size", "_law_many", "_law_most", "_law_found", "_law_lap", "_law_key", "_law_j"]) (sc := defScope st_law_poly_drawn) (by decide +kernel)) (fun _ _ _ _ _ => pg_name (i := 7) sc_law_poly_drawn.nd rfl (Or.inl rfl)) (fun _ _ _ _ _ => pts_nil) (fun _ _ _ _ _ => (pe_call OK_law_pick (hr.mono (by decide)) rfl D_law_pick.m D_law_pick.F.kp D_law_pick.b .nil pass0 (pa_cons (pv 0) (pa_cons (pe_lst (pa_cons pe_int (pa_cons pe_int (pa_cons pe_int (pa_cons (pe_call OK_law_draw (hr.mono (by decide)) rfl D_law_draw.m D_law_draw.F.kp D_law_draw.b .nil pass0 (pa_cons (pv 0) (pa_cons (pe_op op_add (pv 3) pe_int) pa_nil))) pa_nil))))) pa_nil))))) pa_nil)))
    (pss_one (ps_dput hu (pv 4) (pv 6) (pe_call OK_law_pick (hr.mono (by decide)) rfl D_law_pick.m D_law_pick.F.kp D_law_pick.b .nil pass0 (pa_cons (pv 0) (pa_cons (pe_lst (pa_cons pe_int (pa_cons pe_int (pa_cons (pe_un un_neg pe_int) (pa_cons pe_int (pa_cons (pe_un un_neg pe_int) (pa_cons (pe_op op_add pe_int (pe_call OK_law_draw (hr.mono (by decide)) rfl D_law_draw.m D_law_draw.F.kp D_law_draw.b .nil pass0 (pa_cons (pv 0) (pa_cons pe_int pa_nil)))) pa_nil))))))) pa_nil))) rfl))))
    (pss_one (ps_ret (pv 4))))), ?_⟩
    obtain ⟨p, c, m, n, k, j, rfl, P, hm, hn, k1, k6, j1, j4, q⟩ := h
    refine fun d hd => ?_
    have n0 := AL.Same.new (o := .dT []) hd
    have dp : d ≠ p := (pen_ne7 P hd).1.symm
    have dc : c ≠ d := (pen_ne7 P hd).2
    have g0 : DicZ (upd H d (.dT [])) d [] := upd_same
    have P0 := P.same n0
    have K0 : Keep p H (upd H d (.dT [])) := same_k7 n0
    generalize upd H d (.dT []) = H0 at g0 P0 K0 ⊢
    refine ⟨_, rfl, _, rfl, p, c, m, (k : Int), rfl, P0, by omega, by omega, by omega, fun r H1 r0 r1 P1 k1' => ⟨_, _, rfl, rfl, ?_⟩⟩
    have g1 : DicZ H1 d [] := k1' _ _ dp g0
    have K1 := K0.trans k1'
    refine ⟨_, rfl, by omega, by omega, for_range (lo := 0) (n := (1 + r).toNat) (fun i σ H' => ∃ (v5 v6 : Option V) (z : ZM), σ = [some (.ref p), some (.int (n : Int)), some (.int (k : Int)), some (.int (j : Int)), some (.ref d), v5, v6, none] ∧ Pen H' p c (m + 1 + i * 60) ∧ Keep p H H' ∧ DicZ H' d z ∧ (z.map (·.1)).Nodup ∧ z.length ≤ i ∧ (0 < i → z ≠ []) ∧ (∀ q ∈ z, q.1.length = n ∧ ∀ k ∈ q.1, k ≤ j) ∧ ∀ q ∈ z, q.2 ≠ 0 ∧ q.2.natAbs ≤ 50) ⟨none, none, [], rfl, P1.mono (by omega), K1, g1, List.nodup_nil, Nat.zero_le _, (fun h => absurd h (by decide)), (fun q hq => nomatch hq), (fun q hq => nomatch hq)⟩ ?_ ?_⟩
    · rintro i σ H2 hi ⟨v5, v6, z, rfl, P2, K2, g2, nd, zl, zne, zk, zs⟩
      have hi' : i < 7 := by omega
      refine ⟨_, rfl, _, rfl, by omega, by omega, fun DN hDN => ?_⟩
      have nD := AL.Same.new (o := .lst []) hDN
      obtain ⟨pD, cD⟩ := pen_ne7 P2 hDN
      refine lc_range (lo := 0) (n := ((n : Int)).toNat) (fun i2 H' => Pen H' p c (m + 1 + i * 60 + 2 * i2) ∧ Keep p H2 H' ∧ ∃ zs : Ex, zs.length = i2 ∧ (∀ z ∈ zs, z ≤ j) ∧ H' DN = some (.lst ((ki zs).map V.int))) ⟨(P2.same nD).mono (by omega), same_k7 nD, [], rfl, (fun z hz => nomatch hz), upd_same⟩ ?_ ?_
      · rintro i2 H3 hi2 ⟨P3, k3, es, le, be, he⟩
        refine ⟨rfl, ?_⟩
        refine ⟨_, rfl, _, rfl, _, rfl, _, _, rfl, rfl, p, c, _, (j : Int) + 1, rfl, P3, by omega, by omega, by omega, fun r2 H4 s0 s1 P4 k4 => ?_⟩
        refine ⟨(by show 4 ≤ sizeLine; decide), fun lp hlp => ?_⟩
        have n5 := AL.Same.new (o := .lst [.int 0, .int 0, .int 1, .int r2]) hlp
        refine ⟨p, c, lp, _, _, rfl, P4.same n5, by omega, SqL.of upd_same, (by show 0 < 4; decide), (by show 4 < 1000000000; decide), fun jx x H5 hx P5 k5 => ?_⟩
        obtain ⟨u, rfl, hu⟩ : ∃ u : Nat, x = V.int (u : Int) ∧ u ≤ j := by
          refine pick_of (P := fun x => ∃ u : Nat, x = V.int (u : Int) ∧ u ≤ j) (fun y hy => ?_) hx
          simp only [List.mem_cons, List.not_mem_nil, or_false] at hy
          rcases hy with rfl | rfl | rfl | rfl
          · exact ⟨0, rfl, by omega⟩
          · exact ⟨0, rfl, by omega⟩
          · exact ⟨1, rfl, by omega⟩
          · exact ⟨r2.toNat, by rw [Int.toNat_of_nonneg s0], by omega⟩
        have k35 := (k4.trans (same_k7 n5)).trans k5
        refine ⟨_, k35.at P3 he (fun _ z => nomatch z), ?_, (pen_upd7 P5 pD cD).mono (by omega), keep_upd7 (k3.trans k35) hDN, es ++ [u], ?_, ?_, ?_⟩
        · rw [List.length_map, len_ki, le]; exact Nat.lt_of_lt_of_le (by omega : i2 < 7) (by decide)
        · rw [List.length_append, le]; rfl
        · intro z hz
          rcases List.mem_append.mp hz with hz | hz
          · exact be z hz
          · rw [List.mem_singleton] at hz
            omega
        · rw [upd_same]
          unfold ki
          rw [List.map_append, List.map_append]
          rfl
      · rintro H3 ⟨P3, k3, es, le, be, he⟩
        rw [Int.toNat_natCast] at P3 le
        refine ⟨DN, _, rfl, .inl ⟨SqL.of he, fun kk hkk => ?_⟩⟩
        have nk := AL.Same.new (o := .tup ((ki es).map V.int)) hkk
        have hk : KeyAt (upd H3 kk (.tup ((ki es).map V.int))) kk es := upd_same
        have P4 := P3.same nk
        have k4 := k3.trans (same_k7 nk)
        generalize upd H3 kk (.tup ((ki es).map V.int)) = H4 at hk P4 k4 ⊢
        clear nk hkk P3 k3 he
        refine ⟨_, rfl, _, rfl, _, rfl, _, rfl, p, c, _, 50, rfl, P4, by omega, by decide, by decide, fun r2 H5 s0 s1 P5 k5 => ⟨_, _, rfl, rfl, ?_⟩⟩
        refine ⟨(by show 6 ≤ sizeLine; decide), fun lp hlp => ?_⟩
        have n5 := AL.Same.new (o := .lst [.int 1, .int 1, .int (-1), .int 2, .int (-3), .int (1 + r2)]) hlp
        refine ⟨p, c, lp, _, _, rfl, P5.same n5, by omega, SqL.of upd_same, (by show 0 < 6; decide), (by show 6 < 1000000000; decide), fun jx x H6 hx P6 k6 => ?_⟩
        obtain ⟨v, rfl, v0, v5'⟩ : ∃ v : Int, x = V.int v ∧ v ≠ 0 ∧ v.natAbs ≤ 50 := by
          refine pick_of (P := fun x => ∃ v : Int, x = V.int v ∧ v ≠ 0 ∧ v.natAbs ≤ 50) (fun y hy => ?_) hx
          simp only [List.mem_cons, List.not_mem_nil, or_false] at hy
          rcases hy with rfl | rfl | rfl | rfl | rfl | rfl
          · exact ⟨1, rfl, by decide, by decide⟩
          · exact ⟨1, rfl, by decide, by decide⟩
          · exact ⟨-1, rfl, by decide, by decide⟩
          · exact ⟨2, rfl, by decide, by decide⟩
          · exact ⟨-3, rfl, by decide, by decide⟩
          · exact ⟨1 + r2, rfl, by omega, by omega⟩
        have k46 := (k5.trans (same_k7 n5)).trans k6
        have hk6 := k46.at P4 hk (fun _ z => nomatch z)
        have k26 := k4.trans k46
        have g6 : DicZ H6 d z := k26 _ _ dp g2
        have e6 := dz_put (v := v) g6 hk6 (Nat.lt_of_le_of_lt (by omega : z.length ≤ 100) (by decide))
        have zl2 := putZ_len z es v
        refine ⟨_, rfl, _, rfl, d, _, rfl, e6, _, _, putZ z es v, rfl, (pen_upd7 P6 (Ne.symm dp) dc).mono (by omega), keep_upd7 (K2.trans k26) hd, upd_same, putZ_nodup nd es v, by omega, fun _ => putZ_ne z es v, fun q hq => ?_, fun q hq => ?_⟩
        · rcases putZ_mem hq with w | rfl
          · exact zk q w
          · exact ⟨le, be⟩
        · rcases putZ_mem hq with w | rfl
          · exact zs q w
          · exact ⟨v0, v5'⟩
    · rintro σ H1 ⟨v5, v6, z, rfl, P2, K2, g2, nd, zl, zne, zk, zs⟩
      exact ⟨_, rfl, q d H1 z (P2.mono (by omega)) K2 hd dp g2 ⟨nd, zne (by omega), by omega, zk, zs⟩⟩
end
end AL
set_option Elab.async false
set_option maxRecDepth 100000
set_option exponentiation.threshold 70000
set_option maxHeartbeats 1000000
namespace AL
open PySem PySem.Spec PyProof.Rows L2 RZ
section
variable {P : Program} {w : World} {K : PySem.W.Frag} {mg : Str → Option Value} {base : Heap}

/-- rows of whole numbers -/
def RowsZ (H : Hp) (w : Addr) (ws : List (List Int)) : Prop := ∃ as : List Addr, H w = some (.lst (as.map V.ref)) ∧ Paired (fun a r => H a = some (.lst (r.map V.int))) as ws
theorem RowsZ.keep {p c : Addr} {m : Nat} {H H' : Hp} {w : Addr} {ws : List (List Int)} (h : RowsZ H w ws) (P : Pen H p c m) (k : Keep p H H') : RowsZ H' w ws := by
  obtain ⟨as, h1, h2⟩ := h
  exact ⟨as, k.at P h1 (fun _ z => nomatch z), paired_mono h2 fun _ _ z => k.at P z (fun _ z => nomatch z)⟩
def spWts : Sp := fun vs H Q _ => ∃ (p c : Addr) (m n : Nat), vs = [.ref p, .int (n : Int)] ∧ Pen H p c m ∧ m < 700000000 ∧ n ≤ 4 ∧
  ∀ w H' ws, Pen H' p c (m + 20) → Keep p H H' → RowsZ H' w ws → ws.length ≤ 2 → (∀ r ∈ ws, r.length = n ∧ ∀ x ∈ r, x.natAbs ≤ 2) → Q (.ref w) H'

abbrev st_law_weights : Stmt := top 54
theorem sc_law_weights : FnScope ["_law_pen_here", "_law_size", "_law_lap", "_law_j"] ["_law_pen_here", "_law_size"] (defScope st_law_weights) := ⟨rfl, rfl, rfl, by decide +kernel, rfl, by decide +kernel, by decide +kernel⟩
theorem ok_law_weights (B : Blt mg)  {f_law_draw : Addr} {fd_law_draw : FuncData} (D_law_draw : DefAt K mg "_law_draw" st_law_draw ["_law_pen_here", "_law_many"] f_law_draw fd_law_draw) {f_law_pick : Addr} {fd_law_pick : FuncData} (D_law_pick : DefAt K mg "_law_pick" st_law_pick ["_law_pen_here", "_law_some"] f_law_pick fd_law_pick) {f_law_weights : Addr} {fd_law_weights : FuncData} (D_law_weights : DefAt K mg "_law_weights" st_law_weights ["_law_pen_here", "_law_size"] f_law_weights fd_law_weights) : FnOk P w K mg base CX0 3 f_law_weights fd_law_weights ["_law_pen_here", "_law_size"] spWts := by
  have OK_law_draw : FnOk P w K mg base CX0 1 f_law_draw fd_law_draw ["_law_pen_here", "_law_many"] spDraw := ok_law_draw B  D_law_draw
  have OK_law_pick : FnOk P w K mg base CX0 2 f_law_pick fd_law_pick ["_law_pen_here", "_law_some"] (spPick K) := ok_law_pick B  D_law_draw D_law_pick
  refine D_law_weights.F.ok sc_law_weights (fun vs H Q E h => ?_) (fun cdv A outer s H vs Q E hr h => ?_)
  · obtain ⟨p, c, m, n, rfl, _⟩ := h; rfl
  · have hu := hu_of hr
    refine ⟨_, (pss_one (ps_ret (pe_lc (own := [("_law_lap", 2)]) (g := gName 2) (tt := tYes) rfl sc_law_weights.nd (pi_range1 rfl B.range_ (pa_cons (pe_call OK_law_pick (hr.mono (by decide)) rfl D_law_pick.m D_law_pick.F.kp D_law_pick.b .nil pass0 (pa_cons (pv 0) (pa_cons (pe_lst (pa_cons pe_int (pa_cons pe_int (pa_cons pe_int (pa_cons pe_int pa_nil))))) pa_nil))) pa_nil)) (blkOk_by (own := [("_law_lap", 2)]) (N := ["_law_pen_here", "_law_size", "_law_lap", "_law_j"]) (sc := defScope st_law_weights) (by decide +kernel)) (fun _ _ _ _ _ => pg_name (i := 2) sc_law_weights.nd rfl (Or.inl rfl)) (fun _ _ _ _ _ => pts_nil) (fun _ _ _ _ _ => (pe_lc (own := [("_law_j", 3)]) (g := gName 3) (tt := tYes) rfl sc_law_weights.nd (pi_range1 rfl B.range_ (pa_cons (pv 1) pa_nil)) (blkOk_by (own := [("_law_j", 3)]) (N := ["_law_pen_here", "_law_size", "_law_lap", "_law_j"]) (by kernel_rfl)) (fun _ _ _ _ _ => pg_name (i := 3) sc_law_weights.nd rfl (Or.inl rfl)) (fun _ _ _ _ _ => pts_nil) (fun _ _ _ _ _ => (pe_op op_sub (pe_call OK_law_draw (hr.mono (by decide)) rfl D_law_draw.m D_law_draw.F.kp D_law_draw.b .nil pass0 (pa_cons (pv 0) (pa_cons pe_int pa_nil))) pe_int))))))), ?_⟩
    obtain ⟨p, c, m, n, rfl, P, hm, hn, q⟩ := h
    refine ⟨_, rfl, (by show 4 ≤ sizeLine; decide), fun lp hlp => ?_⟩
    have n5 := AL.Same.new (o := .lst [.int 0, .int 1, .int 1, .int 2]) hlp
    refine ⟨p, c, lp, _, _, rfl, P.same n5, by omega, SqL.of upd_same, (by show 0 < 4; decide), (by show 4 < 1000000000; decide), fun jx x H1 hx P1 k1 => ?_⟩
    obtain ⟨r, rfl, r2⟩ : ∃ r : Nat, x = V.int (r : Int) ∧ r ≤ 2 := by
      refine pick_of (P := fun x => ∃ r : Nat, x = V.int (r : Int) ∧ r ≤ 2) (fun y hy => ?_) hx
      simp only [List.mem_cons, List.not_mem_nil, or_false] at hy
      rcases hy with rfl | rfl | rfl | rfl
      · exact ⟨0, rfl, by decide⟩
      · exact ⟨1, rfl, by decide⟩
      · exact ⟨1, rfl, by decide⟩
      · exact ⟨2, rfl, by decide⟩
    have K1 : Keep p H H1 := (same_k7 n5).trans k1
    refine ⟨_, rfl, by omega, by omega, fun D1 hD => ?_⟩
    obtain ⟨pD, cD⟩ := pen_ne7 P1 hD
    have nD := AL.Same.new (o := .lst []) hD
    refine lc_range (lo := 0) (n := ((r : Int)).toNat) (fun i H' => Pen H' p c (m + 1 + 5 * i) ∧ Keep p H1 H' ∧ ∃ (as : List Addr) (ws : List (List Int)), H' D1 = some (.lst (as.map V.ref)) ∧ Paired (fun a r => a ≠ D1 ∧ H' a = some (.lst (r.map V.int))) as ws ∧ ws.length = i ∧ ∀ r ∈ ws, r.length = n ∧ ∀ x ∈ r, x.natAbs ≤ 2) ⟨(P1.same nD).mono (by omega), same_k7 nD, [], [], upd_same, .nil, rfl, (fun r hr => nomatch hr)⟩ ?_ ?_
    · rintro i H2 hi ⟨P2, k2, as, ws, hd, pr, wl, wz⟩
      refine ⟨rfl, ?_⟩
      refine ⟨_, rfl, _, rfl, by omega, by omega, fun D2 hD2 => ?_⟩
      obtain ⟨pD2, cD2⟩ := pen_ne7 P2 hD2
      have nD2 := AL.Same.new (o := .lst []) hD2
      refine lc_range (lo := 0) (n := ((n : Int)).toNat) (fun i2 H' => Pen H' p c (m + 1 + 5 * i + i2) ∧ Keep p H2 H' ∧ ∃ rs : List Int, H' D2 = some (.lst (rs.map V.int)) ∧ rs.length = i2 ∧ ∀ x ∈ rs, x.natAbs ≤ 2) ⟨(P2.same nD2).mono (by omega), same_k7 nD2, [], upd_same, rfl, (fun r hr => nomatch hr)⟩ ?_ ?_
      · rintro i2 H3 hi2 ⟨P3, k3, rs, he, le, be⟩
        refine ⟨rfl, ?_⟩
        refine ⟨_, rfl, p, c, _, 5, rfl, P3, by omega, by decide, by decide, fun v H4 v0 v1 P4 k4 => ⟨_, _, rfl, rfl, ?_⟩⟩
        refine ⟨_, k4.at P3 he (fun _ z => nomatch z), ?_, (pen_upd7 P4 pD2 cD2).mono (by omega), keep_upd7 (k3.trans k4) hD2, rs ++ [v - 2], ?_, ?_, ?_⟩
        · rw [List.length_map, le]; exact Nat.lt_of_lt_of_le (by omega : i2 < 7) (by decide)
        · rw [upd_same, List.map_append]; rfl
        · rw [List.length_append, le]; rfl
        · intro z hz
          rcases List.mem_append.mp hz with hz | hz
          · exact be z hz
          · rw [List.mem_singleton] at hz
            omega
      · rintro H3 ⟨P3, k3, rs, he, le, be⟩
        rw [Int.toNat_natCast] at P3 le
        have dd : D2 ≠ D1 := fun z => by rw [z, hd] at hD2; cases hD2
        have hd3 := k3.at P2 hd (fun _ z => nomatch z)
        refine ⟨_, hd3, ?_, (pen_upd7 P3 pD cD).mono (by omega), keep_upd7 (k2.trans k3) hD, as ++ [D2], ws ++ [rs], ?_, ?_, ?_, ?_⟩
        · have := prd_len pr
          rw [List.length_map, this, wl]; exact Nat.lt_of_lt_of_le (by omega : i < 7) (by decide)
        · rw [upd_same, List.map_append]; rfl
        · exact prd_snoc (paired_mono pr fun a r z => ⟨z.1, by rw [upd_ne z.1]; exact k3.at P2 z.2 (fun _ z => nomatch z)⟩) ⟨dd, by rw [upd_ne dd]; exact he⟩
        · rw [List.length_append, wl]; rfl
        · intro x hx
          rcases List.mem_append.mp hx with hx | hx
          · exact wz x hx
          · rw [List.mem_singleton.mp hx]; exact ⟨le, be⟩
    · rintro H2 ⟨P2, k2, as, ws, hd, pr, wl, wz⟩
      rw [Int.toNat_natCast] at P2 wl
      exact q D1 H2 ws (P2.mono (by omega)) (K1.trans k2) ⟨as, hd, paired_mono pr fun _ _ z => z.2⟩ (by omega) wz
end
end AL
set_option Elab.async false
set_option maxRecDepth 100000
set_option exponentiation.threshold 70000
set_option maxHeartbeats 1000000
namespace AL
open PySem PySem.Spec PyProof.Rows L2 RZ
section
variable {P : Program} {w : World} {K : PySem.W.Frag} {mg : Str → Option Value} {base : Heap}

theorem sqB_same {K : PySem.W.Frag} {H H' : Hp} {a : Addr} {xs : List V} {k : Bool} (h : SqB K H a xs k) (s : Same H H') : SqB K H' a xs k := by
  cases k with
  | true => exact Same.seq s h
  | false => exact seqT_same s h
def dotI (ns es : List Int) : Int := (List.zipWith (· * ·) ns es).sum
/-- dot(row, exponents) -/
def spDot (K : PySem.W.Frag) : Sp := fun vs H Q _ => ∃ (r k : Addr) (kb : Bool) (ns es : List Int), vs = [.ref r, .ref k] ∧ SqB K H r (ns.map V.int) kb ∧ H k = some (.tup (es.map V.int)) ∧ ns.length = es.length ∧ es.length ≤ 60 ∧ (∀ x ∈ ns, x.natAbs < 2 ^ 60) ∧ (∀ x ∈ es, x.natAbs < 2 ^ 60) ∧ ∀ H', Same H H' → Q (.int (dotI ns es)) H'

abbrev st_law_inner : Stmt := top 45
theorem sc_law_inner : FnScope ["_law_row", "_law_column", "_law_one", "_law_two"] ["_law_row", "_law_column"] (defScope st_law_inner) := ⟨rfl, rfl, rfl, by decide +kernel, rfl, by decide +kernel, by decide +kernel⟩
theorem ok_law_inner (B : Blt mg)  {f_law_inner : Addr} {fd_law_inner : FuncData} (D_law_inner : DefAt K mg "_law_inner" st_law_inner ["_law_row", "_law_column"] f_law_inner fd_law_inner) : FnOk P w K mg base CX0 1 f_law_inner fd_law_inner ["_law_row", "_law_column"] (spDot K) := by
  refine D_law_inner.F.ok sc_law_inner (fun vs H Q E h => ?_) (fun cdv A outer s H vs Q E hr h => ?_)
  · obtain ⟨r, k, kb, ns, es, rfl, _⟩ := h; rfl
  · have hu := hu_of hr
    refine ⟨_, (pss_one (ps_ret (pe_callB (cr_sum rfl) (by rfl) B.sum_ (by decide +kernel) (pa_cons (pe_lc (own := [("_law_one", 2), ("_law_two", 3)]) (g := gTup K 2 (gCons (gName 2) (gCons (gName 3) gNil))) (tt := tYes) rfl sc_law_inner.nd (pi_zipB (by rfl) B.zip_ (pa_cons (pv 0) (pa_cons (pv 1) pa_nil))) (blkOk_by (own := [("_law_one", 2), ("_law_two", 3)]) (N := ["_law_row", "_law_column", "_law_one", "_law_two"]) (sc := defScope st_law_inner) (by decide +kernel)) (fun _ _ _ _ _ => (pg_tup rfl (pgs_cons (pg_name (i := 2) sc_law_inner.nd rfl (Or.inl rfl)) (pgs_cons (pg_name (i := 3) sc_law_inner.nd rfl (Or.inl rfl)) pgs_nil)))) (fun _ _ _ _ _ => pts_nil) (fun _ _ _ _ _ => (pe_op op_mulW (pv 2) (pv 3)))) pa_nil)))), ?_⟩
    obtain ⟨r, k, kb, ns, es, rfl, hr, hk, hl, le, b1, b2, q⟩ := h
    refine ⟨_, rfl, _, rfl, r, k, kb, false, _, _, rfl, hr, SqT.of hk, fun D hD => ?_⟩
    refine lc_it (walk_zipB (K := K) (a := r) (b := k) (k := kb) (l := false) (xs := ns.map V.int) (ys := es.map V.int) (n := ns.length) (by rw [List.length_map, List.length_map]; omega)) (fun i H' => Same H H' ∧ H' D = some (.lst (((List.zipWith (· * ·) ns es).take i).map V.int))) ⟨AL.Same.new hD, upd_same⟩ (fun i H' _ hh => ⟨sqB_same hr hh.1, SqT.of (hh.1 _ _ hk)⟩) ?_ ?_
    · rintro i x0 H0 H1' hi ⟨s0, hd0⟩ ⟨T0, u1, u2, rfl, hT, rfl, e1, e2⟩
      obtain ⟨z1, c1, rfl⟩ := map_int e1
      obtain ⟨z2, c2, rfl⟩ := map_int e2
      have hDT : D ≠ T0 := fun z => by rw [z, hT] at hd0; cases hd0
      have sT : Same H (upd H0 T0 (.tup [.int z1, .int z2])) := s0.trans (AL.Same.new hT)
      refine ⟨T0, _, rfl, SqT.of upd_same, rfl, _, _, rfl, _, _, rfl, rfl, rfl, ?_⟩
      refine ⟨_, rfl, _, rfl, _, _, rfl, rfl, wide_mul (a := 60) (b := 60) (b1 _ (List.mem_of_getElem? c1)) (b2 _ (List.mem_of_getElem? c2)) (by decide) (by decide) (by decide), _, Eq.trans (upd_ne hDT) hd0, ?_, AL.Same.updn sT hD, ?_⟩
      · rw [List.length_map, List.length_take]
        exact Nat.lt_of_le_of_lt (by omega : _ ≤ 100) (by decide)
      · rw [upd_same, List.take_add_one, List.getElem?_zipWith, c1, c2]
        simp
    · rintro H3 ⟨s3, hd3⟩
      rw [List.take_of_length_le (by rw [List.length_zipWith]; omega)] at hd3
      exact ⟨D, _, rfl, SqL.of hd3, q H3 s3⟩
end
end AL
set_option Elab.async false
set_option maxRecDepth 100000
set_option exponentiation.threshold 70000
set_option maxHeartbeats 1000000
namespace AL
open PySem PySem.Spec PyProof.Rows L2 RZ
section
variable {P : Program} {w : World} {K : PySem.W.Frag} {mg : Str → Option Value} {base : Heap}

/-- all exponents up to a most -/
def stepB (most : Nat) (L : List Ex) : List Ex := L.flatMap fun r => (List.range (most + 1)).map fun o => r ++ [o]
def boxL (most : Nat) : Nat → List Ex
  | 0 => [[]]
  | n + 1 => stepB most (boxL most n)
theorem box_mem {most : Nat} : ∀ {n : Nat} {e : Ex}, e ∈ boxL most n ↔ e.length = n ∧ ∀ k ∈ e, k ≤ most := by
  intro n
  induction n with
  | zero =>
    intro e
    show e ∈ [[]] ↔ _
    rw [List.mem_singleton]
    exact ⟨fun h => by subst h; exact ⟨rfl, fun k hk => nomatch hk⟩, fun h => List.eq_nil_of_length_eq_zero h.1⟩
  | succ n ih =>
    intro e
    show e ∈ stepB most (boxL most n) ↔ _
    unfold stepB
    rw [List.mem_flatMap]
    constructor
    · rintro ⟨r, hr, he⟩
      obtain ⟨o, ho, rfl⟩ := List.mem_map.mp he
      obtain ⟨h1, h2⟩ := ih.mp hr
      refine ⟨by rw [List.length_append, h1]; rfl, fun k hk => ?_⟩
      rcases List.mem_append.mp hk with z | z
      · exact h2 k z
      · rw [List.mem_singleton.mp z]
        have := List.mem_range.mp ho
        omega
    · rintro ⟨h1, h2⟩
      have ne : e ≠ [] := fun z => by rw [z] at h1; cases h1
      refine ⟨e.dropLast, ih.mpr ⟨by rw [List.length_dropLast, h1]; rfl, fun k hk => h2 k (List.dropLast_subset _ hk)⟩, ?_⟩
      refine List.mem_map.mpr ⟨e.getLast ne, List.mem_range.mpr ?_, List.dropLast_concat_getLast ne⟩
      have := h2 _ (List.getLast_mem ne)
      omega
theorem stepB_len (most : Nat) (L : List Ex) : (stepB most L).length = L.length * (most + 1) := by
  unfold stepB
  induction L with
  | nil => simp
  | cons r t ih => rw [List.flatMap_cons, List.length_append, ih, List.length_map, List.length_range, List.length_cons, Nat.add_mul, Nat.one_mul, Nat.add_comm]
theorem boxL_len (most : Nat) : ∀ n, (boxL most n).length = (most + 1) ^ n
  | 0 => rfl
  | n + 1 => by show (stepB most _).length = _; rw [stepB_len, boxL_len most n, Nat.pow_succ]
/-- keys in a list -/
def KeysZ (H : Hp) (l : Addr) (L : List Ex) : Prop := ∃ as : List Addr, H l = some (.lst (as.map V.ref)) ∧ Paired (KeyAt H) as L
theorem KeysZ.same {H H' : Hp} {l : Addr} {L : List Ex} (h : KeysZ H l L) (s : Same H H') : KeysZ H' l L := by
  obtain ⟨as, h1, h2⟩ := h
  exact ⟨as, s _ _ h1, paired_mono h2 fun _ _ z => s _ _ z⟩
def spBox : Sp := fun vs H Q _ => ∃ (n most : Nat), vs = [.int (n : Int), .int (most : Int)] ∧ n ≤ 3 ∧ most ≤ 3 ∧ ∀ l H', Same H H' → KeysZ H' l (boxL most n) → Q (.ref l) H'

abbrev st_law_box : Stmt := top 53
theorem sc_law_box : FnScope ["_law_size", "_law_most", "_law_found", "_law_j", "_law_longer", "_law_row", "_law_one"] ["_law_size", "_law_most"] (defScope st_law_box) := ⟨rfl, rfl, rfl, by decide +kernel, rfl, by decide +kernel, by decide +kernel⟩
theorem ok_law_box (B : Blt mg)  {f_law_box : Addr} {fd_law_box : FuncData} (D_law_box : DefAt K mg "_law_box" st_law_box ["_law_size", "_law_most"] f_law_box fd_law_box) : FnOk P w K mg base CX0 1 f_law_box fd_law_box ["_law_size", "_law_most"] spBox := by
  refine D_law_box.F.ok sc_law_box (fun vs H Q E h => ?_) (fun cdv A outer s H vs Q E hr h => ?_)
  · obtain ⟨n, most, rfl, _⟩ := h; rfl
  · have hu := hu_of hr
    refine ⟨_, (pss_cons (ps_set (i := 2) sc_law_box.nd rfl (Or.inl rfl) (pe_lst (pa_cons (pe_tup pa_nil) pa_nil)))
    (pss_cons (ps_for PassesOwn.never rfl (pi_range1 rfl B.range_ (pa_cons (pv 0) pa_nil)) (pg_name (i := 3) sc_law_box.nd rfl (Or.inl rfl))
      (pss_cons (ps_set (i := 4) sc_law_box.nd rfl (Or.inl rfl) (pe_lst pa_nil))
    (pss_cons (ps_for PassesOwn.never rfl (pi_list (pv 2)) (pg_name (i := 5) sc_law_box.nd rfl (Or.inr rfl))
      (pss_one (ps_set (i := 4) sc_law_box.nd rfl (Or.inl rfl) (pe_op op_cat (pv 4) (pe_lc (own := [("_law_one", 6)]) (g := gName 6) (tt := tYes) rfl sc_law_box.nd (pi_range1 rfl B.range_ (pa_cons (pe_op op_add (pv 1) pe_int) pa_nil)) (blkOk_by (own := [("_law_one", 6)]) (N := ["_law_size", "_law_most", "_law_found", "_law_j", "_law_longer", "_law_row", "_law_one"]) (sc := defScope st_law_box) (by decide +kernel)) (fun _ _ _ _ _ => pg_name (i := 6) sc_law_box.nd rfl (Or.inl rfl)) (fun _ _ _ _ _ => pts_nil) (fun _ _ _ _ _ => (pe_op (op_catA : OpR _ _ (rCatA K)) (pv 5) (pe_tup (pa_cons (pv 6) pa_nil)))))))))
    (pss_one (ps_set (i := 2) sc_law_box.nd rfl (Or.inl rfl) (pv 4))))))
    (pss_one (ps_ret (pv 2))))), ?_⟩
    obtain ⟨n, most, rfl, hn, hm, q⟩ := h
    refine ⟨(by show 0 ≤ sizeLine; decide), fun t0 ht0 => ?_⟩
    have n1 := AL.Same.new (o := .tup []) ht0
    refine ⟨(by show 1 ≤ sizeLine; decide), fun l0 hl0 => ?_⟩
    have n2 := AL.Same.new (o := .lst [.ref t0]) hl0
    have g0 : KeysZ (upd (upd H t0 (.tup [])) l0 (.lst [.ref t0])) l0 [[]] := ⟨[t0], upd_same, .cons (n2 _ _ upd_same) .nil⟩
    have s0 := n1.trans n2
    generalize upd (upd H t0 (.tup [])) l0 (.lst [.ref t0]) = H0 at g0 s0 ⊢
    clear n1 n2 ht0 hl0
    refine ⟨_, rfl, _, rfl, by omega, by omega, for_range (lo := 0) (n := ((n : Int)).toNat) (fun i σ H' => ∃ (l : Addr) (v3 v4 v5 v6 : Option V), σ = [some (.int (n : Int)), some (.int (most : Int)), some (.ref l), v3, v4, v5, v6] ∧ Same H H' ∧ KeysZ H' l (boxL most i)) ⟨l0, none, none, none, none, rfl, s0, g0⟩ ?_ ?_⟩
    · rintro i σ H1 hi ⟨l, v3, v4, v5, v6, rfl, s1, gl⟩
      obtain ⟨as, gl1, gl2⟩ := gl
      have lL := prd_len gl2
      have lb := boxL_len most i
      have lb2 : (most + 1) ^ i ≤ 64 := by
        have i2 : i ≤ 2 := by omega
        calc (most + 1) ^ i ≤ 4 ^ i := Nat.pow_le_pow_left (by omega) _
          _ ≤ 4 ^ 2 := Nat.pow_le_pow_right (by decide) i2
          _ ≤ 64 := by decide
      refine ⟨(by show 0 ≤ sizeLine; decide), fun l4 hl4 => ?_⟩
      have n4 := AL.Same.new (o := .lst []) hl4
      have g4 : KeysZ (upd H1 l4 (.lst [])) l4 [] := ⟨[], upd_same, .nil⟩
      generalize upd H1 l4 (.lst []) = H2 at n4 g4 ⊢
      refine ⟨_, rfl, l, rfl, ⟨_, SqL.of (n4 _ _ gl1)⟩, for_list (K := K) (a := l) (xs := as.map V.ref) (fun k σ H' => ∃ (l5 : Addr) (v5 v6 : Option V), σ = [some (.int (n : Int)), some (.int (most : Int)), some (.ref l), some (.int (0 + (i : Int))), some (.ref l5), v5, v6] ∧ Same H2 H' ∧ KeysZ H' l5 (stepB most ((boxL most i).take k))) ⟨l4, _, _, rfl, (fun _ _ h => h), g4⟩ (fun k σ H' _ hh => by obtain ⟨_, _, _, _, z, _⟩ := hh; exact SqL.of (z _ _ (n4 _ _ gl1))) ?_ ?_⟩
      · rintro k x σ H3 hx ⟨l5, v5, v6, rfl, s3, g5⟩
        obtain ⟨a, ha, rfl⟩ := map_ref hx
        obtain ⟨e, he, ke⟩ := prd_get gl2 ha
        have s13 := n4.trans s3
        have ke3 : KeyAt H3 a e := s13 _ _ ke
        have ele := (box_mem.mp (List.mem_of_getElem? he)).1
        have kL : k < (boxL most i).length := (List.getElem?_eq_some_iff.mp he).1
        obtain ⟨as5, g51, g52⟩ := g5
        have l5e := prd_len g52
        have l5s : (stepB most ((boxL most i).take k)).length ≤ 256 := by
          rw [stepB_len, List.length_take]
          have := Nat.mul_le_mul (Nat.min_le_left k (boxL most i).length) (show most + 1 ≤ 4 by omega)
          omega
        refine ⟨_, rfl, _, rfl, _, _, rfl, rfl, _, rfl, by omega, by omega, fun D hD => ?_⟩
        refine lc_range (lo := 0) (n := ((most : Int) + 1).toNat) (fun j H' => Same H3 H' ∧ ∃ bs : List Addr, H' D = some (.lst (bs.map V.ref)) ∧ Paired (fun b e' => b ≠ D ∧ KeyAt H' b e') bs ((List.range j).map fun o => e ++ [o])) ⟨AL.Same.new hD, [], upd_same, .nil⟩ ?_ ?_
        · rintro j H4 hj ⟨s4, bs, hd4, pr4⟩
          have lb4 := prd_len pr4
          rw [List.length_map, List.length_range] at lb4
          refine ⟨rfl, ?_⟩
          refine ⟨_, rfl, _, rfl, (by show 1 ≤ sizeLine; decide), fun t ht => ?_⟩
          have nt := AL.Same.new (o := .tup [.int (0 + (j : Int))]) ht
          have gt : upd H4 t (.tup [.int (0 + (j : Int))]) t = some (.tup [.int (0 + (j : Int))]) := upd_same
          have tD : t ≠ D := fun z => by rw [z, hd4] at ht; cases ht
          have fin : ∀ (y : Addr) (HH : Hp), Same H4 HH → KeyAt HH y (e ++ [j]) → y ≠ D → ∃ acc, HH D = some (.lst acc) ∧ acc.length < sizeLine ∧ Same H3 (upd HH D (.lst (acc ++ [.ref y]))) ∧ ∃ bs : List Addr, upd HH D (.lst (acc ++ [.ref y])) D = some (.lst (bs.map V.ref)) ∧ Paired (fun b e' => b ≠ D ∧ KeyAt (upd HH D (.lst (acc ++ [.ref y]))) b e') bs ((List.range (j + 1)).map fun o => e ++ [o]) := fun y HH sH ky yD => by
            refine ⟨_, sH _ _ hd4, ?_, AL.Same.updn (s4.trans sH) hD, bs ++ [y], by rw [upd_same, List.map_append]; rfl, ?_⟩
            · rw [List.length_map, lb4]; exact Nat.lt_of_lt_of_le (by omega : j < 7) (by decide)
            · rw [List.range_succ, List.map_append]
              refine prd_snoc (paired_mono pr4 fun b e' z => ⟨z.1, ?_⟩) ⟨yD, ?_⟩
              · unfold KeyAt; rw [upd_ne z.1]; exact sH _ _ z.2
              · unfold KeyAt; rw [upd_ne yD]; exact ky
          have ke4 : KeyAt (upd H4 t (.tup [.int (0 + (j : Int))])) a e := nt _ _ (s4 _ _ ke3)
          refine ⟨a, t, _, _, rfl, rfl, SqT.of ke4, SqT.of gt, ?_, fun z => ?_, fun _ z => (by cases z), fun _ _ w hw => ?_⟩
          · rw [List.length_map, len_ki, ele]; exact Nat.le_trans (by show i + 1 ≤ 100; omega) (by decide)
          · refine fin t _ nt ?_ tD
            have e0 : e = [] := by
              unfold ki at z
              exact List.map_eq_nil_iff.mp (List.map_eq_nil_iff.mp z)
            unfold KeyAt
            rw [gt, e0, Int.zero_add]; rfl
          · have nw := AL.Same.new (o := .tup ((ki e).map V.int ++ [.int (0 + (j : Int))])) hw
            refine fin w _ (nt.trans nw) ?_ (fun z => by rw [z, nt _ _ hd4] at hw; cases hw)
            unfold KeyAt
            rw [upd_same, Int.zero_add]
            unfold ki
            rw [List.map_append, List.map_append]; rfl
        · rintro H4 ⟨s4, bs, hd4, pr4⟩
          have lb4 := prd_len pr4
          rw [List.length_map, List.length_range] at lb4
          refine ⟨l5, D, _, _, rfl, rfl, s4 _ _ g51, hd4, ?_, fun l6 hl6 => ?_⟩
          · rw [List.length_map, List.length_map]; exact Nat.le_trans (by omega : _ ≤ 1000) (by decide)
          have n6 := AL.Same.new (o := .lst (as5.map V.ref ++ bs.map V.ref)) hl6
          refine ⟨l6, _, _, rfl, (s3.trans s4).trans n6, as5 ++ bs, by rw [upd_same, List.map_append], ?_⟩
          have ex : stepB most ((boxL most i).take (k + 1)) = stepB most ((boxL most i).take k) ++ (List.range (most + 1)).map fun o => e ++ [o] := by
            unfold stepB
            rw [List.take_add_one, he, List.flatMap_append]
            show _ ++ List.flatMap _ [e] = _
            rw [List.flatMap_singleton]
          rw [ex]
          refine prd_app (paired_mono g52 fun b e' z => n6 _ _ (s4 _ _ z)) ?_
          rw [show ((most : Int) + 1).toNat = most + 1 by omega] at pr4
          exact paired_mono pr4 fun b e' z => n6 _ _ z.2
      · rintro σ H3 ⟨l5, v5, v6, rfl, s3, g5⟩
        rw [List.length_map, lL, List.take_length] at g5
        exact ⟨_, rfl, l5, _, _, _, _, rfl, (s1.trans n4).trans s3, g5⟩
    · rintro σ H1 ⟨l, v3, v4, v5, v6, rfl, s1, gl⟩
      rw [Int.toNat_natCast] at gl
      exact ⟨_, rfl, q l H1 s1 gl⟩
end
end AL
set_option Elab.async false
set_option linter.all false
set_option maxRecDepth 100000
set_option maxHeartbeats 2000000
/-! repr of any datum and of {}; list.clear. -/
namespace AL
open PySem PySem.Spec PyProof.Rows L2
def rReprX (K : PySem.W.Frag) : List V → Hp → VK → Prop := fun vs H Q => rReprV K vs H Q ∨ ∃ a, vs = [.ref a] ∧ H a = some (.dT []) ∧ Q (.str "{}") H
theorem call_reprX {X : Cx} (gd : X.A.guards = some []) (hu : X.A.units + 64 < cLine) : CallR X (.builtin "repr") (rReprX X.K) := by
  intro pins s σ H vs us Q I r h
  rcases h with h | ⟨a, rfl, ha, q⟩
  · exact call_reprV gd hu pins s σ H vs us Q I r h
  obtain ⟨u, rfl, ru⟩ := vals1 r
  obtain rfl : u = Value.ref a := ru
  obtain ⟨_, hsys, xs, rel, dof⟩ := dt_of I.hok ha
  cases rel
  obtain ⟨q0, es, ep, hq, hc, hdt, hpr, hrest⟩ := dof
  have he : es.toList = [] := hpr
  have rd : Reads s.heap (.ref a) (.dict []) [a] := by
    refine .dict (as := []) (bs := []) hq hc.1 hdt ?_ ?_
    · rw [he]; exact .nil
    · rw [he]; exact .nil
  have hs : sysModules ∉ [a] := fun z => by
    rw [List.mem_singleton] at z
    rw [z] at hsys
    simp at hsys
  exact repr_of_reads' rd (by decide +kernel) (fun _ => hs) gd (by show X.A.units + (1 + 1) < cLine; omega) (fun _ _ z => z) (fun h' u tk kk => ⟨.str "{}", H, I.kept (t' := tk) kk, ⟨u, rfl⟩, q⟩) (by decide +kernel)
/-- z * k, z a short text: which text it is -/
theorem op_mulX {X : Cx} : OpR X (binaryOp .Mult) (fun x y H Q => ∃ (z : Str) (k : Nat), x = .str z ∧ y = .int (k : Int) ∧ z.length ≤ 10 ∧ k ≤ 10000 ∧ Q (.str (Txt.mul z (k : Int))) H) := by
  intro pins s σ H x y v u Q I rx ry h
  obtain ⟨z, k, rfl, rfl, hz, hk, q⟩ := h
  obtain ⟨t, rfl⟩ := rx
  obtain ⟨t', rfl⟩ := ry
  have hfit : z.length * k ≤ 100000 := Nat.le_trans (Nat.mul_le_mul hz hk) (by decide)
  refine SB.mul ⟨?_, fun h1 _ => ?_, fun _ _ => ?_⟩ fun tk n => ⟨.str _, H, I.tok _, ⟨_, rfl⟩, q⟩
  · rw [Bool.or_eq_false_iff]
    exact ⟨decide_eq_false (by omega), decide_eq_false (by omega)⟩
  · have hk0 : 0 < (k : Int) := by omega
    have : ((2 : Int) ^ 63 - 1) / (k : Int) ≥ 10 := by
      rw [ge_iff_le, Int.le_ediv_iff_mul_le hk0]
      have : (10 : Int) * k ≤ 100000 := by omega
      exact Int.le_trans this (by decide)
    omega
  · unfold Builtin.Str.tooLong
    rw [Int.toNat_natCast]
    refine decide_eq_false (Nat.not_lt.mpr (Nat.le_trans hfit (by decide)))
def rClear : V → List V → Hp → VK → Prop := fun x vs H Q => ∃ l xs, x = .ref l ∧ vs = [] ∧ H l = some (.lst xs) ∧ Q .non (upd H l (.lst []))
theorem mt_clear {X : Cx} : MtM X "list.clear" rClear := by
  intro pins s σ H x vs v us Q I rx rv h
  obtain ⟨l, xs, rfl, rfl, hH, q⟩ := h
  cases rx
  have hus := rv.zero
  subst hus
  obtain ⟨z, its, n, r, hl, e⟩ := I.lstM hH
  refine call_meets F.slot_list_clear ⟨_, e, rfl⟩ F.entry_list_clear (F.args_list_clear_1 _) (AutoSeq1.list_clear_list_0 l its.toArray n (by rw [List.size_toArray]; omega)) ⟨e, ?_⟩
  exact ⟨.non, _, I.lset (its' := []) hH e (by simp) .nil (by simp), rfl, q⟩
end AL
set_option Elab.async false
set_option maxRecDepth 100000
set_option exponentiation.threshold 70000
set_option maxHeartbeats 1000000
namespace AL
open PySem PySem.Spec PyProof.Rows L2 RZ LamX
section
variable {P : Program} {w : World} {K : PySem.W.Frag} {mg : Str → Option Value} {base : Heap}

abbrev st_law_error : Stmt := top 56
theorem sc_law_error : FnScope ["_law_call", "error"] ["_law_call"] (defScope st_law_error) := ⟨rfl, rfl, rfl, by decide +kernel, rfl, by decide +kernel, by decide +kernel⟩
def tryBody : Stmt → List Stmt
  | .Try b _ _ _ _ => b
  | _ => []
/-- data that repr can show -/
structure Shw (d : PyData) : Prop where
  a : d.showable = true
  b : d.hasDict = false
  c : d.depth ≤ 60
  e : d.shown.length ≤ sizeLine
/-- what is wanted of an error that is caught: its tuple -/
def EchW (K : PySem.W.Frag) (BZ : Addr) (Q : VK) : XK := fun cls d H =>
  cls = .ref BZ ∧ ∃ dd, d = some dd ∧ H dd = some errZ ∧ ∀ t, H t = none → Q (.ref t) (upd H t (.lst [.str "zero", .int 0]))
/-- _law_error(lambda: ..): tl reads the lambda's body -/
def TWhy (K : PySem.W.Frag) (BZ : Addr) : (XK → Hp → VK → Prop) → Hp → VK → Prop := fun tl H Q =>
  tl (EchW K BZ Q) H fun _ H2 => (([] : List V).length ≤ sizeLine ∧ ∀ t, H2 t = none → Q (.ref t) (upd H2 t (.lst [])))
theorem call_reprS {X : Cx} {a : Addr} {oe : Obj} {pn : List (Addr × Obj)} (gd : X.A.guards = some []) (hu : X.A.units + 64 < cLine) : CallR (X.suite a ((a, oe) :: pn)) (.builtin "repr") (rReprX X.K) := call_reprX gd hu
theorem gives_why {X : Cx} {CPoly CQuotient BZ BN BM UL fZ fN : Addr} {fdZ fdN : FuncData} (Es : ErP X.K X.mg CPoly CQuotient BZ BN BM UL fZ fN fdZ fdN) (B : Blt X.mg) (gd : X.A.guards = some []) {k : Nat} (hr : Room (k + 2) X.A) {g : Addr} {cdg : Value} {q : Str} :
    GivesTo X ["_law_call", "error"] "_law_error" (defScope st_law_error) g cdg (defBody st_law_error) "_law_call" q (TWhy X.K BZ) := by
  intro f c1 s H Q tl act hc h
  have hu2 := (Room.units (Room.deeper hr (envOfC "_law_error" (defScope st_law_error) s.heap.objs.size g cdg)))
  have gd3 : ((cxOf C8.CX0 X.prog X.w X.K X.mg X.base ["_law_call", "error"] "_law_error" (defScope st_law_error) g cdg X.A X.stack s H C8.E0).nox).A.guards = some [] := gd
  have hu3 : ((cxOf C8.CX0 X.prog X.w X.K X.mg X.base ["_law_call", "error"] "_law_error" (defScope st_law_error) g cdg X.A X.stack s H C8.E0).nox).A.units + 64 < cLine := hu2
  have inner : ∀ (W : WX) (pn : List (Addr × Obj)) (xe : Value → Shared → Prop), Takes (((cxOf C8.CX0 X.prog X.w X.K X.mg X.base ["_law_call", "error"] "_law_error" (defScope st_law_error) g cdg X.A X.stack s H C8.E0).nox).tr pn xe) W → PSs (((cxOf C8.CX0 X.prog X.w X.K X.mg X.base ["_law_call", "error"] "_law_error" (defScope st_law_error) g cdg X.A X.stack s H C8.E0).nox).tr pn xe) (tryBody ((defBody st_law_error).getD 0 (.Pass ⟨0, 0, 0, 0⟩))) (fun D σ H => ∃ Ech : XK, (∀ cls d σ2 H2, Ech cls d H2 → W cls d σ2 H2) ∧ σ[0]? = some (some (.ref f)) ∧ H c1 = some (CodeO c1 q) ∧ tl Ech H fun _ H2 => D.nx σ H2) := by
    intro W pn xe tk
    refine ⟨fun pins s2 σ H2 D I z => ?_⟩
    obtain ⟨Ech, hW, z1, z2, z3⟩ := z
    exact (pss_one (ps_expr (act W pn xe Ech _ _ tk hW))).run pins s2 σ H2 D I ⟨z1, z2, z3⟩
  refine ⟨_, (pss_cons (ps_tryL rfl rfl sc_law_error.nd L2.takes0 (tb := fun W D σ H => ∃ Ech : XK, (∀ cls d σ2 H2, Ech cls d H2 → W cls d σ2 H2) ∧ σ[0]? = some (some (V.ref f)) ∧ H c1 = some (CodeO c1 q) ∧ tl Ech H fun _ H2 => D.nx σ H2) (fun W pn xe tk _ => inner W pn xe tk) (Named.cons (i := 1) ⟨rfl, by decide, .inl Es.eM.m⟩ rfl rfl (fun a oe cls dd pn hz hf => (pss_one (ps_ret (pe_lst (pa_cons pe_str (pa_cons (pe_xf Es.eM.xf (Es.eM.no _ (by decide +kernel)) hz hf (pv 1)) pa_nil)))))) (Named.cons (i := 1) ⟨rfl, by decide, .inl Es.eN.m⟩ rfl rfl (fun a oe cls dd pn hz hf => (pss_one (ps_ret (pe_lst (pa_cons pe_str (pa_cons (pe_xf Es.eN.xf (Es.eN.no _ (by decide +kernel)) hz hf (pv 1)) (pa_cons (pe_xf Es.eN.xf (Es.eN.no _ (by decide +kernel)) hz hf (pv 1)) pa_nil))))))) (Named.cons (i := 1) ⟨rfl, by decide, .inl Es.eZ.m⟩ rfl rfl (fun a oe cls dd pn hz hf => (pss_one (ps_ret (pe_lst (pa_cons pe_str (pa_cons (pe_xf Es.eZ.xf (Es.eZ.no _ (by decide +kernel)) hz hf (pv 1)) pa_nil)))))) .nil))))
    (pss_one (ps_ret (pe_lst pa_nil)))), ?_⟩
  refine ⟨EchW X.K BZ Q, fun cls d σ2 H2 he hlen => ?_, rfl, hc, ?_⟩
  · match σ2, hlen with
    | [x0, y0], _ =>
    obtain ⟨rfl, dd, rfl, hd, k1⟩ := he
    refine ⟨false, Es.xZM, fun z => (by cases z), fun _ => ⟨false, Es.xZN, fun z => (by cases z), fun _ => ⟨true, Es.xZZ, fun _ a ha => ?_, fun z => (by cases z)⟩⟩⟩
    exact ⟨_, rfl, rfl, rfl, dd, _, .int 0, rfl, hd, (by kernel_rfl), (by show 2 ≤ sizeLine; decide), fun t ht => k1 t ht⟩
  · exact h


/-- a def that is called with a lambda, as it stands behind the top -/
structure LamFn (K : PySem.W.Frag) (mg : Str → Option Value) (x : Str) (st : Stmt) (a : Str) (g : Addr) (cd : Value) : Prop where
  ex : ∃ (oc : Value) (od : Option Addr) (kV doc pm : Value) (an : Option Addr) (ct : Value) (sl : Array (Option Value)), K.lookup g = some ⟨oc, od, .func (PySem.W.fnOf x x (defArgs st) (defBody st) (defScope st) .none kV doc pm an cd ct), sl⟩ ∧ L2.Binds K (PySem.W.fnOf x x (defArgs st) (defBody st) (defScope st) .none kV doc pm an cd ct) [a] []
  c : PySem.W.codeIn K cd x = true
  kp : PySem.W.keepIn K (.ref g) = true
  m : mg x = some (.ref g)
/-- a def that makes lambdas: its code object at c -/
structure DefC (K : PySem.W.Frag) (mg : Str → Option Value) (x : Str) (st : Stmt) (ps : List Str) (f c : Addr) (fd : FuncData) : Prop where
  ex : ∃ (oc : Value) (od : Option Addr) (kV doc pm : Value) (an : Option Addr) (ct : Value) (sl : Array (Option Value)), fd = PySem.W.fnOf x x (defArgs st) (defBody st) (defScope st) .none kV doc pm an (.ref c) ct ∧ K.lookup f = some ⟨oc, od, .func fd, sl⟩ ∧ PySem.W.codeIn K (.ref c) x = true
  kp : PySem.W.keepIn K (.ref f) = true
  m : mg x = some (.ref f)
  b : Binds K fd ps []

theorem okGC {P : Program} {w : World} {K : PySem.W.Frag} {mg : Str → Option Value} {base : Heap} {x : Str} {st : Stmt} {f c : Addr} {fd : FuncData} {N ps qs : List Str} {k : Nat} {sp : Sp}
    (F : DefC K mg x st qs f c fd) (S : FnScope N ps (defScope st)) (len : ∀ xs H Q E, sp xs H Q E → xs.length = ps.length)
    (body : ∀ (A : Around) (ol : List Env) (s : Shared) (H : Hp) (xs : List V) (Q : VK) (E : XK), A.guards = some [] → Room k (A.deeper (envOfC x (defScope st) s.heap.objs.size f (.ref c))) →
      sp xs H Q E → ∃ t, PSs (cxOf CX0 P w K mg base N x (defScope st) f (.ref c) A ol s H E).nox (defBody st) t ∧ t { nx := fun _ H' => Q .non H', rt := Q } (L2.start N xs) H) :
    FnG P w K mg base CX0 (k + 1) f fd ps sp := by
  obtain ⟨oc, od, kV, doc, pm, an, ct, sl, efd, look, code⟩ := F.ex
  subst efd
  constructor
  · exact len
  · intro A ol s H ar us xs Q E gd room e0 bd vals wish
    have here : K.In s.heap := e0.mod.kin.keeps fun b o z => (e0.bs b o z).1
    have free : s.heap.NoLimit := e0.mod.nolimit.keeps fun b o z => (e0.bs b o z).1
    have kinds : ∀ y ∈ ps.zip us, (defScope st).names.lookup y.1 = some .local ∨ ((defScope st).names.lookup y.1 = some .cell ∧ ((cellsFrom (s.heap.objs.size + 1) (defScope st).names []).lookup y.1).isSome = true) := by
      rintro ⟨n, v⟩ hy
      cases S.par n (List.of_mem_zip hy).1 with
      | inl q => exact .inl q
      | inr q => exact .inr ⟨q, PySem.W.cellsFrom_some _ _ _ (.inl q)⟩
    refine codeAny_call_function room.depth (here _ _ look) rfl S.co S.gen rfl (PySem.W.codeRec_of here code) (bd _ _ _ _ (wpAny_newFunctionEnv_cells S.kind kinds fun env hv s1 ic => ?_))
    subst hv
    refine ⟨free.keeps ic.toInCall.keep, codeAny_func ?_⟩
    obtain ⟨t, run, rd⟩ := body A ol s H xs Q E gd (room.deeper _) wish
    have I0 := inv_start (CX := CX0) (P := P) (w := w) (cd := .ref c) (E := E) S room.hd e0 (len _ _ _ _ wish) vals ic
    refine wpAny_mono (run.nox.run [] s1 _ H _ I0 rd) (fun fl s2 z => ?_) fun _ _ z => z
    cases fl with
    | brk => obtain ⟨_, _, _, no⟩ := z; exact no.elim
    | cont => obtain ⟨_, _, _, no⟩ := z; exact no.elim
    | next =>
      obtain ⟨σ2, H2, J, q⟩ := z
      exact ⟨V.non, H2, J.os, J.bare, J.base, J.hok, rfl, q⟩
    | ret u =>
      obtain ⟨v, σ2, H2, J, rv, q⟩ := z
      exact ⟨v, H2, J.os, J.bare, J.base, J.hok, rv, q⟩


/-- _law_error(lambda: body) -/
theorem pe_lamW {T : List (Addr × Str)} {ge c Pt : Addr} {X : Cx} {CPoly CQuotient BZ BN BM UL fZ fN : Addr} {fdZ fdN : FuncData} (Es : ErP X.K X.mg CPoly CQuotient BZ BN BM UL fZ fN fdZ fdN) (B : Blt X.mg) (gd : X.A.guards = some []) {cde : Value} (De : LamFn X.K X.mg "_law_error" st_law_error "_law_call" ge cde)
    {k : Nat} {params : Arguments} {body : Expr} {scope : Scope} {t : XK → TE} {p lpos pos : Pos} (hg : Gl X "_law_error") (TB : TabB X.base X.mg c Pt) (hcode : X.env.code = .ref c) (hm : (Pt, X.env.qual ++ "<lambda>") ∈ T ∧ ∀ p ∈ T, p.1 = Pt → p.2 = X.env.qual ++ "<lambda>") (hr : Room (k + 2) X.A) (L : LamS X.env.scope scope) (hdef : defaultsOf params X.env = ([], []))
    (hbind : ∀ (q : Str) (cl : List (Str × Addr)) (pm cv ctv : Value), bindArgs (PySem.W.kla_fn "<lambda>" q params body scope cl pm cv ctv) ⟨[], []⟩ = pure [])
    (hbody : ∀ (A : Around) (outer : List Env) (s : Shared) (H : Hp) (E : XK) (f c' : Addr), Room k (A.deeper (lamEnv X scope s.heap.objs.size f c')) → PE (lamCx X A outer s H E scope f c') body (t E)) :
    PE X (.Call (.Name "_law_error" p) [.Lambda params body scope lpos] [] pos) (tLam T (TWhy X.K BZ) t) := by
  obtain ⟨oc, od, kV, doc, pm, an, ct, sl, lk, hb⟩ := De.ex
  exact pe_lamcall hg De.m De.kp lk De.c hb sc_law_error rfl (.inl rfl) (gives_why Es B gd hr) TB hcode hm.1 hm.2 hr L hdef hbind hbody

end
end AL
set_option Elab.async false
set_option maxRecDepth 100000
set_option exponentiation.threshold 70000
set_option maxHeartbeats 1000000
namespace AL
open PySem PySem.Spec PyProof.Rows L2 RZ
section
variable {P : Program} {w : World} {K : PySem.W.Frag} {mg : Str → Option Value} {base : Heap}

/-- what is drawn, as a polynomial of whole numbers -/
structure ZB (n E C : Nat) (z : ZM) : Prop where
  nd : (z.map (·.1)).Nodup
  len : z.length < 64
  key : ∀ q ∈ z, q.1.length = n ∧ ∀ k ∈ q.1, k ≤ E
  sz : ∀ q ∈ z, q.2.natAbs ≤ C
theorem dz_rd {H : Hp} {a k : Addr} {m : ZM} {e : Ex} (D : Rd H a (.dT (m.map entZ))) (hk : KeyAt H k e) : DGet H a (.ref k) ((getZ m e).map V.int) := by
  rw [← valV_Z]
  exact .inr ⟨_, _, k, D, rfl, keyAt_L hk, rfl⟩
theorem getZ_of {m : ZM} (nd : (m.map (·.1)).Nodup) {p : Ex × Int} (h : p ∈ m) : getZ m p.1 = some p.2 := by
  induction m with
  | nil => cases h
  | cons q r ih =>
    rw [List.map_cons, List.nodup_cons] at nd
    unfold getZ
    rw [List.find?_cons]
    rcases List.mem_cons.mp h with e | e
    · subst e; rw [decide_eq_true rfl]; rfl
    · have ne : ¬ q.1 = p.1 := fun w => nd.1 (by rw [w]; exact List.mem_map.mpr ⟨p, e, rfl⟩)
      rw [decide_eq_false ne]
      exact ih nd.2 e
theorem key_of_L7 {H : Hp} {q : Addr} {e : Ex} (h : H q = some (.tup ((keyL e).map kV))) : KeyAt H q e := by
  unfold KeyAt
  rw [← kV_ints]
  exact h
theorem ZB.pb {n E C : Nat} {z : ZM} (h : ZB n E C z) : PB n E 1 C (toQ z) := fun r hr => by
  unfold toQ at hr
  obtain ⟨p, hp, rfl⟩ := List.mem_map.mp hr
  obtain ⟨k1, k2⟩ := h.key p hp
  refine ⟨k1, k2, by decide, p.2, by rw [Nat.mul_one]; exact h.sz p hp, ?_⟩
  rw [Rat.mkRat_eq_div]
  show ((p.2 : Int) : Rat) = _ / ((1 : Nat) : Rat)
  grind
theorem ints_tv {K : PySem.W.Frag} {H : Hp} {C : Nat} (hC : C < 2 ^ 6000) : ∀ {ts : List Addr} {z : ZM}, Paired (IntAt H) ts z → (∀ q ∈ z, q.2.natAbs ≤ C) → Paired (TermV K H) ts (toQ z)
  | _, _, .nil, _ => .nil
  | _, _, .cons (b := p) h r, b => by
    obtain ⟨k, g1, g2⟩ := h
    refine .cons ⟨k, _, _, 1, g1, g2, .int _, ⟨by decide, Nat.lt_of_le_of_lt (b p (List.mem_cons_self ..)) hC, by decide +kernel⟩, ?_⟩ (ints_tv hC r fun q hq => b q (List.mem_cons_of_mem _ hq))
    rw [Rat.mkRat_eq_div]
    show _ / ((1 : Nat) : Rat) = ((p.2 : Int) : Rat)
    grind
theorem make_q7 {K : PySem.W.Frag} {CP CQ BZ : Addr} {H : Hp} {Q : VK} {E : XK} {n Em D B : Nat} {x y : Addr} {a b : PM} (X : PolyAt CP H x n a) (Y : PolyAt CP H y n b) (ca : Can n Em D B a) (cb : Can n Em D B b) (hn : n ≤ 80) (hE : Em ≤ 80) (fa : a.length < 64) (fb : b.length < 64) (hD : D < 2 ^ 1400) (hBD : B * D < 2 ^ 5900) (big : B * D * D < 2 ^ 5990) (bne : b ≠ [])
    (kq : ∀ z H' t u, Same H H' → QuoAt CP CQ H' z n t u → Can n Em 1 (B * D * D * 64 + 1) t → Can n Em 1 (B * D * D * 64 + 1) u → t.length ≤ a.length → u.length ≤ b.length + 1 → FormOf n a b t u → Q (.ref z) H') : ∀ z dz, H z = none → H dz = none → dz ≠ z → spQIni K CP CQ BZ [.ref z, .ref x, .ref y] (upd (upd H dz (.own z)) z (.ins CQ dz [])) (fun v H2 => v = .non ∧ Q (.ref z) H2) E := by
  intro z dz h1 h2 h3
  have s0 := made_sm (o := .ins CQ dz []) h1 h2
  refine ⟨z, dz, x, y, n, Em, D, B, a, b, rfl, upd_same, X.same s0, Y.same s0, ca, cb, hn, hE, fa, fb, hD, hBD, big, .inr ⟨bne, fun H' x' y' t u kp hq XX YY ct cu lt lu FO => ⟨rfl, ?_⟩⟩⟩
  exact kq z H' t u (fun b o w => kp b o (ne_of_none w h1) (s0 b o w)) ⟨dz, x', y', hq, XX, YY⟩ ⟨ct.asc, ct.nz, ct.pb.mono (by omega) (Nat.le_refl _)⟩ cu lt lu FO
theorem make_q8 {K : PySem.W.Frag} {CP CQ BZ : Addr} {H : Hp} {R : Addr → Hp → Prop} {E : XK} {n Em D B : Nat} {x y : Addr} {a b : PM} (X : PolyAt CP H x n a) (Y : PolyAt CP H y n b) (ca : Can n Em D B a) (cb : Can n Em D B b) (hn : n ≤ 80) (hE : Em ≤ 80) (fa : a.length < 64) (fb : b.length < 64) (hD : D < 2 ^ 1400) (hBD : B * D < 2 ^ 5900) (big : B * D * D < 2 ^ 5990) (bne : b ≠ [])
    (kq : ∀ z H' t u, Same H H' → QuoAt CP CQ H' z n t u → Can n Em 1 (B * D * D * 64 + 1) t → Can n Em 1 (B * D * D * 64 + 1) u → t.length ≤ a.length → u.length ≤ b.length + 1 → FormOf n a b t u → R z H') : ∀ z dz, H z = none → H dz = none → dz ≠ z → spQIni K CP CQ BZ [.ref z, .ref x, .ref y] (upd (upd H dz (.own z)) z (.ins CQ dz [])) (fun v H2 => v = .non ∧ R z H2) E := make_q7 (Q := fun v H => match v with | .ref y => R y H | _ => False) X Y ca cb hn hE fa fb hD hBD big bne kq
theorem make_p7 {K : PySem.W.Frag} {CP : Addr} {H : Hp} {R : Addr → Hp → Prop} {E : XK} {n Em D B0 : Nat} {T : Addr} {k : Bool} {ts : List Addr} {l : PM} (hT : SqB K H T (ts.map V.ref) k) (ht : Paired (TermV K H) ts l) (pb : PB n Em D B0 l) (hn : n ≤ 80) (hE : Em ≤ 80) (few : l.length < 64) (z : Szs D B0 l.length)
    (kq : ∀ y H' m, Same H H' → PolyAt CP H' y n m → Can n Em D (B0 * l.length) m → m.length ≤ l.length → Eqp m l → R y H') : ∀ x dx, H x = none → H dx = none → dx ≠ x → spIniP K CP [.ref x, .int (n : Int), .ref T] (upd (upd H dx (.own x)) x (.ins CP dx [])) (fun v H2 => v = .non ∧ R x H2) E := make_p (Q := fun v H => match v with | .ref y => R y H | _ => False) hT ht pb hn hE few z kq
def RelP (CP : Addr) (H H' : Hp) (y : Addr) (n E C : Nat) (z : ZM) : Prop := ∃ m, Same H H' ∧ PolyAt CP H' y n m ∧ Can n E 1 (C * (toQ z).length) m ∧ m.length ≤ (toQ z).length ∧ Eqp m (toQ z)
theorem ini_mono {K : PySem.W.Frag} {CP x : Addr} {vs : List V} {H : Hp} {E : XK} {R : Addr → Hp → Prop} {Q2 : Hp → Prop} (h : spIniP K CP vs H (fun v H2 => v = .non ∧ R x H2) E) (k : ∀ H2, R x H2 → Q2 H2) : spIniP K CP vs H (fun v H2 => v = .non ∧ Q2 H2) E := by
  obtain ⟨x1, dx, T, kb, ts, n, E1, D, B, l, h1, h2, h3, h4, h5, h6, h7, h8, h9, ha, hb, hc⟩ := h
  exact ⟨x1, dx, T, kb, ts, n, E1, D, B, l, h1, h2, h3, h4, h5, h6, h7, h8, h9, ha, hb, fun T' ts' m H' a1 a2 a3 a4 a5 a6 a7 => ⟨(hc T' ts' m H' a1 a2 a3 a4 a5 a6 a7).1, k _ (hc T' ts' m H' a1 a2 a3 a4 a5 a6 a7).2⟩⟩
/-- _law_made(f, size) -/
def spMd (CP CQ : Addr) : Sp := fun vs H Q _ => ∃ (f d1 d2 : Addr) (n E C : Nat) (z1 z2 : ZM), vs = [.ref f, .int (n : Int)] ∧ H f = some (.tup [.ref d1, .ref d2]) ∧ DicZ H d1 z1 ∧ DicZ H d2 z2 ∧ ZB n E C z1 ∧ ZB n E C z2 ∧ n ≤ 80 ∧ E ≤ 80 ∧ C ≤ 10 ^ 20 ∧ (¬ Eqp [] (toQ z2)) ∧
  ∀ w H' t u a b, Same H H' → QuoAt CP CQ H' w n t u → Can n E 1 (C * 64 * 64 + 1) t → Can n E 1 (C * 64 * 64 + 1) u → t.length ≤ z1.length → u.length ≤ z2.length + 1 → Can n E 1 (C * 64) a → Can n E 1 (C * 64) b → Eqp a (toQ z1) → Eqp b (toQ z2) → b ≠ [] → FormOf n a b t u → Q (.ref w) H'

abbrev st_law_made : Stmt := top 48
theorem sc_law_made : FnScope ["_law_f", "_law_size", "_law_key"] ["_law_f", "_law_size"] (defScope st_law_made) := ⟨rfl, rfl, rfl, by decide +kernel, rfl, by decide +kernel, by decide +kernel⟩
theorem ok_law_made (B : Blt mg) {CPoly CQuotient BZ BN BM UL fZ fN : Addr} {fdZ fdN : FuncData} (Es : ErP K mg CPoly CQuotient BZ BN BM UL fZ fN fdZ fdN) {flowest : Addr} {fdlowest : FuncData} (Dlowest : DefAt K mg "lowest" stlowest ["top", "bottom"] flowest fdlowest) {fas_ratio : Addr} {fdas_ratio : FuncData} (Das_ratio : DefAt K mg "as_ratio" stas_ratio ["value"] fas_ratio fdas_ratio) {fis_whole : Addr} {fdis_whole : FuncData} (Dis_whole : DefAt K mg "is_whole" stis_whole ["value"] fis_whole fdis_whole) {fare_integers : Addr} {fdare_integers : FuncData} (Dare_integers : DefAt K mg "are_integers" stare_integers ["items"] fare_integers fdare_integers) {fis_ratio : Addr} {fdis_ratio : FuncData} (Dis_ratio : DefAt K mg "is_ratio" stis_ratio ["value"] fis_ratio fdis_ratio) {fis_term : Addr} {fdis_term : FuncData} (Dis_term : DefAt K mg "is_term" stis_term ["term", "size"] fis_term fdis_term) {fratio_sum : Addr} {fdratio_sum : FuncData} (Dratio_sum : DefAt K mg "ratio_sum" stratio_sum ["one", "other"] fratio_sum fdratio_sum) {fP_init : Addr} {fdP_init : FuncData} (DP_init : IniA K "__init__" "Poly.__init__" stP_init ["self", "size", "terms"] CPoly fP_init fdP_init) {flowered : Addr} {fdlowered : FuncData} (Dlowered : DefAt K mg "lowered" stlowered ["terms", "least"] flowered fdlowered) {fbrought : Addr} {fdbrought : FuncData} (Dbrought : DefAt K mg "brought" stbrought ["poly", "scale", "least"] fbrought fdbrought) {fcommon_bottom : Addr} {fdcommon_bottom : FuncData} (Dcommon_bottom : DefAt K mg "common_bottom" stcommon_bottom ["ratios"] fcommon_bottom fdcommon_bottom) {fform_scale : Addr} {fdform_scale : FuncData} (Dform_scale : DefAt K mg "form_scale" stform_scale ["terms", "first"] fform_scale fdform_scale) {fleast_exponents : Addr} {fdleast_exponents : FuncData} (Dleast_exponents : DefAt K mg "least_exponents" stleast_exponents ["terms"] fleast_exponents fdleast_exponents) {fnumber_poly : Addr} {fdnumber_poly : FuncData} (Dnumber_poly : DefAt K mg "number_poly" stnumber_poly ["size", "ratio"] fnumber_poly fdnumber_poly) {fQ_init : Addr} {fdQ_init : FuncData} (DQ_init : IniA K "__init__" "Quotient.__init__" stQ_init ["self", "top", "bottom"] CQuotient fQ_init fdQ_init) {f_law_made : Addr} {fd_law_made : FuncData} (D_law_made : DefAt K mg "_law_made" st_law_made ["_law_f", "_law_size"] f_law_made fd_law_made) : FnOk P w K mg base CX0 14 f_law_made fd_law_made ["_law_f", "_law_size"] (spMd CPoly CQuotient) := by
  have OKP_init : FnOk P w K mg base CX0 5 fP_init fdP_init ["self", "size", "terms"] (spIniP K CPoly) := okP_init B Es Dlowest Das_ratio Dis_whole Dare_integers Dis_ratio Dis_term Dratio_sum DP_init
  have OKQ_init : FnOk P w K mg base (L2.CX P w) 11 fQ_init fdQ_init ["self", "top", "bottom"] (spQIni K CPoly CQuotient BZ) := okQ_init B Es Dlowest Das_ratio Dis_whole Dare_integers Dis_ratio Dis_term Dratio_sum DP_init Dlowered Dbrought Dcommon_bottom Dform_scale Dleast_exponents Dnumber_poly DQ_init
  refine D_law_made.F.ok sc_law_made (fun vs H Q E h => ?_) (fun cdv A outer s H vs Q E hr h => ?_)
  · obtain ⟨f, d1, d2, n, E0, C, z1, z2, rfl, _⟩ := h; rfl
  · have hu := hu_of hr
    refine ⟨_, (pss_one (ps_ret (pe_make DQ_init.M OKQ_init (hr.mono (by decide)) rfl Es.mQ DQ_init.b .nil passL (pa_cons (pe_make DP_init.M OKP_init (hr.mono (by decide)) rfl Es.mP DP_init.b .nil pass0 (pa_cons (pv 1) (pa_cons (pe_lock (pe_lc (own := [("_law_key", 2)]) (g := gName 2) (tt := tYes) rfl sc_law_made.nd (pi_keys (pe_ix ix_tup (pv 0) pe_int (fun _ _ => rfl))) (blkOk_by (own := [("_law_key", 2)]) (N := ["_law_f", "_law_size", "_law_key"]) (sc := defScope st_law_made) (by decide +kernel)) (fun _ _ _ _ _ => pg_name (i := 2) sc_law_made.nd rfl (Or.inl rfl)) (fun _ _ _ _ _ => pts_nil) (fun _ _ _ _ _ => (pe_tup (pa_cons (pv 2) (pa_cons (pe_dget hu (pe_ix (ix_tup : IxR _ (rIxT K)) (pv 0) pe_int (fun _ _ => rfl)) (pv 2) (fun _ _ => rfl)) pa_nil)))))) pa_nil))) (pa_cons (pe_make DP_init.M OKP_init (hr.mono (by decide)) rfl Es.mP DP_init.b .nil pass0 (pa_cons (pv 1) (pa_cons (pe_lock (pe_lc (own := [("_law_key", 2)]) (g := gName 2) (tt := tYes) rfl sc_law_made.nd (pi_keys (pe_ix ix_tup (pv 0) pe_int (fun _ _ => rfl))) (blkOk_by (own := [("_law_key", 2)]) (N := ["_law_f", "_law_size", "_law_key"]) (sc := defScope st_law_made) (by decide +kernel)) (fun _ _ _ _ _ => pg_name (i := 2) sc_law_made.nd rfl (Or.inl rfl)) (fun _ _ _ _ _ => pts_nil) (fun _ _ _ _ _ => (pe_tup (pa_cons (pv 2) (pa_cons (pe_dget hu (pe_ix (ix_tup : IxR _ (rIxT K)) (pv 0) pe_int (fun _ _ => rfl)) (pv 2) (fun _ _ => rfl)) pa_nil)))))) pa_nil))) pa_nil))))), ?_⟩
    obtain ⟨f, d1, d2, n, E0, C, z1, z2, rfl, hf, h1, h2, b1, b2, hn, hE, hC, nz, q⟩ := h
    have c64 : C * 64 ≤ 10 ^ 22 := Nat.le_trans (Nat.mul_le_mul_right _ hC) (by decide)
    have zz : ∀ k, k ≤ 64 → Szs 1 C k := fun k hk => by
      have e1 : C * k ≤ 10 ^ 22 := Nat.le_trans (Nat.mul_le_mul_left _ hk) c64
      have e2 : (10 : Nat) ^ 22 < 2 ^ 5999 := by decide +kernel
      exact ⟨by rw [Nat.mul_one]; omega, by rw [Nat.mul_one]; omega, by decide +kernel⟩
    have c60 : C < 2 ^ 6000 := Nat.lt_of_le_of_lt hC (by decide +kernel)
    have l1 := b1.len
    have l2 := b2.len
    have up : ∀ {m : PM} {k : Nat}, k ≤ 64 → Can n E0 1 (C * k) m → Can n E0 1 (C * 64) m := fun hk c => ⟨c.asc, c.nz, c.pb.mono (Nat.mul_le_mul_left _ hk) (Nat.le_refl _)⟩
    refine ⟨_, rfl, d1, _, h1, trivial, fun od => ?_⟩
    have tu := upd_tups (o := .frz od (.dT (z1.map entZ))) h1 (fun _ z => nomatch z)
    have fz : upd H d1 (.frz od (.dT (z1.map entZ))) d1 = some (.frz od (.dT (z1.map entZ))) := upd_same
    have hfF := tu _ _ hf
    have hof : ∀ b o, b ≠ d1 → H b = some o → upd H d1 (.frz od (.dT (z1.map entZ))) b = some o := fun b o w w2 => by rw [upd_ne w]; exact w2
    generalize upd H d1 (.frz od (.dT (z1.map entZ))) = HFz at tu fz hfF hof ⊢
    refine ⟨_, rfl, f, _, _, _, rfl, rfl, SqT.of hfF, rfl, d1, od, rfl, .inr ⟨_, fz, fun D' hD => ?_⟩⟩
    refine lc_it (walk_keysT (d := d1) (o := od) (kvs := z1.map entZ)) (fun i H' => Same HFz H' ∧ ∃ ts' : List Addr, H' D' = some (.lst (ts'.map V.ref)) ∧ Paired (IntAt H') ts' (z1.take i)) ⟨AL.Same.new hD, [], upd_same, .nil⟩ (fun i H' _ hh => hh.1 _ _ fz) ?_ ?_
    · rintro i y H4 H4' hi ⟨s4, ts', hD4, en4⟩ ⟨rfl, kL, v, kq, hkv, rfl, hkq⟩
      obtain ⟨p, hp, rfl⟩ : ∃ p : Ex × Int, z1[i]? = some p ∧ kL = keyL p.1 := by
        rw [List.getElem?_map] at hkv
        cases e : z1[i]? with
        | none => rw [e] at hkv; cases hkv
        | some p => rw [e] at hkv; cases hkv; exact ⟨p, rfl, rfl⟩
      have kat := key_of_L7 hkq
      have hi' : i < z1.length := (List.getElem?_eq_some_iff.mp hp).1
      have lz := b1.len
      have dg := dz_rd (.inr ⟨od, s4 _ _ fz⟩) kat
      rw [getZ_of b1.nd (List.mem_of_getElem? hp)] at dg
      refine ⟨rfl, ?_⟩
      refine ⟨_, rfl, _, rfl, f, _, _, _, rfl, rfl, SqT.of (s4 _ _ hfF), rfl, _, rfl, d1, _, rfl, dg, (by show 2 ≤ sizeLine; decide), fun t5 ht5 => ?_⟩
      have n5 := AL.Same.new (o := .tup [.ref kq, .int p.2]) ht5
      have hD5 := n5 _ _ hD4
      have ts5 := upd_tups (o := .lst (ts'.map V.ref ++ [V.ref t5])) hD5 (fun _ z => nomatch z)
      refine ⟨_, hD5, ?_, AL.Same.updn (s4.trans n5) hD, ts' ++ [t5], by rw [upd_same, List.map_append]; rfl, ?_⟩
      · have l1 := prd_len en4
        rw [List.length_take] at l1
        rw [List.length_map]
        exact Nat.lt_of_le_of_lt (by omega : _ ≤ 1000) (by decide)
      · rw [List.take_add_one, hp]
        exact prd_snoc (paired_mono en4 fun _ _ w => (w.same n5).tups ts5) ⟨kq, ts5 _ _ upd_same, ts5 _ _ (n5 _ _ kat)⟩
    rintro H4 ⟨s4, ts', hD4, en4⟩
    rw [List.length_map, List.take_length] at en4
    have nDd : D' ≠ d1 := fun w => by rw [w] at hD4; rw [s4 _ _ fz] at hD4; cases hD4
    have ts5 := upd_tups (o := .dT (z1.map entZ)) (s4 _ _ fz) (fun _ z => nomatch z)
    refine ⟨s4 _ _ fz, ?_⟩
    have sa : Same H (upd H4 d1 (.dT (z1.map entZ))) := fun b o w => by
      by_cases e : b = d1
      · subst e
        rw [upd_same, ← w]; exact h1.symm
      · rw [upd_ne e]; exact s4 _ _ (hof _ _ e w)
    have hD5 : upd H4 d1 (.dT (z1.map entZ)) D' = some (.lst (ts'.map V.ref)) := by rw [upd_ne nDd]; exact hD4
    have en5 := paired_mono en4 fun _ _ w => w.tups ts5
    generalize upd H4 d1 (.dT (z1.map entZ)) = Ha at sa hD5 en5 ⊢
    clear ts5 nDd en4 hD4 s4 hD hof fz tu hfF
    intro x9 dx9 g1 g2 g3
    show spIniP K CPoly [V.ref x9, .int (n : Int), .ref D'] _ _ _
    refine ini_mono (R := (fun y H' => RelP CPoly Ha H' y n E0 C z1)) (make_p7 (E := L2.E0) (K := K) (CP := CPoly) (R := (fun y H' => RelP CPoly Ha H' y n E0 C z1)) (k := true) (ts := ts') (l := toQ z1) (SqL.of hD5) (ints_tv c60 en5 b1.sz) b1.pb hn hE (by rw [toQ_len]; exact l1) (by rw [toQ_len]; exact zz _ (by omega)) (fun xx1 H2 a s2 A ca la ea => ⟨a, s2, A, ca, la, ea⟩) x9 dx9 g1 g2 g3) (fun H2 hr => ?_)
    obtain ⟨a, s2, A, ca, la, ea⟩ := hr
    clear g1 g2 g3
    rw [toQ_len] at ca la
    have sH2 := sa.trans s2
    have hf2 := sH2 _ _ hf
    have h22 : H2 d2 = some (.dT (z2.map entZ)) := sH2 _ _ h2
    clear hD5 en5 sa s2
    refine ⟨_, rfl, d2, _, h22, trivial, fun od => ?_⟩
    have tu := upd_tups (o := .frz od (.dT (z2.map entZ))) h22 (fun _ z => nomatch z)
    have fz : upd H2 d2 (.frz od (.dT (z2.map entZ))) d2 = some (.frz od (.dT (z2.map entZ))) := upd_same
    have hfF := tu _ _ hf2
    have hof : ∀ b o, b ≠ d2 → H2 b = some o → upd H2 d2 (.frz od (.dT (z2.map entZ))) b = some o := fun b o w w2 => by rw [upd_ne w]; exact w2
    generalize upd H2 d2 (.frz od (.dT (z2.map entZ))) = HFz at tu fz hfF hof ⊢
    refine ⟨_, rfl, f, _, _, _, rfl, rfl, SqT.of hfF, rfl, d2, od, rfl, .inr ⟨_, fz, fun D' hD => ?_⟩⟩
    refine lc_it (walk_keysT (d := d2) (o := od) (kvs := z2.map entZ)) (fun i H' => Same HFz H' ∧ ∃ ts' : List Addr, H' D' = some (.lst (ts'.map V.ref)) ∧ Paired (IntAt H') ts' (z2.take i)) ⟨AL.Same.new hD, [], upd_same, .nil⟩ (fun i H' _ hh => hh.1 _ _ fz) ?_ ?_
    · rintro i y H4 H4' hi ⟨s4, ts', hD4, en4⟩ ⟨rfl, kL, v, kq, hkv, rfl, hkq⟩
      obtain ⟨p, hp, rfl⟩ : ∃ p : Ex × Int, z2[i]? = some p ∧ kL = keyL p.1 := by
        rw [List.getElem?_map] at hkv
        cases e : z2[i]? with
        | none => rw [e] at hkv; cases hkv
        | some p => rw [e] at hkv; cases hkv; exact ⟨p, rfl, rfl⟩
      have kat := key_of_L7 hkq
      have hi' : i < z2.length := (List.getElem?_eq_some_iff.mp hp).1
      have lz := b2.len
      have dg := dz_rd (.inr ⟨od, s4 _ _ fz⟩) kat
      rw [getZ_of b2.nd (List.mem_of_getElem? hp)] at dg
      refine ⟨rfl, ?_⟩
      refine ⟨_, rfl, _, rfl, f, _, _, _, rfl, rfl, SqT.of (s4 _ _ hfF), rfl, _, rfl, d2, _, rfl, dg, (by show 2 ≤ sizeLine; decide), fun t5 ht5 => ?_⟩
      have n5 := AL.Same.new (o := .tup [.ref kq, .int p.2]) ht5
      have hD5 := n5 _ _ hD4
      have ts5 := upd_tups (o := .lst (ts'.map V.ref ++ [V.ref t5])) hD5 (fun _ z => nomatch z)
      refine ⟨_, hD5, ?_, AL.Same.updn (s4.trans n5) hD, ts' ++ [t5], by rw [upd_same, List.map_append]; rfl, ?_⟩
      · have l1 := prd_len en4
        rw [List.length_take] at l1
        rw [List.length_map]
        exact Nat.lt_of_le_of_lt (by omega : _ ≤ 1000) (by decide)
      · rw [List.take_add_one, hp]
        exact prd_snoc (paired_mono en4 fun _ _ w => (w.same n5).tups ts5) ⟨kq, ts5 _ _ upd_same, ts5 _ _ (n5 _ _ kat)⟩
    rintro H4 ⟨s4, ts', hD4, en4⟩
    rw [List.length_map, List.take_length] at en4
    have nDd : D' ≠ d2 := fun w => by rw [w] at hD4; rw [s4 _ _ fz] at hD4; cases hD4
    have ts5 := upd_tups (o := .dT (z2.map entZ)) (s4 _ _ fz) (fun _ z => nomatch z)
    refine ⟨s4 _ _ fz, ?_⟩
    have sb : Same H2 (upd H4 d2 (.dT (z2.map entZ))) := fun b o w => by
      by_cases e : b = d2
      · subst e
        rw [upd_same, ← w]; exact h22.symm
      · rw [upd_ne e]; exact s4 _ _ (hof _ _ e w)
    have hD5 : upd H4 d2 (.dT (z2.map entZ)) D' = some (.lst (ts'.map V.ref)) := by rw [upd_ne nDd]; exact hD4
    have en5 := paired_mono en4 fun _ _ w => w.tups ts5
    generalize upd H4 d2 (.dT (z2.map entZ)) = Hb at sb hD5 en5 ⊢
    clear ts5 nDd en4 hD4 s4 hD hof fz tu hfF
    intro x8 dx8 g1 g2 g3
    show spIniP K CPoly [V.ref x8, .int (n : Int), .ref D'] _ _ _
    refine ini_mono (R := (fun y H' => RelP CPoly Hb H' y n E0 C z2)) (make_p7 (E := L2.E0) (K := K) (CP := CPoly) (R := (fun y H' => RelP CPoly Hb H' y n E0 C z2)) (k := true) (ts := ts') (l := toQ z2) (SqL.of hD5) (ints_tv c60 en5 b2.sz) b2.pb hn hE (by rw [toQ_len]; exact l2) (by rw [toQ_len]; exact zz _ (by omega)) (fun xx2 H3 b s3 B cb lb eb => ⟨b, s3, B, cb, lb, eb⟩) x8 dx8 g1 g2 g3) (fun H3 hr => ?_)
    obtain ⟨b, s3, B, cb, lb, eb⟩ := hr
    clear g1 g2 g3
    rw [toQ_len] at cb lb
    have bne : b ≠ [] := fun w => nz (by rw [← w]; exact eb)
    have ka := up (by omega) ca
    have kb := up (by omega) cb
    have p59 : (10 : Nat) ^ 22 < 2 ^ 5900 := by decide +kernel
    have p99 : (10 : Nat) ^ 22 < 2 ^ 5990 := by decide +kernel
    intro x7 dx7 g1 g2 g3
    have s0 := made_sm (o := .ins CQuotient dx7 []) g1 g2
    refine ⟨x7, dx7, x9, x8, n, E0, 1, C * 64, a, b, rfl, upd_same, ((A.same sb).same s3).same s0, B.same s0, ka, kb, hn, hE, by omega, by omega, by decide +kernel, by rw [Nat.mul_one]; omega, by rw [Nat.mul_one, Nat.mul_one]; omega, .inr ⟨bne, fun H' x' y' t u kp hq XX YY ct cu lt lu FO => ⟨rfl, ?_⟩⟩⟩
    rw [Nat.mul_one, Nat.mul_one] at ct cu
    exact q x7 H' t u a b (((sH2.trans sb).trans s3).trans fun b o w => kp b o (ne_of_none w g1) (s0 b o w)) ⟨dx7, x', y', hq, XX, YY⟩ ⟨ct.asc, ct.nz, ct.pb.mono (by omega) (Nat.le_refl _)⟩ cu (by omega) (by omega) ka kb ea eb bne FO
end
end AL
set_option Elab.async false
set_option maxRecDepth 100000
set_option exponentiation.threshold 70000
set_option maxHeartbeats 1000000
namespace AL
open PySem PySem.Spec PyProof.Rows L2 RZ
section
variable {P : Program} {w : World} {K : PySem.W.Frag} {mg : Str → Option Value} {base : Heap}

/-- small ratios in lowest terms -/
structure SN (a : Int) (b : Nat) : Prop where
  low : Low a b
  top : a.natAbs < 10 ^ 30
  bot : b < 100
theorem SN.sm {a : Int} {b : Nat} (h : SN a b) : Sm a b := ⟨Nat.lt_of_lt_of_le h.top (by decide +kernel), Nat.lt_of_lt_of_le h.bot (by decide +kernel)⟩
theorem SN.mid {a : Int} {b : Nat} (h : SN a b) : Mid a b := sm_mid h.sm h.low.1
/-- _law_ratio(pen, figures) -/
def spRatL : Sp := fun vs H Q _ => ∃ (p c : Addr) (m k : Nat), vs = [.ref p, .int (k : Int)] ∧ Pen H p c m ∧ m < 800000000 ∧ 0 < k ∧ k ≤ 30 ∧
  ∀ t a b H', SN a b → RatAt H' t a b → Pen H' p c (m + 300) → KeepP H H' → Q (.ref t) H'
/-- _law_passed(pen, ratio) -/
def spPassI (K : PySem.W.Frag) : Sp := fun vs H Q _ => ∃ (p c t : Addr) (m : Nat) (a : Int) (b : Nat), vs = [.ref p, .ref t] ∧ Pen H p c m ∧ m < 800000000 ∧ RatAt H t a b ∧ SN a b ∧
  ∀ v (k : Nat) H', 0 < k → k < 10 → RatV K H' v (some (a * (k : Int), b * k)) → Pen H' p c (m + 2) → KeepP H H' → Q v H'
def spSome : Sp := fun vs H Q _ => ∃ (p c : Addr) (m : Nat), vs = [.ref p] ∧ Pen H p c m ∧ m < 700000000 ∧
  ∀ t a b H', SN a b → RatAt H' t a b → Pen H' p c (m + 1000) → KeepP H H' → Q (.ref t) H'
def spIsAm (CA : Addr) : Sp := fun vs H Q _ => ∃ z t r es p q, vs = [.ref z, .ref t, .ref r] ∧ Amt CA H z es p q ∧ TupI H t es ∧ RatAt H r p q ∧ Q (.bl true) H

abbrev st_law_gcd : Stmt := top 42
theorem sc_law_gcd : FnScope ["_law_one", "_law_two", "_law_lap"] ["_law_one", "_law_two"] (defScope st_law_gcd) := ⟨rfl, rfl, rfl, by decide +kernel, rfl, by decide +kernel, by decide +kernel⟩
theorem ok_law_gcd (B : Blt mg)  {f_law_gcd : Addr} {fd_law_gcd : FuncData} (D_law_gcd : DefAt K mg "_law_gcd" st_law_gcd ["_law_one", "_law_two"] f_law_gcd fd_law_gcd) : FnOk P w K mg base CX0 1 f_law_gcd fd_law_gcd ["_law_one", "_law_two"] spGcdL := by
  refine D_law_gcd.F.ok sc_law_gcd (fun vs H Q E h => ?_) (fun cdv A outer s H vs Q E hr h => ?_)
  · obtain ⟨a, b, rfl, _⟩ := h; rfl
  · have hu := hu_of hr
    refine ⟨_, (pss_cons (ps_par (i := 0) (j := 1) (by rfl) sc_law_gcd.nd rfl rfl (by decide) rfl rfl (pa_cons (pe_callB call_abs (by rfl) B.abs_ (by decide +kernel) (pa_cons (pv 0) pa_nil)) (pa_cons (pe_callB call_abs (by rfl) B.abs_ (by decide +kernel) (pa_cons (pv 1) pa_nil)) pa_nil)) (by rfl))
    (pss_cons (ps_for PassesOwn.never rfl (pi_range1 rfl B.range_ (pa_cons pe_int pa_nil)) (pg_name (i := 2) sc_law_gcd.nd rfl (Or.inl rfl))
      (pss_cons (ps_if (pt_cmpR op_eq (pv 1) pe_int (nomark _)) (pss_one ps_break) pss_nil)
    (pss_one (ps_par (i := 0) (j := 1) (by rfl) sc_law_gcd.nd rfl rfl (by decide) rfl rfl (pa_cons (pv 1) (pa_cons (pe_op op_modN (pe_callTy call_int1 (by rfl) B.int_ (by decide +kernel) (pa_cons (pv 0) pa_nil)) (pv 1)) pa_nil)) (by rfl)))))
    (pss_one (ps_ret (pv 0))))), ?_⟩
    obtain ⟨a, b, rfl, ha, hb, q⟩ := h
    have eabs : ∀ i : Int, (if i < 0 then -i else i) = ((i.natAbs : Nat) : Int) := fun i => by split <;> omega
    refine ⟨_, rfl, _, rfl, _, rfl, _, rfl, _, _, rfl, ?_⟩
    refine ⟨_, rfl, by decide, by decide, for_range (lo := 0) (n := 60000) (fun i σ H' => ∃ (x y : Nat) (v : Option V), σ = [some (.int (x : Int)), some (.int (y : Int)), v] ∧ H' = H ∧ pairOk a.natAbs b.natAbs i x y) ⟨a.natAbs, b.natAbs, none, by rw [← eabs, ← eabs]; rfl, rfl, pairOk0 _ _⟩ ?_ ?_⟩
    · rintro i σ H' hi ⟨x, y, v, rfl, rfl, hp⟩
      refine ⟨_, rfl, rfl, _, rfl, ?_⟩
      refine ite2 (fun h0 => ?_) (fun h0 => ?_)
      · have hy0 : y = 0 := vi_eq (j := 0) h0
        subst hy0
        refine ⟨_, rfl, ?_⟩
        rw [pairOk_end hp]; exact q
      · have hy0 : y ≠ 0 := vi_ne (j := 0) h0
        refine ⟨_, rfl, _, rfl, .inl ⟨_, rfl, _, rfl, _, _, rfl, rfl, by show (y : Int) ≠ 0; omega, _, _, rfl, ?_⟩⟩
        refine ⟨y, x % y, some (.int (0 + (i : Int))), ?_, rfl, pairOk_step hp hy0⟩
        rw [← fmod_nat]
        rfl
    · rintro σ H' ⟨x, y, v, rfl, rfl, hp⟩
      have hy0 := pairOk_zero hp ha hb
      subst hy0
      refine ⟨_, rfl, ?_⟩
      rw [pairOk_end hp]; exact q
end
end AL
set_option Elab.async false
set_option maxRecDepth 100000
set_option exponentiation.threshold 70000
set_option maxHeartbeats 1000000
namespace AL
open PySem PySem.Spec PyProof.Rows L2 RZ
section
variable {P : Program} {w : World} {K : PySem.W.Frag} {mg : Str → Option Value} {base : Heap}

def spWh7 : Sp := fun vs H Q _ => ∃ (i : Int), vs = [.int i] ∧ Q (.bl true) H

abbrev st_law_is_whole : Stmt := top 43
theorem sc_law_is_whole : FnScope ["_law_value"] ["_law_value"] (defScope st_law_is_whole) := ⟨rfl, rfl, rfl, by decide +kernel, rfl, by decide +kernel, by decide +kernel⟩
theorem ok_law_is_whole (B : Blt mg)  {f_law_is_whole : Addr} {fd_law_is_whole : FuncData} (D_law_is_whole : DefAt K mg "_law_is_whole" st_law_is_whole ["_law_value"] f_law_is_whole fd_law_is_whole) : FnOk P w K mg base CX0 1 f_law_is_whole fd_law_is_whole ["_law_value"] spWh7 := by
  refine D_law_is_whole.F.ok sc_law_is_whole (fun vs H Q E h => ?_) (fun cdv A outer s H vs Q E hr h => ?_)
  · obtain ⟨i, rfl, _⟩ := h; rfl
  · have hu := hu_of hr
    refine ⟨_, (pss_one (ps_ret (pe_and (pe_callB call_isi (by rfl) B.isinstance_ (by decide +kernel) (pa_cons (pv 0) (pa_cons (pe_bltn (v := .ty "int") (by rfl) B.int_ PyProof.Rows.Boot.«int» rfl) pa_nil))) (pe_one (pe_not (pe_callB call_isi (by rfl) B.isinstance_ (by decide +kernel) (pa_cons (pv 0) (pa_cons (pe_bltn (v := .ty "bool") (by rfl) B.bool_ PyProof.Rows.Boot.«bool» rfl) pa_nil)))))))), ?_⟩
    obtain ⟨i, rfl, q⟩ := h
    refine ⟨_, rfl, _, _, _, _, _, rfl, ClsV.ty _, TyX.base (.int _), rfl, true, rfl, ?_⟩
    refine iteT ?_
    refine ⟨_, rfl, _, _, _, _, _, rfl, ClsV.ty _, TyX.base (.int _), rfl, _, rfl, ?_⟩
    exact q
end
end AL
set_option Elab.async false
set_option maxRecDepth 100000
set_option exponentiation.threshold 70000
set_option maxHeartbeats 1000000
namespace AL
open PySem PySem.Spec PyProof.Rows L2 RZ
section
variable {P : Program} {w : World} {K : PySem.W.Frag} {mg : Str → Option Value} {base : Heap}

/-- _law_is_ratio(value), a ratio -/
def spIr7 : Sp := fun vs H Q _ => ∃ (t : Addr) (x : Rat), vs = [.ref t] ∧ RQ H t x ∧ x.num.natAbs < N6 ∧ x.den < N6 ∧ Q (.bl true) H

abbrev st_law_is_ratio : Stmt := top 44
theorem sc_law_is_ratio : FnScope ["_law_value"] ["_law_value"] (defScope st_law_is_ratio) := ⟨rfl, rfl, rfl, by decide +kernel, rfl, by decide +kernel, by decide +kernel⟩
theorem ok_law_is_ratio (B : Blt mg)  {f_law_gcd : Addr} {fd_law_gcd : FuncData} (D_law_gcd : DefAt K mg "_law_gcd" st_law_gcd ["_law_one", "_law_two"] f_law_gcd fd_law_gcd) {f_law_is_whole : Addr} {fd_law_is_whole : FuncData} (D_law_is_whole : DefAt K mg "_law_is_whole" st_law_is_whole ["_law_value"] f_law_is_whole fd_law_is_whole) {f_law_is_ratio : Addr} {fd_law_is_ratio : FuncData} (D_law_is_ratio : DefAt K mg "_law_is_ratio" st_law_is_ratio ["_law_value"] f_law_is_ratio fd_law_is_ratio) : FnOk P w K mg base CX0 2 f_law_is_ratio fd_law_is_ratio ["_law_value"] spIr7 := by
  have OK_law_gcd : FnOk P w K mg base CX0 1 f_law_gcd fd_law_gcd ["_law_one", "_law_two"] spGcdL := ok_law_gcd B  D_law_gcd
  have OK_law_is_whole : FnOk P w K mg base CX0 1 f_law_is_whole fd_law_is_whole ["_law_value"] spWh7 := ok_law_is_whole B  D_law_is_whole
  refine D_law_is_ratio.F.ok sc_law_is_ratio (fun vs H Q E h => ?_) (fun cdv A outer s H vs Q E hr h => ?_)
  · obtain ⟨t, x, rfl, _⟩ := h; rfl
  · have hu := hu_of hr
    refine ⟨_, (pss_cons (ps_if (PW.pt (pw_or (pt_not (pt_val (pe_callB call_isi (by rfl) B.isinstance_ (by decide +kernel) (pa_cons (pv 0) (pa_cons (pe_bltn (v := .ty "tuple") (by rfl) B.tuple_ PyProof.Rows.Boot.«tuple» rfl) pa_nil))))) (pw_or1 (pt_cmpR op_ne (pe_callB call_len_seq (by rfl) B.len_ (by decide +kernel) (pa_cons (pv 0) pa_nil)) pe_int (nomark _))))) (pss_one (ps_ret pe_bl)) pss_nil)
    (pss_cons (ps_if (PW.pt (pw_or (pt_not (pt_val (pe_call OK_law_is_whole (hr.mono (by decide)) rfl D_law_is_whole.m D_law_is_whole.F.kp D_law_is_whole.b .nil pass0 (pa_cons (pe_ix ix_tup (pv 0) pe_int (fun _ _ => rfl)) pa_nil)))) (pw_or (pt_not (pt_val (pe_call OK_law_is_whole (hr.mono (by decide)) rfl D_law_is_whole.m D_law_is_whole.F.kp D_law_is_whole.b .nil pass0 (pa_cons (pe_ix ix_tup (pv 0) pe_int (fun _ _ => rfl)) pa_nil)))) (pw_or1 (pt_cmpR op_le (pe_ix ix_tup (pv 0) pe_int (fun _ _ => rfl)) pe_int (nomark _)))))) (pss_one (ps_ret pe_bl)) pss_nil)
    (pss_one (ps_ret (pe_cmpR op_eq (pe_call OK_law_gcd (hr.mono (by decide)) rfl D_law_gcd.m D_law_gcd.F.kp D_law_gcd.b .nil pass0 (pa_cons (pe_ix ix_tup (pv 0) pe_int (fun _ _ => rfl)) (pa_cons (pe_ix ix_tup (pv 0) pe_int (fun _ _ => rfl)) pa_nil))) pe_int (nomark _)))))), ?_⟩
    obtain ⟨t, x, rfl, ht, ha, hb, q⟩ := h
    have ht' : H t = some (.tup [.int x.num, .int (x.den : Int)]) := ht
    have h0 := x.den_pos
    refine ⟨_, rfl, _, _, _, _, _, rfl, ClsV.ty _, TyX.base (.tup ht'), rfl, true, rfl, ?_⟩
    refine iteF ?_
    refine ⟨_, rfl, t, _, rfl, .inr (SqT.of ht'), rfl, _, rfl, ?_⟩
    refine iteF ?_
    refine ⟨_, rfl, t, _, _, _, rfl, rfl, SqT.of ht', rfl, _, rfl, _, rfl, ?_⟩
    refine iteF ?_
    refine ⟨_, rfl, t, _, _, _, rfl, rfl, SqT.of ht', rfl, _, rfl, _, rfl, ?_⟩
    refine iteF ?_
    refine ⟨_, rfl, t, _, _, _, rfl, rfl, SqT.of ht', rfl, _, _, rfl, rfl, _, rfl, ?_⟩
    refine ite2 (fun hneg => absurd (of_decide_eq_true hneg) (by omega)) (fun _ => ?_)
    refine ⟨_, rfl, t, _, _, _, rfl, rfl, SqT.of ht', rfl, _, rfl, t, _, _, _, rfl, rfl, SqT.of ht', rfl, x.num, (x.den : Int), rfl, ha, by rw [Int.natAbs_natCast]; exact hb, ?_⟩
    rw [Int.natAbs_natCast, show Nat.gcd x.num.natAbs x.den = 1 from x.reduced]
    exact ⟨rfl, q⟩
end
end AL
set_option Elab.async false
set_option maxRecDepth 100000
set_option exponentiation.threshold 70000
set_option maxHeartbeats 1000000
namespace AL
open PySem PySem.Spec PyProof.Rows L2 RZ
section
variable {P : Program} {w : World} {K : PySem.W.Frag} {mg : Str → Option Value} {base : Heap}

/-- _law_is_matrix((exponents,), 1, size) -/
def spIm7 : Sp := fun vs H Q _ => ∃ (t k : Addr) (n : Nat) (e : Ex), vs = [.ref t, .int 1, .int (n : Int)] ∧ H t = some (.tup [.ref k]) ∧ KeyAt H k e ∧ e.length = n ∧ n ≤ 80 ∧ ∀ H', Same H H' → Q (.bl true) H'

abbrev st_law_is_matrix : Stmt := top 46
theorem sc_law_is_matrix : FnScope ["_law_value", "_law_many", "_law_wide", "_law_row", "_law_one"] ["_law_value", "_law_many", "_law_wide"] (defScope st_law_is_matrix) := ⟨rfl, rfl, rfl, by decide +kernel, rfl, by decide +kernel, by decide +kernel⟩
theorem ok_law_is_matrix (B : Blt mg)  {f_law_is_whole : Addr} {fd_law_is_whole : FuncData} (D_law_is_whole : DefAt K mg "_law_is_whole" st_law_is_whole ["_law_value"] f_law_is_whole fd_law_is_whole) {f_law_is_matrix : Addr} {fd_law_is_matrix : FuncData} (D_law_is_matrix : DefAt K mg "_law_is_matrix" st_law_is_matrix ["_law_value", "_law_many", "_law_wide"] f_law_is_matrix fd_law_is_matrix) : FnOk P w K mg base CX0 2 f_law_is_matrix fd_law_is_matrix ["_law_value", "_law_many", "_law_wide"] spIm7 := by
  have OK_law_is_whole : FnOk P w K mg base CX0 1 f_law_is_whole fd_law_is_whole ["_law_value"] spWh7 := ok_law_is_whole B  D_law_is_whole
  refine D_law_is_matrix.F.ok sc_law_is_matrix (fun vs H Q E h => ?_) (fun cdv A outer s H vs Q E hr h => ?_)
  · obtain ⟨t, k, n, e, rfl, _⟩ := h; rfl
  · have hu := hu_of hr
    refine ⟨_, (pss_cons (ps_if (PW.pt (pw_or (pt_not (pt_val (pe_callB call_isi (by rfl) B.isinstance_ (by decide +kernel) (pa_cons (pv 0) (pa_cons (pe_bltn (v := .ty "tuple") (by rfl) B.tuple_ PyProof.Rows.Boot.«tuple» rfl) pa_nil))))) (pw_or1 (pt_cmpR op_ne (pe_callB call_len_seq (by rfl) B.len_ (by decide +kernel) (pa_cons (pv 0) pa_nil)) (pv 1) (nomark _))))) (pss_one (ps_ret pe_bl)) pss_nil)
    (pss_cons (ps_for PassesOwn.never rfl (pi_tup (pv 0)) (pg_name (i := 3) sc_law_is_matrix.nd rfl (Or.inl rfl))
      (pss_one (ps_if (PW.pt (pw_or (pt_not (pt_val (pe_callB call_isi (by rfl) B.isinstance_ (by decide +kernel) (pa_cons (pv 3) (pa_cons (pe_bltn (v := .ty "tuple") (by rfl) B.tuple_ PyProof.Rows.Boot.«tuple» rfl) pa_nil))))) (pw_or (pt_cmpR op_ne (pe_callB call_len_seq (by rfl) B.len_ (by decide +kernel) (pa_cons (pv 3) pa_nil)) (pv 2) (nomark _)) (pw_or1 (pt_cmpR (op_neD hr.units) (pe_lc (own := [("_law_one", 4)]) (g := gName 4) rfl sc_law_is_matrix.nd (pi_tup (pv 3)) (blkOk_by (own := [("_law_one", 4)]) (N := ["_law_value", "_law_many", "_law_wide", "_law_row", "_law_one"]) (sc := defScope st_law_is_matrix) (by decide +kernel)) (fun _ _ _ _ _ => pg_name (i := 4) sc_law_is_matrix.nd rfl (Or.inl rfl)) (fun _ _ _ _ _ => (pts_one (pt_not (pt_val (pe_call OK_law_is_whole (hr.mono (by decide)) rfl D_law_is_whole.m D_law_is_whole.F.kp D_law_is_whole.b .nil pass0 (pa_cons (pv 4) pa_nil)))))) (fun _ _ _ _ _ => (pv 4))) (pe_lst pa_nil) (nomark _)))))) (pss_one (ps_ret pe_bl)) pss_nil)))
    (pss_one (ps_ret pe_bl)))), ?_⟩
    obtain ⟨t, k, n, e, rfl, ht, hk, le, hn, q⟩ := h
    refine ⟨_, rfl, _, _, _, _, _, rfl, ClsV.ty _, TyX.base (.tup ht), rfl, true, rfl, ?_⟩
    refine iteF ?_
    refine ⟨_, rfl, t, _, rfl, .inr (SqT.of ht), _, rfl, rfl, _, rfl, ?_⟩
    refine iteF ?_
    refine ⟨_, rfl, t, rfl, ⟨_, SqT.of ht⟩, for_tup (K := K) (a := t) (xs := [V.ref k]) (fun i σ H' => ∃ v3 v4 : Option V, σ = [some (.ref t), some (.int 1), some (.int (n : Int)), v3, v4] ∧ Same H H') ⟨none, none, rfl, (fun _ _ h => h)⟩ (fun i σ H' _ hh => by obtain ⟨_, _, _, z⟩ := hh; exact SqT.of (z _ _ ht)) ?_ ?_⟩
    · rintro i x σ H1 hx ⟨v3, v4, rfl, s1⟩
      obtain rfl : V.ref k = x := by
        cases i with
        | zero => exact Option.some.inj hx
        | succ i => simp at hx
      have hk1 : H1 k = some (.tup ((ki e).map V.int)) := s1 _ _ hk
      refine ⟨_, rfl, _, _, _, _, _, rfl, ClsV.ty _, TyX.base (.tup hk1), rfl, true, rfl, ?_⟩
      refine iteF ?_
      refine ⟨_, rfl, k, _, rfl, .inr (SqT.of hk1), _, rfl, rfl, _, rfl, ?_⟩
      rw [List.length_map, len_ki, le, decide_eq_true rfl]
      refine iteF ?_
      refine ⟨_, rfl, k, rfl, ⟨_, SqT.of hk1⟩, fun D hD => ?_⟩
      refine lc_tup (K := K) (a := k) (xs := (ki e).map V.int) (fun i H' => Same H1 H' ∧ H' D = some (.lst [])) ⟨AL.Same.new hD, upd_same⟩ (fun i H' _ hh => SqT.of (hh.1 _ _ hk1)) ?_ ?_
      · rintro i2 x H2 hx2 ⟨s2, hd⟩
        obtain ⟨z, _, rfl⟩ := map_int hx2
        refine ⟨rfl, ?_⟩
        refine ⟨_, rfl, z, rfl, _, rfl, ?_⟩
        refine iteF ?_
        exact ⟨s2, hd⟩
      · rintro H2 ⟨s2, hd⟩
        refine ⟨(by show 0 ≤ sizeLine; decide), fun p0 hp0 => ?_⟩
        have n0 := AL.Same.new (o := .lst []) hp0
        refine ⟨.list [], .list [], Dp.lst (SqL.of (n0 _ _ hd)) .nil, Dp.lst (SqL.of upd_same) .nil, (by decide +kernel), (by decide +kernel), _, rfl, ?_⟩
        rw [show PyData.eqv (.list []) (.list []) = true by rfl]
        refine iteF ?_
        exact ⟨_, _, rfl, (s1.trans s2).trans n0⟩
    · rintro σ H1 ⟨v3, v4, rfl, s1⟩
      exact q H1 s1
end
end AL
set_option Elab.async false
set_option maxRecDepth 100000
set_option exponentiation.threshold 70000
set_option maxHeartbeats 1000000
namespace AL
open PySem PySem.Spec PyProof.Rows L2 RZ
section
variable {P : Program} {w : World} {K : PySem.W.Frag} {mg : Str → Option Value} {base : Heap}

theorem walk_zipT {K : PySem.W.Frag} {a b : Addr} {xs ys : List V} {n : Nat} (hn : n = min xs.length ys.length) : Walk (ItzT K a b) n (fun H => SqT K H a xs ∧ SqT K H b ys) (YPair (fun i => xs[i]?) (fun i => ys[i]?)) := by
  subst hn
  refine ⟨fun i _ hi z => ?_, fun _ z => ⟨xs, ys, z.1, z.2, by omega⟩, fun i H v H' _ z y => ?_⟩
  · have k1 : i < xs.length := by omega
    have k2 : i < ys.length := by omega
    exact ⟨xs, ys, xs[i], ys[i], z.1, z.2, by simp [k1], by simp [k2]⟩
  · obtain ⟨T, x, y', e1, e2, e3, e4, e5⟩ := y
    exact ⟨T, x, y', e1, e2, e3, e4 xs z.1, e5 ys z.2⟩
def rowM (p : Ex × Rat) (b : PM) : PM := b.map fun q => (plE p.1 q.1, p.2 * q.2)
theorem mul_take {a b : PM} {i : Nat} {p : Ex × Rat} (h : a[i]? = some p) : mulM (a.take (i + 1)) b = mulM (a.take i) b ++ rowM p b := by
  unfold mulM rowM
  rw [List.take_add_one, h, List.flatMap_append]
  simp
theorem join_app {L R : PM} {j : Nat} {q : Ex × Rat} (h : R[j]? = some q) : joinM [] (L ++ R.take (j + 1)) = addM (joinM [] (L ++ R.take j)) q.1 q.2 := by
  unfold joinM
  rw [List.take_add_one, h, ← List.append_assoc, List.foldl_append]
  rfl
theorem mul_len : ∀ a b : PM, (mulM a b).length = a.length * b.length
  | [], b => by simp [mulM]
  | p :: r, b => by
    have e : mulM (p :: r) b = rowM p b ++ mulM r b := List.flatMap_cons
    rw [e, List.length_append, mul_len r b, List.length_cons, Nat.add_mul, Nat.one_mul, Nat.add_comm]
    unfold rowM
    rw [List.length_map]
/-- a beginning of the products -/
theorem mul_pre {a b : PM} {i j : Nat} {p : Ex × Rat} (h : a[i]? = some p) : ∃ rest, mulM a b = mulM (a.take i) b ++ (rowM p b).take j ++ rest := by
  have e : a = a.take i ++ p :: a.drop (i + 1) := by
    obtain ⟨hi, e⟩ := List.getElem?_eq_some_iff.mp h
    rw [← e, ← List.drop_eq_getElem_cons hi, List.take_append_drop]
  refine ⟨(rowM p b).drop j ++ mulM (a.drop (i + 1)) b, ?_⟩
  rw [List.append_assoc, ← List.append_assoc ((rowM p b).take j), List.take_append_drop]
  conv => lhs; rw [e]
  unfold mulM
  rw [List.flatMap_append]
  rfl
theorem plE_ki (e f : Ex) : List.zipWith (· + ·) (ki e) (ki f) = ki (plE e f) := by
  unfold ki plE
  rw [List.zipWith_map_left, List.zipWith_map_right, List.map_zipWith]
  rfl
theorem none_back {H H' : Hp} {p : Addr} (s : Same H H') (h : H' p = none) : H p = none := by
  cases e : H p with
  | none => rfl
  | some o => rw [s _ _ e] at h; cases h
theorem nodup_L {es : List Ex} (h : es.Nodup) : (es.map keyL).Nodup := List.Pairwise.map _ (fun _ _ n w => n (keyL_inj w)) h

def mulZ (a b : ZM) : ZM := a.flatMap fun p => b.map fun q => (plE p.1 q.1, p.2 * q.2)
def rowZ (p : Ex × Int) (b : ZM) : ZM := b.map fun q => (plE p.1 q.1, p.2 * q.2)
def addZ (m : ZM) (e : Ex) (v : Int) : ZM := putZ m e ((getZ m e).getD 0 + v)
def joinZ (m l : ZM) : ZM := l.foldl (fun a p => addZ a p.1 p.2) m
def nzZ (m : ZM) : ZM := m.filter fun p => decide (p.2 ≠ 0)
theorem toQ_mul (a b : ZM) : toQ (mulZ a b) = mulM (toQ a) (toQ b) := by
  unfold toQ mulZ mulM
  rw [List.map_flatMap, List.flatMap_map]
  congr 1
  funext p
  rw [List.map_map, List.map_map]
  refine List.map_congr_left fun q _ => ?_
  show (plE p.1 q.1, (((p.2 * q.2 : Int)) : Rat)) = (plE p.1 q.1, ((p.2 : Int) : Rat) * ((q.2 : Int) : Rat))
  rw [Rat.intCast_mul]
theorem toQ_add (m : ZM) (e : Ex) (v : Int) : toQ (addZ m e v) = addM (toQ m) e (v : Rat) := by
  unfold addZ addM
  rw [toQ_put, toQ_get, Rat.intCast_add]
  cases getZ m e <;> rfl
theorem toQ_join : ∀ (l m : ZM), toQ (joinZ m l) = joinM (toQ m) (toQ l)
  | [], _ => rfl
  | p :: l, m => by
    show toQ (joinZ (addZ m p.1 p.2) l) = joinM (addM (toQ m) p.1 (p.2 : Rat)) (toQ l)
    rw [toQ_join l, toQ_add]
theorem toQ_nz (m : ZM) : toQ (nzZ m) = nzM (toQ m) := by
  unfold toQ nzZ nzM
  rw [List.filter_map]
  congr 1
  refine List.filter_congr fun p _ => ?_
  show decide (p.2 ≠ 0) = decide (((p.2 : Int) : Rat) ≠ 0)
  refine decide_eq_decide.mpr (not_congr ?_)
  exact ⟨fun h => by rw [h]; rfl, fun h => by exact_mod_cast h⟩
theorem joinZ_take {m l : ZM} {i : Nat} {p : Ex × Int} (h : l[i]? = some p) : joinZ m (l.take (i + 1)) = addZ (joinZ m (l.take i)) p.1 p.2 := by
  unfold joinZ
  rw [List.take_add_one, h, List.foldl_append]; rfl
theorem joinZ_app {L R : ZM} {j : Nat} {q : Ex × Int} (h : R[j]? = some q) : joinZ [] (L ++ R.take (j + 1)) = addZ (joinZ [] (L ++ R.take j)) q.1 q.2 := by
  unfold joinZ
  rw [List.take_add_one, h, ← List.append_assoc, List.foldl_append]
  rfl
theorem mulZ_take {a b : ZM} {i : Nat} {p : Ex × Int} (h : a[i]? = some p) : mulZ (a.take (i + 1)) b = mulZ (a.take i) b ++ rowZ p b := by
  unfold mulZ rowZ
  rw [List.take_add_one, h, List.flatMap_append]
  simp
theorem joinZ_len (l m : ZM) : (joinZ m l).length ≤ m.length + l.length := by
  have := join_len (toQ l) (toQ m)
  rw [← toQ_join, toQ_len, toQ_len, toQ_len] at this
  exact this
theorem mulZ_len (a b : ZM) : (mulZ a b).length = a.length * b.length := by
  have := mul_len (toQ a) (toQ b)
  rw [← toQ_mul, toQ_len, toQ_len, toQ_len] at this
  exact this
theorem joinZ_nd (l : ZM) : ((joinZ [] l).map (·.1)).Nodup := by
  have := join_nodup (toQ l)
  rw [show joinM [] (toQ l) = toQ (joinZ [] l) from (toQ_join l []).symm, toQ_keys] at this
  exact this
theorem nzZ_nd {m : ZM} (nd : (m.map (·.1)).Nodup) : ((nzZ m).map (·.1)).Nodup := List.Nodup.sublist (List.Sublist.map _ List.filter_sublist) nd
theorem nzZ_len (m : ZM) : (nzZ m).length ≤ m.length := List.length_filter_le _ _
theorem getZ_mem {m : ZM} {e : Ex} {v : Int} (h : getZ m e = some v) : (e, v) ∈ m := by
  unfold getZ at h
  rw [Option.map_eq_some_iff] at h
  obtain ⟨p, h1, h2⟩ := h
  have h3 : p.1 = e := by have z := List.find?_some h1; exact of_decide_eq_true z
  have h4 := List.mem_of_find?_eq_some h1
  rw [← h3, ← h2]; exact h4
theorem addZ_mem {m : ZM} {e : Ex} {v : Int} {C k : Nat} (h : ∀ q ∈ m, q.2.natAbs ≤ C * k) (hv : v.natAbs ≤ C) : ∀ q ∈ addZ m e v, q.2.natAbs ≤ C * (k + 1) := fun q hq => by
  rw [Nat.mul_succ]
  unfold addZ at hq
  rcases putZ_mem hq with w | rfl
  · have := h q w; omega
  · show ((getZ m e).getD 0 + v).natAbs ≤ _
    have z : ((getZ m e).getD 0).natAbs ≤ C * k := by
      cases g : getZ m e with
      | none => exact Nat.zero_le _
      | some x => exact h _ (getZ_mem g)
    have := Int.natAbs_add_le ((getZ m e).getD 0) v
    omega
theorem joinZ_le {C : Nat} : ∀ {l m : ZM} {k : Nat}, (∀ q ∈ m, q.2.natAbs ≤ C * k) → (∀ q ∈ l, q.2.natAbs ≤ C) → ∀ q ∈ joinZ m l, q.2.natAbs ≤ C * (k + l.length)
  | [], _, k, h, _ => h
  | p :: l, m, k, h, hl => by
    have z := joinZ_le (l := l) (addZ_mem (e := p.1) h (hl p (List.mem_cons_self ..))) fun q hq => hl q (List.mem_cons_of_mem _ hq)
    intro q hq
    have := z q hq
    rw [List.length_cons, show k + (l.length + 1) = k + 1 + l.length by omega]
    exact this
theorem joinZ_key {R : Ex → Prop} : ∀ {l m : ZM}, (∀ q ∈ m, R q.1) → (∀ q ∈ l, R q.1) → ∀ q ∈ joinZ m l, R q.1
  | [], _, h, _ => h
  | p :: l, m, h, hl => joinZ_key (l := l) (fun q hq => by
      rcases putZ_mem hq with w | rfl
      · exact h q w
      · exact hl p (List.mem_cons_self ..)) fun q hq => hl q (List.mem_cons_of_mem _ hq)
/-- what is joined, and its zeros left out -/
theorem ZB.join {n E C : Nat} {l : ZM} (k : ∀ q ∈ l, q.1.length = n ∧ ∀ k ∈ q.1, k ≤ E) (s : ∀ q ∈ l, q.2.natAbs ≤ C) (few : l.length < 64) : ZB n E (C * l.length) (nzZ (joinZ [] l)) := by
  refine ⟨nzZ_nd (joinZ_nd l), ?_, fun q hq => joinZ_key (m := []) (R := fun e => e.length = n ∧ ∀ k ∈ e, k ≤ E) (fun q hq => nomatch hq) k q (List.mem_filter.mp hq).1, fun q hq => ?_⟩
  · have := nzZ_len (joinZ [] l)
    have := joinZ_len l []
    rw [List.length_nil] at this
    omega
  · have := joinZ_le (C := C) (k := 0) (m := []) (fun q hq => nomatch hq) s q (List.mem_filter.mp hq).1
    rw [Nat.zero_add] at this
    exact this
theorem nzj_eqp (l : ZM) : Eqp (toQ (nzZ (joinZ [] l))) (toQ l) := by
  rw [toQ_nz, toQ_join]
  exact (nz_eqp _).trans (join_eqp _)
theorem nzZ_NZ (m : ZM) : NZ (toQ (nzZ m)) := by rw [toQ_nz]; exact nz_NZ _
theorem nzZ_take_true {m : ZM} {i : Nat} {p : Ex × Int} (h : m[i]? = some p) (hp : p.2 ≠ 0) : nzZ (m.take (i + 1)) = nzZ (m.take i) ++ [p] := by
  unfold nzZ
  rw [List.take_add_one, h, List.filter_append]
  show _ ++ List.filter _ [p] = _
  rw [List.filter_cons, if_pos (decide_eq_true hp)]; rfl
theorem nzZ_take_false {m : ZM} {i : Nat} {p : Ex × Int} (h : m[i]? = some p) (hp : p.2 = 0) : nzZ (m.take (i + 1)) = nzZ (m.take i) := by
  unfold nzZ
  rw [List.take_add_one, h, List.filter_append]
  show _ ++ List.filter _ [p] = _
  rw [List.filter_cons, if_neg (by rw [decide_eq_true_iff]; exact fun z => z hp), List.filter_nil, List.append_nil]
theorem mulZ_pb {n Ea Eb C D : Nat} {a b : ZM} (ka : ∀ q ∈ a, q.1.length = n ∧ ∀ k ∈ q.1, k ≤ Ea) (kb : ∀ q ∈ b, q.1.length = n ∧ ∀ k ∈ q.1, k ≤ Eb) (sa : ∀ q ∈ a, q.2.natAbs ≤ C) (sb : ∀ q ∈ b, q.2.natAbs ≤ D) : (∀ q ∈ mulZ a b, q.1.length = n ∧ ∀ k ∈ q.1, k ≤ Ea + Eb) ∧ ∀ q ∈ mulZ a b, q.2.natAbs ≤ C * D := by
  constructor
  · intro q hq
    obtain ⟨x, hx, hq⟩ := List.mem_flatMap.mp hq
    obtain ⟨y, hy, rfl⟩ := List.mem_map.mp hq
    have hp : (plE x.1 y.1, (0 : Rat)) ∈ mulM [(x.1, 0)] [(y.1, 0)] := by
      show _ ∈ List.flatMap _ _
      refine List.mem_flatMap.mpr ⟨_, List.mem_singleton.mpr rfl, List.mem_map.mpr ⟨_, List.mem_singleton.mpr rfl, ?_⟩⟩
      show (plE x.1 y.1, (0 : Rat) * 0) = _
      rw [Rat.zero_mul]
    have z := PB.mul (n := n) (E := Ea) (F := Eb) (D := 1) (G := 1) (B := 0) (C := 0) (a := [(x.1, 0)]) (b := [(y.1, 0)]) (fun p hp => by rw [List.mem_singleton.mp hp]; exact ⟨(ka x hx).1, (ka x hx).2, by decide, 0, Nat.le_refl _, rfl⟩) (fun p hp => by rw [List.mem_singleton.mp hp]; exact ⟨(kb y hy).1, (kb y hy).2, by decide, 0, Nat.le_refl _, rfl⟩) _ hp
    exact ⟨z.1, z.2.1⟩
  · intro q hq
    obtain ⟨x, hx, hq⟩ := List.mem_flatMap.mp hq
    obtain ⟨y, hy, rfl⟩ := List.mem_map.mp hq
    show (x.2 * y.2).natAbs ≤ _
    rw [Int.natAbs_mul]
    exact Nat.mul_le_mul (sa x hx) (sb y hy)
theorem mulZ_prefix {a b : ZM} {i j : Nat} {p : Ex × Int} (h : a[i]? = some p) : (mulZ (a.take i) b ++ (rowZ p b).take j).length ≤ a.length * b.length := by
  have e : mulZ (a.take (i + 1)) b = mulZ (a.take i) b ++ rowZ p b := mulZ_take h
  have l1 := mulZ_len (a.take (i + 1)) b
  rw [e, List.length_append, List.length_take] at l1
  rw [List.length_append, List.length_take]
  have := Nat.mul_le_mul_right b.length (Nat.min_le_right (i + 1) a.length)
  omega
/-- _law_poly_times(one, two) -/
def spPt : Sp := fun vs H Q _ => ∃ (x y : Addr) (a b : ZM) (n Ea Eb C D : Nat), vs = [.ref x, .ref y] ∧ x ≠ y ∧ DicZ H x a ∧ DicZ H y b ∧ ZB n Ea C a ∧ ZB n Eb D b ∧ n ≤ 80 ∧ a.length * b.length < 64 ∧ C < 2 ^ 60 ∧ D < 2 ^ 60 ∧
  ∀ d H', H d = none → Same H H' → DicZ H' d (nzZ (joinZ [] (mulZ a b))) → Q (.ref d) H'
theorem dz_len {H : Hp} {a : Addr} {m : ZM} (D : DicZ H a m) : ∃ kvs, H a = some (.dT kvs) := ⟨_, D⟩
theorem wide60 {x : Int} {C : Nat} (h : x.natAbs ≤ C) (hC : C < 2 ^ 60) : x.natAbs < 2 ^ 60 := Nat.lt_of_le_of_lt h hC
theorem at_Z {m : ZM} {i : Nat} {k : List L2.Key} {v : V} (h : (m.map entZ)[i]? = some (k, v)) : ∃ p : Ex × Int, m[i]? = some p ∧ k = keyL p.1 ∧ v = .int p.2 := by
  rw [List.getElem?_map] at h
  cases e : m[i]? with
  | none => rw [e] at h; cases h
  | some p => rw [e] at h; cases h; exact ⟨p, rfl, rfl, rfl⟩
theorem getZ_V (m : ZM) (e : Ex) : ((getZ m e).map V.int).getD (V.int 0) = V.int ((getZ m e).getD 0) := by cases getZ m e <;> rfl
theorem ents_Z {H : Hp} {ts : List Addr} {m : ZM} (h : Paired (IntAt H) ts m) : Paired (fun p (kv : List L2.Key × V) => ∃ b, H p = some (.tup [.ref b, kv.2]) ∧ H b = some (.tup (kv.1.map kV))) ts (m.map entZ) := by
  induction h with
  | nil => exact .nil
  | @cons b e ts m hd _ ih =>
    obtain ⟨k, w1, w2⟩ := hd
    exact .cons ⟨k, w1, keyAt_L w2⟩ ih
theorem keys_Z (m : ZM) : (m.map entZ).map (·.1) = (m.map (·.1)).map keyL := by
  rw [List.map_map, List.map_map]; rfl

abbrev st_law_poly_times : Stmt := top 47
theorem sc_law_poly_times : FnScope ["_law_one", "_law_two", "_law_found", "_law_first", "_law_second", "_law_key", "_law_a", "_law_b"] ["_law_one", "_law_two"] (defScope st_law_poly_times) := ⟨rfl, rfl, rfl, by decide +kernel, rfl, by decide +kernel, by decide +kernel⟩
theorem ok_law_poly_times (B : Blt mg)  {f_law_poly_times : Addr} {fd_law_poly_times : FuncData} (D_law_poly_times : DefAt K mg "_law_poly_times" st_law_poly_times ["_law_one", "_law_two"] f_law_poly_times fd_law_poly_times) : FnOk P w K mg base CX0 1 f_law_poly_times fd_law_poly_times ["_law_one", "_law_two"] spPt := by
  refine D_law_poly_times.F.ok sc_law_poly_times (fun vs H Q E h => ?_) (fun cdv A outer s H vs Q E hr h => ?_)
  · obtain ⟨x, y, a, b, n, Ea, Eb, C, D0, rfl, _⟩ := h; rfl
  · have hu := hu_of hr
    refine ⟨_, (pss_cons (ps_set (i := 2) sc_law_poly_times.nd rfl (Or.inr rfl) pe_dnewT)
    (pss_cons (ps_lock (ps_for PassesOwn.never rfl (pi_keys (pv 0)) (pg_name (i := 3) sc_law_poly_times.nd rfl (Or.inl rfl))
      (pss_one (ps_lock (ps_for PassesOwn.never rfl (pi_keys (pv 1)) (pg_name (i := 4) sc_law_poly_times.nd rfl (Or.inl rfl))
      (pss_cons (ps_set (i := 5) sc_law_poly_times.nd rfl (Or.inl rfl) (pe_callTy call_tuple_of (by rfl) B.tuple_ (by decide +kernel) (pa_cons (pe_lc (own := [("_law_a", 6), ("_law_b", 7)]) (g := gTup K 2 (gCons (gName 6) (gCons (gName 7) gNil))) (tt := tYes) rfl sc_law_poly_times.nd (pi_zipA (by rfl) B.zip_ (pa_cons (pv 3) (pa_cons (pv 4) pa_nil))) (blkOk_by (own := [("_law_a", 6), ("_law_b", 7)]) (N := ["_law_one", "_law_two", "_law_found", "_law_first", "_law_second", "_law_key", "_law_a", "_law_b"]) (sc := defScope st_law_poly_times) (by decide +kernel)) (fun _ _ _ _ _ => (pg_tup rfl (pgs_cons (pg_name (i := 6) sc_law_poly_times.nd rfl (Or.inl rfl)) (pgs_cons (pg_name (i := 7) sc_law_poly_times.nd rfl (Or.inl rfl)) pgs_nil)))) (fun _ _ _ _ _ => pts_nil) (fun _ _ _ _ _ => (pe_op op_add (pv 6) (pv 7)))) pa_nil)))
    (pss_one (ps_dput hu (pv 2) (pv 5) (pe_op op_add (pe_dget2 hu (pv 2) (pv 5) pe_int ⟨rfl, rfl, rfl, rfl⟩) (pe_op op_mulW (pe_dget hu (pv 0) (pv 3) (fun _ _ => rfl)) (pe_dget hu (pv 1) (pv 4) (fun _ _ => rfl)))) rfl))))))))
    (pss_one (ps_ret (pe_callTy (cr_dictT rfl hr.units) (by rfl) B.dict_ (by decide +kernel) (pa_cons (pe_lock (pe_lc (own := [("_law_key", 5)]) (g := gName 5) rfl sc_law_poly_times.nd (pi_keys (pv 2)) (blkOk_by (own := [("_law_key", 5)]) (N := ["_law_one", "_law_two", "_law_found", "_law_first", "_law_second", "_law_key", "_law_a", "_law_b"]) (sc := defScope st_law_poly_times) (by decide +kernel)) (fun _ _ _ _ _ => pg_name (i := 5) sc_law_poly_times.nd rfl (Or.inl rfl)) (fun _ _ _ _ _ => (pts_one (pt_cmpR op_ne (pe_dget hu (pv 2) (pv 5) (fun _ _ => rfl)) pe_int (nomark _)))) (fun _ _ _ _ _ => (pe_tup (pa_cons (pv 5) (pa_cons (pe_dget hu (pv 2) (pv 5) (fun _ _ => rfl)) pa_nil)))))) pa_nil)))))), ?_⟩
    obtain ⟨x, y, a, b, n, Ea, Eb, C, D0, rfl, nxy, hx, hy, za, zb, hn, few, hC, hD0, q⟩ := h
    have hks : H x = some (.dT (a.map entZ)) := hx
    have hjs : H y = some (.dT (b.map entZ)) := hy
    have fa := za.len
    have fb := zb.len
    refine fun d none0 => ?_
    have nl := AL.Same.new (o := .dT []) none0
    have xl : x ≠ d := ne_of_none hks none0
    have yl : y ≠ d := ne_of_none hjs none0
    have tup0 : ∀ c ys, H c = some (.tup ys) → c ≠ x ∧ c ≠ y := fun c ys w => ⟨fun e => (by rw [e, hks] at w; cases w), fun e => (by rw [e, hjs] at w; cases w)⟩
    refine ⟨x, _, nl _ _ hks, trivial, fun od => ?_⟩
    refine ⟨_, rfl, x, od, rfl, .inr ⟨_, upd_same, for_it (walk_keysT (d := x) (o := od) (kvs := a.map entZ)) (fun i σ H' => ∃ v1 v2 v3 : Option V, σ = [some (.ref x), some (.ref y), some (.ref d), v1, v2, v3, none, none] ∧ H' x = some (.frz od (.dT (a.map entZ))) ∧ (∀ c o, c ≠ x → H c = some o → H' c = some o) ∧ DicZ H' d (joinZ [] (mulZ (a.take i) b))) ⟨none, none, none, rfl, upd_same, (fun c o w1 w2 => by rw [upd_ne w1]; exact nl _ _ w2), Eq.trans (upd_ne xl.symm) upd_same⟩ (fun i σ H' _ hh => let ⟨_, _, _, _, h, _⟩ := hh; h) ?_ ?_⟩⟩
    · rintro i w σ H1 H1' hi ⟨v1, v2, v3, rfl, fx, k1, z1⟩ ⟨rfl, kL, v, kq, hkv, rfl, hkq⟩
      obtain ⟨p, hp, rfl, rfl⟩ := at_Z hkv
      have katp := key_of_L7 hkq
      have gp := getZ_of za.nd (List.mem_of_getElem? hp)
      have p1 := (za.key p (List.mem_of_getElem? hp)).1
      have sp1 := wide60 (za.sz p (List.mem_of_getElem? hp)) hC
      have hy1 := k1 _ _ nxy.symm hjs
      refine ⟨y, _, hy1, trivial, fun od2 => ?_⟩
      have tu := upd_tups (o := .frz od2 (.dT (b.map entZ))) hy1 (fun _ z => nomatch z)
      have lne : d ≠ y := yl.symm
      refine ⟨_, rfl, y, od2, rfl, .inr ⟨_, upd_same, for_it (walk_keysT (d := y) (o := od2) (kvs := b.map entZ)) (fun j σ H' => ∃ v2 v3 : Option V, σ = [some (.ref x), some (.ref y), some (.ref d), some (.ref kq), v2, v3, none, none] ∧ H' y = some (.frz od2 (.dT (b.map entZ))) ∧ H' x = some (.frz od (.dT (a.map entZ))) ∧ (∀ c o, c ≠ x → c ≠ y → H c = some o → H' c = some o) ∧ KeyAt H' kq p.1 ∧ DicZ H' d (joinZ [] (mulZ (a.take i) b ++ (rowZ p b).take j))) ⟨v2, v3, rfl, upd_same, (by rw [upd_ne nxy]; exact fx), (fun c o w1 w2 w3 => by rw [upd_ne w2]; exact k1 _ _ w1 w3), tu _ _ katp, by rw [List.take_zero, List.append_nil]; exact Eq.trans (upd_ne lne) z1⟩ (fun i σ H' _ hh => let ⟨_, _, _, h, _⟩ := hh; h) ?_ ?_⟩⟩
      · rintro j w2 σ H2 H2' hj ⟨v2, v3, rfl, fy, fx2, k2, katp2, z2⟩ ⟨rfl, kL2, vv2, kq2, hkv2, rfl, hkq2⟩
        obtain ⟨o, ho, rfl, rfl⟩ := at_Z hkv2
        have kato := key_of_L7 hkq2
        have go := getZ_of zb.nd (List.mem_of_getElem? ho)
        have p2 := (zb.key o (List.mem_of_getElem? ho)).1
        have so1 := wide60 (zb.sz o (List.mem_of_getElem? ho)) hD0
        have rj : (rowZ p b)[j]? = some (plE p.1 o.1, p.2 * o.2) := by unfold rowZ; rw [List.getElem?_map, ho]; rfl
        have ll : (ki p.1).length = (ki o.1).length := by rw [len_ki, len_ki, p1, p2]
        have le60 : (ki p.1).length ≤ 90 := by rw [len_ki, p1]; omega
        have lpre := mulZ_prefix (b := b) (j := j) hp
        refine ⟨_, rfl, _, rfl, _, _, _, _, rfl, .inr ⟨SqT.of katp2, SqT.of kato, fun D' hD => ?_⟩⟩
        refine lc_it (walk_zipT (K := K) (a := kq) (b := kq2) (xs := (ki p.1).map V.int) (ys := (ki o.1).map V.int) (n := (ki p.1).length) (by rw [List.length_map, List.length_map]; omega)) (fun i H' => Same H2' H' ∧ H' D' = some (.lst (((List.zipWith (· + ·) (ki p.1) (ki o.1)).take i).map V.int))) ⟨AL.Same.new hD, upd_same⟩ (fun i H' _ hh => ⟨SqT.of (hh.1 _ _ katp2), SqT.of (hh.1 _ _ kato)⟩) ?_ ?_
        · rintro i x0 H0 H1x hi ⟨s0, hd0⟩ ⟨T0, u1, u2, rfl, hT, rfl, e1, e2⟩
          obtain ⟨z1', c1, rfl⟩ := map_int e1
          obtain ⟨z2', c2, rfl⟩ := map_int e2
          have hDT : D' ≠ T0 := fun z => by rw [z, hT] at hd0; cases hd0
          have sT : Same H2' (upd H0 T0 (.tup [.int z1', .int z2'])) := s0.trans (AL.Same.new hT)
          refine ⟨T0, _, rfl, SqT.of upd_same, rfl, _, _, rfl, _, _, rfl, rfl, rfl, ?_⟩
          refine ⟨_, rfl, _, rfl, _, _, rfl, rfl, _, Eq.trans (upd_ne hDT) hd0, ?_, AL.Same.updn sT hD, ?_⟩
          · rw [List.length_map, List.length_take]
            exact Nat.lt_of_le_of_lt (by omega : _ ≤ 100) (by decide)
          · rw [upd_same, List.take_add_one, List.getElem?_zipWith, c1, c2]
            simp
        · rintro H3 ⟨s3, hd3⟩
          rw [List.take_of_length_le (by rw [List.length_zipWith]; omega), plE_ki] at hd3
          refine ⟨D', _, rfl, .inl ⟨SqL.of hd3, fun kk hkk => ?_⟩⟩
          have n4 := AL.Same.new (o := .tup ((ki (plE p.1 o.1)).map V.int)) hkk
          have s4 := s3.trans n4
          have hkk4 : KeyAt (upd H3 kk (.tup ((ki (plE p.1 o.1)).map V.int))) kk (plE p.1 o.1) := upd_same
          generalize upd H3 kk (.tup ((ki (plE p.1 o.1)).map V.int)) = H4 at n4 s4 hkk4 ⊢
          have z4 := z2.same s4
          have dga := dz_rd (.inr ⟨od, s4 _ _ fx2⟩) (s4 _ _ katp2)
          have dgb := dz_rd (.inr ⟨od2, s4 _ _ fy⟩) (s4 _ _ kato)
          rw [gp] at dga
          rw [go] at dgb
          refine ⟨_, rfl, d, rfl, .inr ⟨_, .inl z4⟩, _, rfl, _, dz_get z4 hkk4, ?_⟩
          rw [getZ_V]
          refine ⟨_, rfl, _, rfl, x, _, rfl, dga, _, rfl, _, rfl, y, _, rfl, dgb, _, _, rfl, rfl, wide_mul (a := 60) (b := 60) sp1 so1 (by decide) (by decide) (by decide), _, _, rfl, rfl, ?_⟩
          refine ⟨_, rfl, _, rfl, d, _, rfl, dz_put z4 hkk4 ?_, ?_⟩
          · have := joinZ_len (mulZ (a.take i) b ++ (rowZ p b).take j) []
            rw [List.length_nil] at this
            exact Nat.lt_of_le_of_lt (by omega : _ ≤ 1000) (by decide)
          have ts7 := upd_tups (o := .dT ((putZ (joinZ [] (mulZ (a.take i) b ++ (rowZ p b).take j)) (plE p.1 o.1) ((getZ (joinZ [] (mulZ (a.take i) b ++ (rowZ p b).take j)) (plE p.1 o.1)).getD 0 + p.2 * o.2)).map entZ)) z4 (fun _ z => nomatch z)
          refine ⟨_, _, rfl, ?_, ?_, (fun c o w1 w2 w3 => ?_), ts7 _ _ (s4 _ _ katp2), ?_⟩
          · rw [upd_ne yl]; exact s4 _ _ fy
          · rw [upd_ne xl]; exact s4 _ _ fx2
          · rw [upd_ne (ne_of_none w3 none0)]; exact s4 _ _ (k2 _ _ w1 w2 w3)
          · rw [joinZ_app rj]
            exact upd_same
      · rintro σ H2 ⟨v2, v3, rfl, fy, fx2, k2, katp2, z2⟩
        rw [List.length_map, show b.length = (rowZ p b).length by unfold rowZ; rw [List.length_map], List.take_length] at z2
        refine ⟨fy, _, _, _, rfl, by rw [upd_ne nxy]; exact fx2, (fun c o w1 w3 => ?_), by rw [mulZ_take hp]; exact Eq.trans (upd_ne lne) z2⟩
        by_cases e : c = y
        · subst e
          rw [hjs] at w3
          rw [upd_same, w3]
        · rw [upd_ne e]; exact k2 _ _ w1 e w3
    · rintro σ H1 ⟨v1, v2, v3, rfl, fx, k1, z1⟩
      rw [List.length_map, List.take_length] at z1
      refine ⟨fx, ?_⟩
      have s0 : Same H (upd H1 x (.dT (a.map entZ))) := fun c o w => by
        by_cases e : c = x
        · subst e
          rw [hks] at w
          rw [upd_same, w]
        · rw [upd_ne e]; exact k1 _ _ e w
      have hz9 : DicZ (upd H1 x (.dT (a.map entZ))) d (joinZ [] (mulZ a b)) := Eq.trans (upd_ne xl.symm) z1
      have ndz := joinZ_nd (mulZ a b)
      have lz9 := joinZ_len (mulZ a b) []
      rw [List.length_nil, mulZ_len] at lz9
      generalize upd H1 x (.dT (a.map entZ)) = HZ at s0 hz9 ⊢
      clear z1 k1 fx
      refine ⟨d, _, hz9, trivial, fun od => ?_⟩
      have tu := upd_tups (o := .frz od (.dT ((joinZ [] (mulZ a b)).map entZ))) hz9 (fun _ z => nomatch z)
      have fz : upd HZ d (.frz od (.dT ((joinZ [] (mulZ a b)).map entZ))) d = some (.frz od (.dT ((joinZ [] (mulZ a b)).map entZ))) := upd_same
      have hof : ∀ c9 o9, H c9 = some o9 → upd HZ d (.frz od (.dT ((joinZ [] (mulZ a b)).map entZ))) c9 = some o9 := fun c9 o9 w => by rw [upd_ne (ne_of_none w none0)]; exact s0 _ _ w
      generalize upd HZ d (.frz od (.dT ((joinZ [] (mulZ a b)).map entZ))) = HF at tu fz hof ⊢
      refine ⟨_, rfl, d, od, rfl, .inr ⟨_, fz, fun D' hD => ?_⟩⟩
      refine lc_it (walk_keysT (d := d) (o := od) (kvs := (joinZ [] (mulZ a b)).map entZ)) (fun i H' => Same HF H' ∧ ∃ ts' : List Addr, H' D' = some (.lst (ts'.map V.ref)) ∧ Paired (IntAt H') ts' (nzZ ((joinZ [] (mulZ a b)).take i))) ⟨AL.Same.new hD, [], upd_same, .nil⟩ (fun i H' _ hh => hh.1 _ _ fz) ?_ ?_
      · rintro i y H4 H4' hi ⟨s4, ts', hD4, en4⟩ ⟨rfl, kL, v, kq, hkv, rfl, hkq⟩
        obtain ⟨p, hp, rfl, rfl⟩ := at_Z hkv
        have kat := key_of_L7 hkq
        have dg := dz_rd (.inr ⟨od, s4 _ _ fz⟩) kat
        rw [getZ_of ndz (List.mem_of_getElem? hp)] at dg
        refine ⟨rfl, ?_⟩
        refine ⟨_, rfl, _, rfl, d, _, rfl, dg, rfl, _, rfl, ?_⟩
        by_cases h0 : p.2 = 0
        · rw [show (!decide (V.int p.2 = V.int 0)) = false by rw [h0, decide_eq_true rfl]; rfl]
          refine iteF ?_
          refine ⟨s4, ts', hD4, ?_⟩
          rw [nzZ_take_false hp h0]
          exact en4
        · rw [show (!decide (V.int p.2 = V.int 0)) = true by rw [decide_eq_false (fun w => h0 (by injection w))]; rfl]
          refine iteT ?_
          refine ⟨_, rfl, _, rfl, _, rfl, d, _, rfl, dg, (by show 2 ≤ sizeLine; decide), fun t5 ht5 => ?_⟩
          have n5 := AL.Same.new (o := .tup [.ref kq, .int p.2]) ht5
          have hD5 := n5 _ _ hD4
          have ts5 := upd_tups (o := .lst (ts'.map V.ref ++ [V.ref t5])) hD5 (fun _ z => nomatch z)
          refine ⟨_, hD5, ?_, AL.Same.updn (s4.trans n5) hD, ts' ++ [t5], by rw [upd_same, List.map_append]; rfl, ?_⟩
          · have := prd_len en4
            have := nzZ_len (((joinZ [] (mulZ a b))).take i)
            rw [List.length_take] at this
            rw [List.length_map]
            exact Nat.lt_of_le_of_lt (by omega : _ ≤ 1000) (by decide)
          · rw [nzZ_take_true hp h0]
            exact prd_snoc (paired_mono en4 fun _ _ w => (w.same n5).tups ts5) ⟨kq, ts5 _ _ upd_same, ts5 _ _ (n5 _ _ kat)⟩
      rintro H4 ⟨s4, ts', hD4, en4⟩
      rw [List.length_map, List.take_length] at en4
      have ts5 := upd_tups (o := .dT ((joinZ [] (mulZ a b)).map entZ)) (s4 _ _ fz) (fun _ z => nomatch z)
      have nDd : D' ≠ d := fun w => by rw [w] at hD4; rw [s4 _ _ fz] at hD4; cases hD4
      have s5 : Same H (upd H4 d (.dT ((joinZ [] (mulZ a b)).map entZ))) := fun c9 o9 w => by rw [upd_ne (ne_of_none w none0)]; exact s4 _ _ (hof _ _ w)
      have hD5 : upd H4 d (.dT ((joinZ [] (mulZ a b)).map entZ)) D' = some (.lst (ts'.map V.ref)) := by rw [upd_ne nDd]; exact hD4
      have en5 := ents_Z (paired_mono en4 fun _ _ w => w.tups ts5)
      generalize upd H4 d (.dT ((joinZ [] (mulZ a b)).map entZ)) = H5 at *
      refine ⟨s4 _ _ fz, D', ts', _, rfl, hD5, by rw [keys_Z]; exact nodup_L (nzZ_nd ndz), en5, fun p hp => ?_⟩
      have np := AL.Same.new (o := .dT ((nzZ (joinZ [] (mulZ a b))).map entZ)) hp
      exact q p _ (none_back s5 hp) (s5.trans np) upd_same
end
end AL
set_option Elab.async false
set_option maxRecDepth 100000
set_option exponentiation.threshold 70000
set_option maxHeartbeats 1000000
namespace AL
open PySem PySem.Spec PyProof.Rows L2 RZ
section
variable {P : Program} {w : World} {K : PySem.W.Frag} {mg : Str → Option Value} {base : Heap}

def leftZ (js : List Nat) (a : ZM) : ZM := a.map fun p => (zeroE js p.1, p.2)
theorem toQ_left (js : List Nat) (a : ZM) : toQ (leftZ js a) = outL js (toQ a) := by
  unfold toQ leftZ outL
  rw [List.map_map, List.map_map]; rfl
theorem leftZ_len (js : List Nat) (a : ZM) : (leftZ js a).length = a.length := List.length_map _
theorem leftZ_take {js : List Nat} {a : ZM} {i : Nat} {p : Ex × Int} (h : a[i]? = some p) : leftZ js (a.take (i + 1)) = leftZ js (a.take i) ++ [(zeroE js p.1, p.2)] := by
  unfold leftZ
  rw [List.take_add_one, h, List.map_append]; rfl
theorem joinZ_snoc (L : ZM) (q : Ex × Int) : joinZ [] (L ++ [q]) = addZ (joinZ [] L) q.1 q.2 := by
  unfold joinZ
  rw [List.foldl_append]; rfl
/-- _law_left_out(poly, letters) -/
def spLo : Sp := fun vs H Q _ => ∃ (x l : Addr) (a : ZM) (n E C : Nat) (js : List Nat), vs = [.ref x, .ref l] ∧ DicZ H x a ∧ ZB n E C a ∧ H l = some (.lst ((zN js).map V.int)) ∧ js.length ≤ 100 ∧ n ≤ 80 ∧
  ∀ d H', H d = none → Same H H' → DicZ H' d (nzZ (joinZ [] (leftZ js a))) → Q (.ref d) H'

abbrev st_law_left_out : Stmt := top 57
theorem sc_law_left_out : FnScope ["_law_poly", "_law_letters", "_law_found", "_law_key", "_law_one", "_law_j"] ["_law_poly", "_law_letters"] (defScope st_law_left_out) := ⟨rfl, rfl, rfl, by decide +kernel, rfl, by decide +kernel, by decide +kernel⟩
theorem ok_law_left_out (B : Blt mg)  {f_law_left_out : Addr} {fd_law_left_out : FuncData} (D_law_left_out : DefAt K mg "_law_left_out" st_law_left_out ["_law_poly", "_law_letters"] f_law_left_out fd_law_left_out) : FnOk P w K mg base CX0 1 f_law_left_out fd_law_left_out ["_law_poly", "_law_letters"] spLo := by
  refine D_law_left_out.F.ok sc_law_left_out (fun vs H Q E h => ?_) (fun cdv A outer s H vs Q E hr h => ?_)
  · obtain ⟨x, l, a, n, E0, C, js, rfl, _⟩ := h; rfl
  · have hu := hu_of hr
    refine ⟨_, (pss_cons (ps_set (i := 2) sc_law_left_out.nd rfl (Or.inr rfl) pe_dnewT)
    (pss_cons (ps_lock (ps_for PassesOwn.never rfl (pi_keys (pv 0)) (pg_name (i := 3) sc_law_left_out.nd rfl (Or.inr rfl))
      (pss_cons (ps_set (i := 4) sc_law_left_out.nd rfl (Or.inl rfl) (pe_callTy call_tuple_of (by rfl) B.tuple_ (by decide +kernel) (pa_cons (pe_lc (own := [("_law_j", 5)]) (g := gName 5) (tt := tYes) rfl sc_law_left_out.nd (pi_range1 rfl B.range_ (pa_cons (pe_callB call_len_seq (by rfl) B.len_ (by decide +kernel) (pa_cons (pv 3) pa_nil)) pa_nil)) (blkOk_by (own := [("_law_j", 5)]) (N := ["_law_poly", "_law_letters", "_law_found", "_law_key", "_law_one", "_law_j"]) (sc := defScope st_law_left_out) (by decide +kernel)) (fun _ _ _ _ _ => pg_name (i := 5) sc_law_left_out.nd rfl (Or.inl rfl)) (fun _ _ _ _ _ => pts_nil) (fun _ _ _ _ _ => (pe_ifExp (pt_cmpR (op_in_seq : OpR _ _ (rIn K false)) (pv 5) (pv 1) rfl) pe_int (pe_ix (ix_tup : IxR _ (rIxT K)) (pv 3) (pv 5) (fun _ _ => rfl))))) pa_nil)))
    (pss_one (ps_dput hu (pv 2) (pv 4) (pe_op op_add (pe_dget2 hu (pv 2) (pv 4) pe_int ⟨rfl, rfl, rfl, rfl⟩) (pe_dget hu (pv 0) (pv 3) (fun _ _ => rfl))) rfl)))))
    (pss_one (ps_ret (pe_callTy (cr_dictT rfl hr.units) (by rfl) B.dict_ (by decide +kernel) (pa_cons (pe_lock (pe_lc (own := [("_law_key", 3)]) (g := gName 3) rfl sc_law_left_out.nd (pi_keys (pv 2)) (blkOk_by (own := [("_law_key", 3)]) (N := ["_law_poly", "_law_letters", "_law_found", "_law_key", "_law_one", "_law_j"]) (sc := defScope st_law_left_out) (by decide +kernel)) (fun _ _ _ _ _ => pg_name (i := 3) sc_law_left_out.nd rfl (Or.inl rfl)) (fun _ _ _ _ _ => (pts_one (pt_cmpR op_ne (pe_dget hu (pv 2) (pv 3) (fun _ _ => rfl)) pe_int (nomark _)))) (fun _ _ _ _ _ => (pe_tup (pa_cons (pv 3) (pa_cons (pe_dget hu (pv 2) (pv 3) (fun _ _ => rfl)) pa_nil)))))) pa_nil)))))), ?_⟩
    obtain ⟨x, l, a, n, E0, C, js, rfl, hx, za, hl, lj, hn, q⟩ := h
    have hks : H x = some (.dT (a.map entZ)) := hx
    have fa := za.len
    refine fun d none0 => ?_
    have nl := AL.Same.new (o := .dT []) none0
    have xl : x ≠ d := ne_of_none hks none0
    have lx : l ≠ x := fun e => by rw [e, hks] at hl; cases hl
    refine ⟨x, _, nl _ _ hks, trivial, fun od => ?_⟩
    refine ⟨_, rfl, x, od, rfl, .inr ⟨_, upd_same, for_it (walk_keysT (d := x) (o := od) (kvs := a.map entZ)) (fun i σ H' => ∃ v1 v2 : Option V, σ = [some (.ref x), some (.ref l), some (.ref d), v1, v2, none] ∧ H' x = some (.frz od (.dT (a.map entZ))) ∧ (∀ c o, c ≠ x → H c = some o → H' c = some o) ∧ DicZ H' d (joinZ [] (leftZ js (a.take i)))) ⟨none, none, rfl, upd_same, (fun c o w1 w2 => by rw [upd_ne w1]; exact nl _ _ w2), Eq.trans (upd_ne xl.symm) upd_same⟩ (fun i σ H' _ hh => let ⟨_, _, _, h, _⟩ := hh; h) ?_ ?_⟩⟩
    · rintro i w σ H1 H1' hi ⟨v1, v2, rfl, fx, k1, z1⟩ ⟨rfl, kL, v, kq, hkv, rfl, hkq⟩
      obtain ⟨p, hp, rfl, rfl⟩ := at_Z hkv
      have katp := key_of_L7 hkq
      have gp := getZ_of za.nd (List.mem_of_getElem? hp)
      have p1 := (za.key p (List.mem_of_getElem? hp)).1
      have ia := (List.getElem?_eq_some_iff.mp hp).1
      have hl1 := k1 _ _ lx hl
      refine ⟨_, rfl, _, _, rfl, .inr (SqT.of katp), _, rfl, (by omega), (by rw [List.length_map, len_ki, p1]; omega), fun D hD => ?_⟩
      refine lc_range (lo := 0) (n := ((((ki p.1).map V.int).length : Int)).toNat) (fun i2 H' => Same H1' H' ∧ H' D = some (.lst ((ki ((zeroE js p.1).take i2)).map V.int))) ⟨AL.Same.new hD, upd_same⟩ ?_ ?_
      · rintro i2 H3 hi2 ⟨s3, hd3⟩
        rw [Int.toNat_natCast, List.length_map, len_ki] at hi2
        have d2 : p.1[i2]? = some p.1[i2] := List.getElem?_eq_getElem hi2
        have me := zeroE_get js d2
        have z0 : (0 : Int) + (i2 : Int) = (i2 : Int) := Int.zero_add _
        refine ⟨rfl, ?_⟩
        refine ⟨_, rfl, _, rfl, l, _, rfl, .inl (SqL.of (s3 _ _ hl1)), rfl, flat_zN js, _, rfl, ?_⟩
        have put : ∀ v : V, v = .int (((if i2 ∈ js then 0 else p.1[i2] : Nat) : Int)) → ∃ acc, H3 D = some (.lst acc) ∧ acc.length < sizeLine ∧ Same H1' (upd H3 D (.lst (acc ++ [v]))) ∧ upd H3 D (.lst (acc ++ [v])) D = some (.lst ((ki ((zeroE js p.1).take (i2 + 1))).map V.int)) := fun v hv => by
          refine ⟨_, hd3, ?_, AL.Same.updn s3 hD, ?_⟩
          · rw [List.length_map, len_ki, List.length_take]
            exact Nat.lt_of_le_of_lt (by omega : _ ≤ 100) (by decide)
          · rw [upd_same, List.take_add_one, me, hv]
            unfold ki
            rw [List.map_append, List.map_append]
            rfl
        rw [z0, inV_zN]
        by_cases hj : i2 ∈ js
        · rw [decide_eq_true hj]
          refine iteT ?_
          exact put _ (by rw [if_pos hj]; rfl)
        · rw [decide_eq_false hj]
          refine iteF ?_
          refine ⟨_, rfl, _, rfl, kq, _, _, _, rfl, rfl, SqT.of (s3 _ _ katp), ?_, put _ (by rw [if_neg hj])⟩
          unfold atI ixN
          rw [List.length_map, len_ki, if_pos (by omega), if_pos (by omega)]
          show (List.map V.int (ki p.1))[((i2 : Int)).toNat]? = _
          rw [Int.toNat_natCast]
          unfold ki
          rw [List.getElem?_map, List.getElem?_map, d2]; rfl
      · rintro H3 ⟨s3, hd3⟩
        rw [List.take_of_length_le (by rw [Int.toNat_natCast, List.length_map, len_ki, zeroE_len]; exact Nat.le_refl _)] at hd3
        refine ⟨D, _, rfl, .inl ⟨SqL.of hd3, fun kk hkk => ?_⟩⟩
        have n4 := AL.Same.new (o := .tup ((ki (zeroE js p.1)).map V.int)) hkk
        have s4 := s3.trans n4
        have hkk4 : KeyAt (upd H3 kk (.tup ((ki (zeroE js p.1)).map V.int))) kk (zeroE js p.1) := upd_same
        generalize upd H3 kk (.tup ((ki (zeroE js p.1)).map V.int)) = H4 at n4 s4 hkk4 ⊢
        have z4 := z1.same s4
        have dga := dz_rd (.inr ⟨od, s4 _ _ fx⟩) (s4 _ _ katp)
        rw [gp] at dga
        refine ⟨_, rfl, d, rfl, .inr ⟨_, .inl z4⟩, _, rfl, _, dz_get z4 hkk4, ?_⟩
        rw [getZ_V]
        refine ⟨_, rfl, _, rfl, x, _, rfl, dga, _, _, rfl, rfl, ?_⟩
        refine ⟨_, rfl, _, rfl, d, _, rfl, dz_put z4 hkk4 ?_, ?_⟩
        · have := joinZ_len (leftZ js (a.take i)) []
          rw [List.length_nil, leftZ_len, List.length_take] at this
          exact Nat.lt_of_le_of_lt (by omega : _ ≤ 1000) (by decide)
        refine ⟨_, _, rfl, ?_, (fun c o w1 w3 => ?_), ?_⟩
        · rw [upd_ne xl]; exact s4 _ _ fx
        · rw [upd_ne (ne_of_none w3 none0)]; exact s4 _ _ (k1 _ _ w1 w3)
        · rw [leftZ_take hp, joinZ_snoc]
          exact upd_same
    · rintro σ H1 ⟨v1, v2, rfl, fx, k1, z1⟩
      rw [List.length_map, List.take_length] at z1
      refine ⟨fx, ?_⟩
      have s0 : Same H (upd H1 x (.dT (a.map entZ))) := fun c o w => by
        by_cases e : c = x
        · subst e
          rw [hks] at w
          rw [upd_same, w]
        · rw [upd_ne e]; exact k1 _ _ e w
      have hz9 : DicZ (upd H1 x (.dT (a.map entZ))) d (joinZ [] (leftZ js a)) := Eq.trans (upd_ne xl.symm) z1
      have ndz := joinZ_nd (leftZ js a)
      have lz9 := joinZ_len (leftZ js a) []
      rw [List.length_nil, leftZ_len] at lz9
      generalize upd H1 x (.dT (a.map entZ)) = HZ at s0 hz9 ⊢
      clear z1 k1 fx
      refine ⟨d, _, hz9, trivial, fun od => ?_⟩
      have tu := upd_tups (o := .frz od (.dT ((joinZ [] (leftZ js a)).map entZ))) hz9 (fun _ z => nomatch z)
      have fz : upd HZ d (.frz od (.dT ((joinZ [] (leftZ js a)).map entZ))) d = some (.frz od (.dT ((joinZ [] (leftZ js a)).map entZ))) := upd_same
      have hof : ∀ c9 o9, H c9 = some o9 → upd HZ d (.frz od (.dT ((joinZ [] (leftZ js a)).map entZ))) c9 = some o9 := fun c9 o9 w => by rw [upd_ne (ne_of_none w none0)]; exact s0 _ _ w
      generalize upd HZ d (.frz od (.dT ((joinZ [] (leftZ js a)).map entZ))) = HF at tu fz hof ⊢
      refine ⟨_, rfl, d, od, rfl, .inr ⟨_, fz, fun D' hD => ?_⟩⟩
      refine lc_it (walk_keysT (d := d) (o := od) (kvs := (joinZ [] (leftZ js a)).map entZ)) (fun i H' => Same HF H' ∧ ∃ ts' : List Addr, H' D' = some (.lst (ts'.map V.ref)) ∧ Paired (IntAt H') ts' (nzZ ((joinZ [] (leftZ js a)).take i))) ⟨AL.Same.new hD, [], upd_same, .nil⟩ (fun i H' _ hh => hh.1 _ _ fz) ?_ ?_
      · rintro i y H4 H4' hi ⟨s4, ts', hD4, en4⟩ ⟨rfl, kL, v, kq, hkv, rfl, hkq⟩
        obtain ⟨p, hp, rfl, rfl⟩ := at_Z hkv
        have kat := key_of_L7 hkq
        have dg := dz_rd (.inr ⟨od, s4 _ _ fz⟩) kat
        rw [getZ_of ndz (List.mem_of_getElem? hp)] at dg
        refine ⟨rfl, ?_⟩
        refine ⟨_, rfl, _, rfl, d, _, rfl, dg, rfl, _, rfl, ?_⟩
        by_cases h0 : p.2 = 0
        · rw [show (!decide (V.int p.2 = V.int 0)) = false by rw [h0, decide_eq_true rfl]; rfl]
          refine iteF ?_
          refine ⟨s4, ts', hD4, ?_⟩
          rw [nzZ_take_false hp h0]
          exact en4
        · rw [show (!decide (V.int p.2 = V.int 0)) = true by rw [decide_eq_false (fun w => h0 (by injection w))]; rfl]
          refine iteT ?_
          refine ⟨_, rfl, _, rfl, _, rfl, d, _, rfl, dg, (by show 2 ≤ sizeLine; decide), fun t5 ht5 => ?_⟩
          have n5 := AL.Same.new (o := .tup [.ref kq, .int p.2]) ht5
          have hD5 := n5 _ _ hD4
          have ts5 := upd_tups (o := .lst (ts'.map V.ref ++ [V.ref t5])) hD5 (fun _ z => nomatch z)
          refine ⟨_, hD5, ?_, AL.Same.updn (s4.trans n5) hD, ts' ++ [t5], by rw [upd_same, List.map_append]; rfl, ?_⟩
          · have := prd_len en4
            have := nzZ_len (((joinZ [] (leftZ js a))).take i)
            rw [List.length_take] at this
            rw [List.length_map]
            exact Nat.lt_of_le_of_lt (by omega : _ ≤ 1000) (by decide)
          · rw [nzZ_take_true hp h0]
            exact prd_snoc (paired_mono en4 fun _ _ w => (w.same n5).tups ts5) ⟨kq, ts5 _ _ upd_same, ts5 _ _ (n5 _ _ kat)⟩
      rintro H4 ⟨s4, ts', hD4, en4⟩
      rw [List.length_map, List.take_length] at en4
      have ts5 := upd_tups (o := .dT ((joinZ [] (leftZ js a)).map entZ)) (s4 _ _ fz) (fun _ z => nomatch z)
      have nDd : D' ≠ d := fun w => by rw [w] at hD4; rw [s4 _ _ fz] at hD4; cases hD4
      have s5 : Same H (upd H4 d (.dT ((joinZ [] (leftZ js a)).map entZ))) := fun c9 o9 w => by rw [upd_ne (ne_of_none w none0)]; exact s4 _ _ (hof _ _ w)
      have hD5 : upd H4 d (.dT ((joinZ [] (leftZ js a)).map entZ)) D' = some (.lst (ts'.map V.ref)) := by rw [upd_ne nDd]; exact hD4
      have en5 := ents_Z (paired_mono en4 fun _ _ w => w.tups ts5)
      generalize upd H4 d (.dT ((joinZ [] (leftZ js a)).map entZ)) = H5 at *
      refine ⟨s4 _ _ fz, D', ts', _, rfl, hD5, by rw [keys_Z]; exact nodup_L (nzZ_nd ndz), en5, fun p hp => ?_⟩
      have np := AL.Same.new (o := .dT ((nzZ (joinZ [] (leftZ js a))).map entZ)) hp
      exact q p _ (none_back s5 hp) (s5.trans np) upd_same
end
end AL
set_option Elab.async false
set_option maxRecDepth 100000
set_option exponentiation.threshold 70000
set_option maxHeartbeats 1000000
namespace AL
open PySem PySem.Spec PyProof.Rows L2 RZ
section
variable {P : Program} {w : World} {K : PySem.W.Frag} {mg : Str → Option Value} {base : Heap}

def numZ (m : PM) : ZM := m.map fun p => (p.1, p.2.num)
theorem sz1 {B : Nat} {x : Rat} (h : Sz 1 B x) : x.den = 1 ∧ x.num.natAbs ≤ B := by
  obtain ⟨w, hw⟩ := sz_dvd h
  have d1 : x.den = 1 := Nat.eq_one_of_dvd_one ⟨w, hw⟩
  refine ⟨d1, ?_⟩
  have := h.le.1
  rw [Nat.mul_one] at this
  exact this
theorem toQ_num {n E B : Nat} {m : PM} (h : PB n E 1 B m) : toQ (numZ m) = m := by
  unfold toQ numZ
  rw [List.map_map]
  refine (List.map_congr_left fun p hp => ?_).trans (List.map_id m)
  show (p.1, ((p.2.num : Int) : Rat)) = p
  have d1 := (sz1 (h p hp).2.2).1
  refine Prod.ext rfl ?_
  show ((p.2.num : Int) : Rat) = p.2
  have := Rat.mkRat_self p.2
  rw [d1, Rat.mkRat_eq_div] at this
  rw [← this]
  show _ = _ / ((1 : Nat) : Rat)
  grind
theorem numZ_zb {n E B : Nat} {m : PM} (h : Can n E 1 B m) (few : m.length < 64) : ZB n E B (numZ m) := by
  refine ⟨?_, by unfold numZ; rw [List.length_map]; exact few, fun q hq => ?_, fun q hq => ?_⟩
  · have := asc_nodup h.asc
    unfold numZ
    rw [List.map_map]
    exact this
  · obtain ⟨p, hp, rfl⟩ := List.mem_map.mp hq
    exact ⟨(h.pb p hp).1, (h.pb p hp).2.1⟩
  · obtain ⟨p, hp, rfl⟩ := List.mem_map.mp hq
    exact (sz1 (h.pb p hp).2.2).2
theorem putZ_new {m : ZM} {e : Ex} {v : Int} (h : e ∉ m.map (·.1)) : putZ m e v = m ++ [(e, v)] := by
  unfold putZ
  rw [if_neg]
  intro z
  unfold hasZ at z
  rw [List.any_eq_true] at z
  obtain ⟨p, hp, e2⟩ := z
  exact h (List.mem_map.mpr ⟨p, hp, of_decide_eq_true e2⟩)
/-- _law_told_poly(poly, size) -/
def spTp (CP : Addr) : Sp := fun vs H Q _ => ∃ (x : Addr) (n Em B : Nat) (m : PM), vs = [.ref x, .int (n : Int)] ∧ PolyAt CP H x n m ∧ Can n Em 1 B m ∧ m.length < 64 ∧ n ≤ 80 ∧ B < 2 ^ 1000 ∧
  ∀ t d H', Same H H' → H d = none → H' t = some (.tup [.ref d, .int 1]) → DicZ H' d (numZ m) → Q (.ref t) H'

abbrev st_law_told_poly : Stmt := top 49
theorem sc_law_told_poly : FnScope ["_law_poly", "_law_size", "_law_found", "_law_by", "_law_term", "_law_key", "_law_ratio"] ["_law_poly", "_law_size"] (defScope st_law_told_poly) := ⟨rfl, rfl, rfl, by decide +kernel, rfl, by decide +kernel, by decide +kernel⟩
theorem ok_law_told_poly (B : Blt mg) {CPoly CQuotient BZ BN BM UL fZ fN : Addr} {fdZ fdN : FuncData} (Es : ErP K mg CPoly CQuotient BZ BN BM UL fZ fN fdZ fdN) {f_law_gcd : Addr} {fd_law_gcd : FuncData} (D_law_gcd : DefAt K mg "_law_gcd" st_law_gcd ["_law_one", "_law_two"] f_law_gcd fd_law_gcd) {f_law_is_whole : Addr} {fd_law_is_whole : FuncData} (D_law_is_whole : DefAt K mg "_law_is_whole" st_law_is_whole ["_law_value"] f_law_is_whole fd_law_is_whole) {f_law_is_matrix : Addr} {fd_law_is_matrix : FuncData} (D_law_is_matrix : DefAt K mg "_law_is_matrix" st_law_is_matrix ["_law_value", "_law_many", "_law_wide"] f_law_is_matrix fd_law_is_matrix) {f_law_is_ratio : Addr} {fd_law_is_ratio : FuncData} (D_law_is_ratio : DefAt K mg "_law_is_ratio" st_law_is_ratio ["_law_value"] f_law_is_ratio fd_law_is_ratio) {f_law_told_poly : Addr} {fd_law_told_poly : FuncData} (D_law_told_poly : DefAt K mg "_law_told_poly" st_law_told_poly ["_law_poly", "_law_size"] f_law_told_poly fd_law_told_poly) : FnOk P w K mg base CX0 3 f_law_told_poly fd_law_told_poly ["_law_poly", "_law_size"] (spTp CPoly) := by
  have OK_law_gcd : FnOk P w K mg base CX0 1 f_law_gcd fd_law_gcd ["_law_one", "_law_two"] spGcdL := ok_law_gcd B  D_law_gcd
  have OK_law_is_matrix : FnOk P w K mg base CX0 2 f_law_is_matrix fd_law_is_matrix ["_law_value", "_law_many", "_law_wide"] spIm7 := ok_law_is_matrix B  D_law_is_whole D_law_is_matrix
  have OK_law_is_ratio : FnOk P w K mg base CX0 2 f_law_is_ratio fd_law_is_ratio ["_law_value"] spIr7 := ok_law_is_ratio B  D_law_gcd D_law_is_whole D_law_is_ratio
  refine D_law_told_poly.F.ok sc_law_told_poly (fun vs H Q E h => ?_) (fun cdv A outer s H vs Q E hr h => ?_)
  · obtain ⟨x, n, Em, B, m, rfl, _⟩ := h; rfl
  · have hu := hu_of hr
    refine ⟨_, (pss_cons (ps_if (PW.pt (pw_or (pt_not (pt_val (pe_callB call_isi (by rfl) B.isinstance_ (by decide +kernel) (pa_cons (pv 0) (pa_cons (pe_glob (v := .ref CPoly) rfl Es.mP rfl) pa_nil))))) (pw_or (pt_cmpR op_ne (pe_fld (pv 0) rfl) (pv 1) (nomark _)) (pw_or1 (pt_not (pt_val (pe_callB call_isi (by rfl) B.isinstance_ (by decide +kernel) (pa_cons (pe_fld (pv 0) rfl) (pa_cons (pe_bltn (v := .ty "tuple") (by rfl) B.tuple_ PyProof.Rows.Boot.«tuple» rfl) pa_nil))))))))) (pss_one (ps_ret pe_non)) pss_nil)
    (pss_cons (ps_par (i := 2) (j := 3) (by rfl) sc_law_told_poly.nd rfl rfl (by decide) rfl rfl (pa_cons pe_dnewT (pa_cons pe_int pa_nil)) (by rfl))
    (pss_cons (ps_for PassesOwn.never rfl (pi_tup (pe_fld (pv 0) rfl)) (pg_name (i := 4) sc_law_told_poly.nd rfl (Or.inl rfl))
      (pss_cons (ps_if (PW.pt (pw_or (pt_not (pt_val (pe_callB call_isi (by rfl) B.isinstance_ (by decide +kernel) (pa_cons (pv 4) (pa_cons (pe_bltn (v := .ty "tuple") (by rfl) B.tuple_ PyProof.Rows.Boot.«tuple» rfl) pa_nil))))) (pw_or (pt_cmpR op_ne (pe_callB call_len_seq (by rfl) B.len_ (by decide +kernel) (pa_cons (pv 4) pa_nil)) pe_int (nomark _)) (pw_or1 (pt_not (pt_val (pe_call OK_law_is_matrix (hr.mono (by decide)) rfl D_law_is_matrix.m D_law_is_matrix.F.kp D_law_is_matrix.b .nil pass0 (pa_cons (pe_tup (pa_cons (pe_ix ix_tup (pv 4) pe_int (fun _ _ => rfl)) pa_nil)) (pa_cons pe_int (pa_cons (pv 1) pa_nil)))))))))) (pss_one (ps_ret pe_non)) pss_nil)
    (pss_cons (ps_if (pt_not (pt_val (pe_call OK_law_is_ratio (hr.mono (by decide)) rfl D_law_is_ratio.m D_law_is_ratio.F.kp D_law_is_ratio.b .nil pass0 (pa_cons (pe_ix ix_tup (pv 4) pe_int (fun _ _ => rfl)) pa_nil)))) (pss_one (ps_ret pe_non)) pss_nil)
    (pss_one (ps_set (i := 3) sc_law_told_poly.nd rfl (Or.inl rfl) (pe_op op_fdivC (pe_op op_mulW (pv 3) (pe_ix ix_tup (pe_ix ix_tup (pv 4) pe_int (fun _ _ => rfl)) pe_int (fun _ _ => rfl))) (pe_call OK_law_gcd (hr.mono (by decide)) rfl D_law_gcd.m D_law_gcd.F.kp D_law_gcd.b .nil pass0 (pa_cons (pv 3) (pa_cons (pe_ix ix_tup (pe_ix ix_tup (pv 4) pe_int (fun _ _ => rfl)) pe_int (fun _ _ => rfl)) pa_nil)))))))))
    (pss_cons (ps_for PassesOwn.never rfl (pi_tup (pe_fld (pv 0) rfl)) (pg_tup rfl (pgs_cons (pg_name (i := 5) sc_law_told_poly.nd rfl (Or.inl rfl)) (pgs_cons (pg_name (i := 6) sc_law_told_poly.nd rfl (Or.inl rfl)) pgs_nil)))
      (pss_one (ps_dput hu (pv 2) (pv 5) (pe_op op_mulW (pe_ix ix_tup (pv 6) pe_int (fun _ _ => rfl)) (pe_op op_fdivC (pv 3) (pe_ix ix_tup (pv 6) pe_int (fun _ _ => rfl)))) rfl)))
    (pss_one (ps_ret (pe_tup (pa_cons (pv 2) (pa_cons (pv 3) pa_nil))))))))), ?_⟩
    obtain ⟨x, n, Em, B, m, rfl, hx, ca, fm, hn, hB, q⟩ := h
    obtain ⟨dx, T, ts, ex, eT, en⟩ := id hx
    have lm := prd_len en
    refine ⟨_, rfl, _, _, _, _, _, rfl, ClsV.own _, TyX.base (.ins ex Es.cl Es.c1 Es.c2 Es.c3 Es.c4), Es.k1, true, rfl, ?_⟩
    refine iteF ?_
    refine ⟨_, rfl, x, _, dx, _, _, rfl, ex, Es.cl, Es.nS, flP_s _ _, _, rfl, rfl, _, rfl, ?_⟩
    rw [decide_eq_true rfl]
    refine iteF ?_
    refine ⟨_, rfl, x, _, dx, _, _, rfl, ex, Es.cl, Es.nT, flP_t _ _, _, _, _, _, _, rfl, ClsV.ty _, TyX.base (.tup eT), rfl, true, rfl, ?_⟩
    refine iteF ?_
    refine fun d hd => ?_
    have nl := AL.Same.new (o := .dT []) hd
    have z0 : DicZ (upd H d (.dT [])) d [] := upd_same
    generalize upd H d (.dT []) = H0 at nl z0 ⊢
    refine ⟨_, _, rfl, _, rfl, x, _, dx, _, _, rfl, (nl _ _ ex), Es.cl, Es.nT, flP_t _ _, T, rfl, ⟨_, SqT.of (nl _ _ eT)⟩, for_tup (K := K) (a := T) (xs := ts.map V.ref) (fun i σ H' => ∃ v4 v5 v6 : Option V, σ = [some (.ref x), some (.int (n : Int)), some (.ref d), some (.int 1), v4, v5, v6] ∧ Same H H' ∧ DicZ H' d []) ⟨none, none, none, rfl, nl, z0⟩ (fun i σ H' _ hh => by obtain ⟨_, _, _, _, z, _⟩ := hh; exact SqT.of (z _ _ eT)) ?_ ?_⟩
    · rintro i y σ H1 hy ⟨v4, v5, v6, rfl, s1, z1⟩
      obtain ⟨b, hb0, rfl⟩ := map_ref hy
      obtain ⟨p, hp, ent⟩ := prd_get en hb0
      obtain ⟨k, r, hb, hk, hr⟩ := ent.same s1
      have pb := ca.pb p (List.mem_of_getElem? hp)
      obtain ⟨dn, sz⟩ := sz1 pb.2.2
      have bN : B < N6 := Nat.lt_trans hB (by decide +kernel)
      refine ⟨_, rfl, _, _, _, _, _, rfl, ClsV.ty _, TyX.base (.tup hb), rfl, true, rfl, ?_⟩
      refine iteF ?_
      refine ⟨_, rfl, b, _, rfl, .inr (SqT.of hb), rfl, _, rfl, ?_⟩
      refine iteF ?_
      refine ⟨_, rfl, b, _, _, _, rfl, rfl, SqT.of hb, rfl, (by show 1 ≤ sizeLine; decide), fun t1 ht1 => ?_⟩
      have n1 := AL.Same.new (o := .tup [.ref k]) ht1
      refine ⟨_, rfl, t1, k, n, p.1, rfl, upd_same, n1 _ _ hk, pb.1, hn, fun H2 s2 => ⟨true, rfl, ?_⟩⟩
      refine iteF ?_
      have s12 := n1.trans s2
      have hb2 := s12 _ _ hb
      have hr2 : H2 r = some (.tup [.int p.2.num, .int (p.2.den : Int)]) := s12 _ _ hr
      refine ⟨_, rfl, b, _, _, _, rfl, rfl, SqT.of hb2, rfl, r, p.2, rfl, hr2, Nat.lt_of_le_of_lt sz bN, by rw [dn]; decide +kernel, true, rfl, ?_⟩
      refine iteF ?_
      rw [dn] at hr2
      refine ⟨_, rfl, _, rfl, b, _, _, _, rfl, rfl, SqT.of hb2, rfl, r, _, _, _, rfl, rfl, SqT.of hr2, rfl, _, _, rfl, rfl, wide_mul (a := 60) (b := 60) (by decide) (by decide) (by decide) (by decide) (by decide), _, rfl, _, rfl, b, _, _, _, rfl, rfl, SqT.of hb2, rfl, r, _, _, _, rfl, rfl, SqT.of hr2, rfl, 1, 1, rfl, (by decide +kernel), (by decide +kernel), _, _, rfl, rfl, ⟨by decide, .inl (by decide)⟩, ?_⟩
      exact ⟨_, _, _, rfl, s1.trans s12, s12 _ _ z1⟩
    rintro σ H1 ⟨v4, v5, v6, rfl, s1, z1⟩
    refine ⟨_, rfl, x, _, dx, _, _, rfl, (s1 _ _ ex), Es.cl, Es.nT, flP_t _ _, T, rfl, ⟨_, SqT.of (s1 _ _ eT)⟩, for_tup (K := K) (a := T) (xs := ts.map V.ref) (fun i σ H' => ∃ v4 v5 v6 : Option V, σ = [some (.ref x), some (.int (n : Int)), some (.ref d), some (.int 1), v4, v5, v6] ∧ Same H H' ∧ DicZ H' d (numZ (m.take i))) ⟨v4, v5, v6, rfl, s1, z1⟩ (fun i σ H' _ hh => by obtain ⟨_, _, _, _, z, _⟩ := hh; exact SqT.of (z _ _ eT)) ?_ ?_⟩
    · rintro i y σ H2 hy ⟨v4, v5, v6, rfl, s2, z2⟩
      obtain ⟨b, hb0, rfl⟩ := map_ref hy
      obtain ⟨p, hp, ent⟩ := prd_get en hb0
      obtain ⟨k, r, hb, hk, hr⟩ := ent.same s2
      have pb := ca.pb p (List.mem_of_getElem? hp)
      obtain ⟨dn, sz⟩ := sz1 pb.2.2
      have hr2 : H2 r = some (.tup [.int p.2.num, .int (p.2.den : Int)]) := hr
      rw [dn] at hr2
      have il := (List.getElem?_eq_some_iff.mp hp).1
      have nk : p.1 ∉ (numZ (m.take i)).map (·.1) := fun hm => by
        unfold numZ at hm
        rw [List.map_map] at hm
        obtain ⟨p', hp', e'⟩ := List.mem_map.mp hm
        have e' : p'.1 = p.1 := e'
        obtain ⟨j, hj⟩ := List.mem_iff_getElem?.mp hp'
        have jl := (List.getElem?_eq_some_iff.mp hj).1
        rw [List.length_take] at jl
        rw [List.getElem?_take, if_pos (by omega)] at hj
        have nd := asc_nodup ca.asc
        have z1 : (m.map (·.1))[j]? = some p'.1 := by rw [List.getElem?_map, hj]; rfl
        have z2 : (m.map (·.1))[i]? = some p.1 := by rw [List.getElem?_map, hp]; rfl
        rw [e'] at z1
        have := (List.getElem?_inj (by rw [List.length_map]; omega) nd).mp (z1.trans z2.symm)
        omega
      refine ⟨b, _, rfl, SqT.of hb, rfl, _, _, rfl, _, _, rfl, rfl, ?_⟩
      refine ⟨_, rfl, r, _, _, _, rfl, rfl, SqT.of hr2, rfl, _, rfl, _, rfl, r, _, _, _, rfl, rfl, SqT.of hr2, rfl, _, _, rfl, rfl, ⟨by decide, .inl (by decide)⟩, _, _, rfl, rfl, ?_, ?_⟩
      · exact wide_mul (a := 1001) (b := 60) (Nat.lt_of_le_of_lt sz (Nat.lt_trans hB (by decide +kernel))) (by decide) (by decide) (by decide) (by decide)
      refine ⟨_, rfl, _, rfl, d, _, rfl, dz_put z2 hk ?_, _, _, _, rfl, AL.Same.updn s2 hd, ?_⟩
      · unfold numZ
        rw [List.length_map, List.length_take]
        exact Nat.lt_of_le_of_lt (by omega : _ ≤ 100) (by decide)
      · rw [putZ_new nk]
        have e : numZ (m.take (i + 1)) = numZ (m.take i) ++ [(p.1, p.2.num * (Int.fdiv 1 ((1 : Nat) : Int)))] := by
          unfold numZ
          rw [List.take_add_one, hp, List.map_append]
          show _ ++ [(p.1, p.2.num)] = _
          rw [show Int.fdiv 1 ((1 : Nat) : Int) = 1 from rfl, Int.mul_one]
        rw [e]
        exact upd_same
    rintro σ H2 ⟨v4, v5, v6, rfl, s2, z2⟩
    rw [List.length_map, lm, List.take_length] at z2
    refine ⟨_, rfl, _, rfl, (by show 2 ≤ sizeLine; decide), fun t ht => ?_⟩
    have n2 := AL.Same.new (o := .tup [.ref d, .int 1]) ht
    exact q t d _ (s2.trans n2) hd upd_same (z2.same n2)
end
end AL
set_option Elab.async false
set_option linter.all false
set_option maxRecDepth 100000
set_option maxHeartbeats 2000000
/-! d == e of two dicts whose keys are tuples, in whatever order they stand. -/
namespace AL
open PySem PySem.Spec PyProof.Rows L2
section
variable {prog : Program} {w : World} {T : Type} [DecidableEq T] {knd : HeapKind prog w T} {A : Around} {E : Value → Shared → Prop} {s : Shared}
theorem pairsT {nm : String} {a b : Addr} {xs ys : List (T × Addr × Value)} {F : T → Bool} {Q : Bool → Shared → Prop} (na : (a == sysModules) = false) (nb : (b == sysModules) = false) (da : s.heap.DictOfH knd a xs) (db : s.heap.DictOfH knd b ys) (hu : knd.room A)
    (vals : ∀ x ∈ xs, ∀ q, atKey ys x.1 = some q → SeqAt.EqAt A s x.2.2 q.2 (F x.1)) (q : Q (xs.length == ys.length && xs.all fun x => (atKey ys x.1).isSome && F x.1) s) :
    wpAny (model prog w) A (Builtin.Dict.samePairs nm a b) Q E s := by
  obtain ⟨oa, es, ep, ga, _, hda, hea, hia, hna⟩ := da
  obtain ⟨ob, fs, ep', gb, _, hdb, heb, hib, hnb⟩ := db
  have la := size_of_entries hea
  have lb := size_of_entries heb
  unfold Builtin.Dict.samePairs Builtin.Dict.showsAll
  rw [if_neg (by rw [na]; decide : ¬ (a == sysModules) = true), if_neg (by rw [nb]; decide : ¬ (b == sysModules) = true)]
  refine wpAny_bind (wpAny_pure (wpAny_bind (wpAny_pure (wpAny_bind (wpAny_dictEntries ga hda ?_)))))
  dsimp only
  refine wpAny_bind (wpAny_dictEntries gb hdb ?_)
  rcases Classical.em (es.size = fs.size) with sz | sz
  · rw [if_neg (by rw [sz]; simp)]
    have el : (xs.length == ys.length) = true := by rw [← la, ← lb, sz]; simp
    rw [el, Bool.true_and] at q
    refine wpAny_bind (wpAny_dictEpoch ga hda (wpAny_bind ?_))
    rw [Std.Legacy.Range.forIn_eq_forIn_range']
    simp only [Std.Legacy.Range.size, Nat.sub_zero, Nat.add_sub_cancel, Nat.div_one]
    refine wpAny_forIn_list _ (fun rest r s' => s' = s ∧ r = (none, ()) ∧ ∃ i, rest = List.range' i (es.size - i) ∧ i ≤ es.size ∧ ((xs.take i).all fun x => (atKey ys x.1).isSome && F x.1) = true) _ ?_ ?_ _ _ ⟨rfl, rfl, 0, by simp, Nat.zero_le _, rfl⟩
    · rintro x rest r s' ⟨rfl, rfl, i, hr, hi, tr⟩
      have lt : i < es.size := by
        rcases Nat.lt_or_ge i es.size with z | z
        · exact z
        · rw [Nat.sub_eq_zero_of_le z] at hr; simp at hr
      obtain ⟨rfl, hrest⟩ : x = i ∧ rest = List.range' (i + 1) (es.size - (i + 1)) := by
        have e : es.size - i = (es.size - (i + 1)) + 1 := by omega
        rw [e, List.range'_succ] at hr
        injection hr with z1 z2
        exact ⟨z1, z2⟩
      have lx : x < xs.length := by rw [← la]; exact lt
      have hx : xs[x]? = some xs[x] := List.getElem?_eq_getElem lx
      generalize xs[x] = p at hx
      obtain ⟨k, c, v⟩ := p
      have pm := List.mem_of_getElem? hx
      refine wpAny_bind (wpAny_dictEntries ga hda ?_)
      rw [entry_at hea x, hx]
      have hkey := hia _ pm
      have tk : xs.take (x + 1) = xs.take x ++ [(k, c, v)] := by rw [List.take_add_one, hx]; rfl
      have gone : (F k = false ∨ atKey ys k = none) → Q false s' := fun w => by
        have z : (xs.all fun x => (atKey ys x.1).isSome && F x.1) = false := by
          rw [List.all_eq_false]
          refine ⟨(k, c, v), pm, ?_⟩
          rcases w with w | w
          · simp [w]
          · simp [w]
        rw [z] at q
        exact q
      show wpAny _ _ (holding [.ref c, v] _ >>= _) _ _ _
      refine wpAny_bind (wpAny_holding (wpAny_bind (wpAny_dictFind_heap hu hkey gb hdb heb hib hnb (fun no => ?_) fun j pp hj => ?_)))
      · refine wpAny_pure ?_
        show wpAny _ _ (if (!false) = true then _ else _) _ _ _
        rw [if_pos (by decide)]
        exact wpAny_pure (wpAny_pure (gone (.inr (atKey_none_of_get no))))
      · refine wpAny_bind (wpAny_dictEntries gb hdb ?_)
        rw [entry_at heb j, hj]
        have ak := atKey_of_get hnb hj
        refine wpAny_holding (vals _ pm _ ak prog w _ _ ?_)
        cases hF : F k with
        | false =>
          rw [if_pos (by decide)]
          exact wpAny_pure (wpAny_pure (gone (.inl hF)))
        | true =>
          rw [if_neg (by decide)]
          refine wpAny_bind (wpAny_dictEpoch ga hda ?_)
          rw [if_neg (by simp)]
          refine wpAny_pure ⟨rfl, rfl, x + 1, hrest, lt, ?_⟩
          rw [tk, List.all_append, tr]
          simp [ak, hF]
    · rintro r s' ⟨rfl, rfl, i, hr, hi, tr⟩
      have e : i = es.size := by
        rcases Nat.lt_or_ge i es.size with z | z
        · have e2 : es.size - i = (es.size - (i + 1)) + 1 := by omega
          rw [e2, List.range'_succ] at hr
          cases hr
        · exact Nat.le_antisymm hi z
      rw [e, la, List.take_length] at tr
      rw [tr] at q
      exact wpAny_pure q
  · rw [if_pos (by simpa using sz)]
    have el : (xs.length == ys.length) = false := by rw [← la, ← lb]; simpa using sz
    rw [el, Bool.false_and] at q
    exact wpAny_bind (wpAny_rule (wpAny_pure q))
theorem eqDictT {a b : Addr} {xs ys : List (T × Addr × Value)} {F : T → Bool} {Q : Value → Shared → Prop} (na : (a == sysModules) = false) (nb : (b == sysModules) = false) (da : s.heap.DictOfH knd a xs) (db : s.heap.DictOfH knd b ys) (hu : A.units < cLine) (hr : knd.room A.in1)
    (vals : ∀ x ∈ xs, ∀ q, atKey ys x.1 = some q → SeqAt.EqAt A.in1 s x.2.2 q.2 (F x.1)) (q : Q (.bool (xs.length == ys.length && xs.all fun x => (atKey ys x.1).isSome && F x.1)) s) :
    wpAny (model prog w) A (compareOp .Eq (.ref a) (.ref b)) Q E s := by
  refine wpAny_richCompare_same_room (op := .Eq) da.typeIs db.typeIs PySem.F.slot_dict_eq (wpAny_call_entry PySem.F.slot_dict_eq da.typeIs PySem.F.entry_dict_eq ?_ (PySem.F.args_dict_eq_2 _ _)) hu
  show wpAny _ _ (Builtin.Dict.dictSlotArgs "__eq__" ⟨[.ref a, .ref b], []⟩ >>= _) _ _ s
  refine wpAny_bind ?_
  unfold Builtin.Dict.dictSlotArgs
  refine wpAny_bind (wpAny_notOrdered_dict da.typeIs (wpAny_pure (wpAny_bind (wpAny_isInstance (T := "dict") db.typeIs PySem.F.sub_dict_dict ?_))))
  simp only [Bool.not_true, Bool.false_eq_true, if_false]
  refine wpAny_bind (wpAny_pure (wpAny_bind (wpAny_pure (wpAny_bind (pairsT na nb da db hr vals (wpAny_pure ⟨_, rfl, fun z => (nomatch z), by simpa using q⟩))))))
theorem neDictT {a b : Addr} {xs ys : List (T × Addr × Value)} {F : T → Bool} {Q : Value → Shared → Prop} (na : (a == sysModules) = false) (nb : (b == sysModules) = false) (da : s.heap.DictOfH knd a xs) (db : s.heap.DictOfH knd b ys) (hu : A.units < cLine) (hr : knd.room A.in1)
    (vals : ∀ x ∈ xs, ∀ q, atKey ys x.1 = some q → SeqAt.EqAt A.in1 s x.2.2 q.2 (F x.1)) (q : Q (.bool (!(xs.length == ys.length && xs.all fun x => (atKey ys x.1).isSome && F x.1))) s) :
    wpAny (model prog w) A (compareOp .NotEq (.ref a) (.ref b)) Q E s := by
  refine wpAny_richCompare_same_room (op := .NotEq) da.typeIs db.typeIs PySem.F.slot_dict_ne (wpAny_call_entry PySem.F.slot_dict_ne da.typeIs PySem.F.entry_dict_ne ?_ (PySem.F.args_dict_ne_2 _ _)) hu
  show wpAny _ _ (Builtin.Dict.dictSlotArgs "__ne__" ⟨[.ref a, .ref b], []⟩ >>= _) _ _ s
  refine wpAny_bind ?_
  unfold Builtin.Dict.dictSlotArgs
  refine wpAny_bind (wpAny_notOrdered_dict da.typeIs (wpAny_pure (wpAny_bind (wpAny_isInstance (T := "dict") db.typeIs PySem.F.sub_dict_dict ?_))))
  simp only [Bool.not_true, Bool.false_eq_true, if_false]
  refine wpAny_bind (wpAny_pure (wpAny_bind (wpAny_pure (wpAny_bind (pairsT na nb da db hr vals (wpAny_pure ⟨_, rfl, fun z => (nomatch z), by simpa using q⟩))))))
end
section
variable {X : Cx}
/-- what two dicts with tuple keys must be for d == e -/
def EqTab (K : PySem.W.Frag) (H : Hp) (a b : Addr) (ks ls : List (List L2.Key × V)) (F : List L2.Key → Bool) : Prop :=
  H a = some (.dT ks) ∧ H b = some (.dT ls) ∧ ∀ p ∈ ks, ∀ u, valV ls p.1 = some u → ∃ d e, Dp K H p.2 d ∧ Dp K H u e ∧ SeqAt.shaped d = true ∧ SeqAt.shaped e = true ∧ PyData.eqv d e = F p.1
def sameTab (ks ls : List (List L2.Key × V)) (F : List L2.Key → Bool) : Bool := ks.length == ls.length && ks.all fun p => (valV ls p.1).isSome && F p.1
def rEqDT (K : PySem.W.Frag) : R2 := fun x y H Q => ∃ a b ks ls F, x = .ref a ∧ y = .ref b ∧ EqTab K H a b ks ls F ∧ Q (.bl (sameTab ks ls F)) H
def rNeDT (K : PySem.W.Frag) : R2 := fun x y H Q => ∃ a b ks ls F, x = .ref a ∧ y = .ref b ∧ EqTab K H a b ks ls F ∧ Q (.bl (!sameTab ks ls F)) H
theorem tab_pair {H : Hp} {ks : List (List L2.Key × V)} {xs : List (List L2.Key × Addr × Value)} (r : KT H ks xs) : ∀ x ∈ xs, ∃ p ∈ ks, p.1 = x.1 ∧ RelV p.2 x.2.2 := by
  induction r with
  | nil => exact fun x hx => nomatch hx
  | @cons p q ps qs h t ih =>
    intro x hx
    rcases List.mem_cons.mp hx with rfl | hx
    · exact ⟨p, List.mem_cons_self .., h.1, h.2.2⟩
    · obtain ⟨p', h1, h2⟩ := ih x hx
      exact ⟨p', List.mem_cons_of_mem _ h1, h2⟩
theorem all_pair {H : Hp} {ks : List (List L2.Key × V)} {xs : List (List L2.Key × Addr × Value)} (r : KT H ks xs) (P : List L2.Key → Bool) : (xs.all fun x => P x.1) = ks.all fun p => P p.1 := by
  induction r with
  | nil => rfl
  | @cons p q ps qs h t ih => rw [List.all_cons, List.all_cons, ih, h.1]
theorem some_pair {H : Hp} {ls : List (List L2.Key × V)} {ys : List (List L2.Key × Addr × Value)} (r : KT H ls ys) (k : List L2.Key) : (atKey ys k).isSome = (valV ls k).isSome := by
  have z := KT.val r k
  cases h1 : valV ls k with
  | none =>
    cases h2 : atKey ys k with
    | none => rfl
    | some q => rw [h1, h2] at z; cases z
  | some v =>
    cases h2 : atKey ys k with
    | none => rw [h1, h2] at z; cases z
    | some q => rfl
theorem eq_tab {pins : List (Addr × Obj)} {σ : L2.St} {H : Hp} {s : Shared} {a b : Addr} {ks ls : List (List L2.Key × V)} {F : List L2.Key → Bool} (hu : X.A.units + 65 < cLine) (I : Inv X pins σ H s) (h : EqTab X.K H a b ks ls F) :
    (a == sysModules) = false ∧ (b == sysModules) = false ∧ ∃ xs ys, s.heap.DictOfH (tupleKind (mixKind X.prog X.w)) a xs ∧ s.heap.DictOfH (tupleKind (mixKind X.prog X.w)) b ys ∧ (∀ x ∈ xs, ∀ q, atKey ys x.1 = some q → SeqAt.EqAt X.A.in1 s x.2.2 q.2 (F x.1)) ∧
      (xs.length == ys.length && xs.all fun x => (atKey ys x.1).isSome && F x.1) = sameTab ks ls F := by
  obtain ⟨ea, eb, hp⟩ := h
  obtain ⟨_, na, xs, ra, da⟩ := dt_of I.hok ea
  obtain ⟨_, nb, ys, rb, db⟩ := dt_of I.hok eb
  refine ⟨na, nb, xs, ys, da, db, fun x hx q hq => ?_, ?_⟩
  · obtain ⟨p, pm, e1, rv⟩ := tab_pair ra x hx
    have z := KT.val rb p.1
    rw [e1, hq] at z
    cases hv : valV ls x.1 with
    | none => rw [hv] at z; cases z
    | some u =>
      rw [hv] at z
      have ru : RelV u q.2 := z
      obtain ⟨d, e, hd, he, sd, se, ev⟩ := hp p pm u (by rw [e1]; exact hv)
      obtain ⟨as, r1⟩ := Dp.reads I d p.2 x.2.2 hd rv
      obtain ⟨bs, r2⟩ := Dp.reads I e u q.2 he ru
      rw [← e1, ← ev]
      exact PySem.W.keq_at r1 r2 sd se (by show X.A.units + 1 + 64 < cLine; omega)
  · unfold sameTab
    have l1 : xs.length = ks.length := (Paired.length ra).symm
    have l2 : ys.length = ls.length := (Paired.length rb).symm
    rw [l1, l2]
    congr 1
    rw [← all_pair ra fun k => (valV ls k).isSome && F k]
    have e : (fun x : List L2.Key × Addr × Value => (atKey ys x.1).isSome && F x.1) = fun x => (valV ls x.1).isSome && F x.1 := by
      funext x
      rw [some_pair rb]
    rw [e]
theorem op_eqDT (hu : X.A.units + 65 < cLine) : OpR X (compareOp .Eq) (rEqDT X.K) := by
  intro pins s σ H x y v u Q I rx ry h
  obtain ⟨a, b, ks, ls, F, rfl, rfl, et, q⟩ := h
  obtain rfl : v = Value.ref a := rx
  obtain rfl : u = Value.ref b := ry
  obtain ⟨na, nb, xs, ys, da, db, vals, ev⟩ := eq_tab hu I et
  exact eqDictT na nb da db (by omega) (by show X.A.units + 1 < cLine; omega) vals (by rw [ev]; exact ⟨.bl _, H, I, rfl, q⟩)
theorem op_neDT (hu : X.A.units + 65 < cLine) : OpR X (compareOp .NotEq) (rNeDT X.K) := by
  intro pins s σ H x y v u Q I rx ry h
  obtain ⟨a, b, ks, ls, F, rfl, rfl, et, q⟩ := h
  obtain rfl : v = Value.ref a := rx
  obtain rfl : u = Value.ref b := ry
  obtain ⟨na, nb, xs, ys, da, db, vals, ev⟩ := eq_tab hu I et
  exact neDictT na nb da db (by omega) (by show X.A.units + 1 < cLine; omega) vals (by rw [ev]; exact ⟨.bl _, H, I, rfl, q⟩)
end
end AL
set_option Elab.async false
set_option maxRecDepth 100000
set_option exponentiation.threshold 70000
set_option maxHeartbeats 1000000
namespace AL
open PySem PySem.Spec PyProof.Rows L2 RZ
section
variable {P : Program} {w : World} {K : PySem.W.Frag} {mg : Str → Option Value} {base : Heap}

theorem units65 {k : Nat} {A : Around} (r : Room k A) : A.units + 65 < cLine := by have := r.un; omega
theorem eqZ_nil {K : PySem.W.Frag} {H : Hp} {a b : Addr} {m : ZM} (D : DicZ H a m) (hb : H b = some (.dT [])) : ∃ F, EqTab K H a b (m.map entZ) [] F ∧ sameTab (m.map entZ) [] F = decide (m = []) := by
  refine ⟨fun _ => false, ⟨D, hb, fun p hp u hu => nomatch hu⟩, ?_⟩
  unfold sameTab
  cases m with
  | nil => rfl
  | cons p r =>
    rw [decide_eq_false (fun z => nomatch z)]
    rfl
/-- _law_told_quotient(f, size) -/
def spTq (CP CQ : Addr) : Sp := fun vs H Q _ => ∃ (x : Addr) (n Em B : Nat) (t u : PM), vs = [.ref x, .int (n : Int)] ∧ QuoAt CP CQ H x n t u ∧ Can n Em 1 B t ∧ Can n Em 1 B u ∧ u ≠ [] ∧ t.length < 64 ∧ u.length < 64 ∧ n ≤ 80 ∧ B < 2 ^ 1000 ∧
  ∀ pr d1 d2 H', Same H H' → H' pr = some (.tup [.ref d1, .ref d2]) → DicZ H' d1 (numZ t) → DicZ H' d2 (numZ u) → Q (.ref pr) H'

abbrev st_law_told_quotient : Stmt := top 50
theorem sc_law_told_quotient : FnScope ["_law_f", "_law_size", "_law_top", "_law_bottom", "_law_key"] ["_law_f", "_law_size"] (defScope st_law_told_quotient) := ⟨rfl, rfl, rfl, by decide +kernel, rfl, by decide +kernel, by decide +kernel⟩
theorem ok_law_told_quotient (B : Blt mg) {CPoly CQuotient BZ BN BM UL fZ fN : Addr} {fdZ fdN : FuncData} (Es : ErP K mg CPoly CQuotient BZ BN BM UL fZ fN fdZ fdN) {f_law_gcd : Addr} {fd_law_gcd : FuncData} (D_law_gcd : DefAt K mg "_law_gcd" st_law_gcd ["_law_one", "_law_two"] f_law_gcd fd_law_gcd) {f_law_is_whole : Addr} {fd_law_is_whole : FuncData} (D_law_is_whole : DefAt K mg "_law_is_whole" st_law_is_whole ["_law_value"] f_law_is_whole fd_law_is_whole) {f_law_is_matrix : Addr} {fd_law_is_matrix : FuncData} (D_law_is_matrix : DefAt K mg "_law_is_matrix" st_law_is_matrix ["_law_value", "_law_many", "_law_wide"] f_law_is_matrix fd_law_is_matrix) {f_law_is_ratio : Addr} {fd_law_is_ratio : FuncData} (D_law_is_ratio : DefAt K mg "_law_is_ratio" st_law_is_ratio ["_law_value"] f_law_is_ratio fd_law_is_ratio) {f_law_told_poly : Addr} {fd_law_told_poly : FuncData} (D_law_told_poly : DefAt K mg "_law_told_poly" st_law_told_poly ["_law_poly", "_law_size"] f_law_told_poly fd_law_told_poly) {f_law_told_quotient : Addr} {fd_law_told_quotient : FuncData} (D_law_told_quotient : DefAt K mg "_law_told_quotient" st_law_told_quotient ["_law_f", "_law_size"] f_law_told_quotient fd_law_told_quotient) : FnOk P w K mg base CX0 4 f_law_told_quotient fd_law_told_quotient ["_law_f", "_law_size"] (spTq CPoly CQuotient) := by
  have OK_law_told_poly : FnOk P w K mg base CX0 3 f_law_told_poly fd_law_told_poly ["_law_poly", "_law_size"] (spTp CPoly) := ok_law_told_poly B Es D_law_gcd D_law_is_whole D_law_is_matrix D_law_is_ratio D_law_told_poly
  refine D_law_told_quotient.F.ok sc_law_told_quotient (fun vs H Q E h => ?_) (fun cdv A outer s H vs Q E hr h => ?_)
  · obtain ⟨x, n, Em, B, t, u, rfl, _⟩ := h; rfl
  · have hu := hu_of hr
    refine ⟨_, (pss_cons (ps_if (PW.pt (pw_or (pt_not (pt_val (pe_callB call_isi (by rfl) B.isinstance_ (by decide +kernel) (pa_cons (pv 0) (pa_cons (pe_glob (v := .ref CQuotient) rfl Es.mQ rfl) pa_nil))))) (pw_or1 (pt_cmpR op_ne (pe_fld (pv 0) rfl) (pv 1) (nomark _))))) (pss_one (ps_ret pe_non)) pss_nil)
    (pss_cons (ps_asg (pe_tup (pa_cons (pe_call OK_law_told_poly (hr.mono (by decide)) rfl D_law_told_poly.m D_law_told_poly.F.kp D_law_told_poly.b .nil pass0 (pa_cons (pe_fld (pv 0) rfl) (pa_cons (pv 1) pa_nil))) (pa_cons (pe_call OK_law_told_poly (hr.mono (by decide)) rfl D_law_told_poly.m D_law_told_poly.F.kp D_law_told_poly.b .nil pass0 (pa_cons (pe_fld (pv 0) rfl) (pa_cons (pv 1) pa_nil))) pa_nil))) (pg_tup rfl (pgs_cons (pg_name (i := 2) sc_law_told_quotient.nd rfl (Or.inr rfl)) (pgs_cons (pg_name (i := 3) sc_law_told_quotient.nd rfl (Or.inr rfl)) pgs_nil))))
    (pss_cons (ps_if (PW.pt (pw_or (pt_cmpR op_isN (pv 2) pe_non (nomark _)) (pw_or (pt_cmpR op_isN (pv 3) pe_non (nomark _)) (pw_or1 (pt_cmpR (op_eqDT (units65 hr)) (pe_ix ix_tup (pv 3) pe_int (fun _ _ => rfl)) pe_dnewT (nomark _)))))) (pss_one (ps_ret pe_non)) pss_nil)
    (pss_one (ps_ret (pe_tup (pa_cons (pe_callTy (cr_dictT rfl hr.units) (by rfl) B.dict_ (by decide +kernel) (pa_cons (pe_lock (pe_lc (own := [("_law_key", 4)]) (g := gName 4) (tt := tYes) rfl sc_law_told_quotient.nd (pi_keys (pe_ix ix_tup (pv 2) pe_int (fun _ _ => rfl))) (blkOk_by (own := [("_law_key", 4)]) (N := ["_law_f", "_law_size", "_law_top", "_law_bottom", "_law_key"]) (sc := defScope st_law_told_quotient) (by decide +kernel)) (fun _ _ _ _ _ => pg_name (i := 4) sc_law_told_quotient.nd rfl (Or.inl rfl)) (fun _ _ _ _ _ => pts_nil) (fun _ _ _ _ _ => (pe_tup (pa_cons (pv 4) (pa_cons (pe_op op_mulW (pe_dget hu (pe_ix (ix_tup : IxR _ (rIxT K)) (pv 2) pe_int (fun _ _ => rfl)) (pv 4) (fun _ _ => rfl)) (pe_ix (ix_tup : IxR _ (rIxT K)) (pv 3) pe_int (fun _ _ => rfl))) pa_nil)))))) pa_nil)) (pa_cons (pe_callTy (cr_dictT rfl hr.units) (by rfl) B.dict_ (by decide +kernel) (pa_cons (pe_lock (pe_lc (own := [("_law_key", 4)]) (g := gName 4) (tt := tYes) rfl sc_law_told_quotient.nd (pi_keys (pe_ix ix_tup (pv 3) pe_int (fun _ _ => rfl))) (blkOk_by (own := [("_law_key", 4)]) (N := ["_law_f", "_law_size", "_law_top", "_law_bottom", "_law_key"]) (sc := defScope st_law_told_quotient) (by decide +kernel)) (fun _ _ _ _ _ => pg_name (i := 4) sc_law_told_quotient.nd rfl (Or.inl rfl)) (fun _ _ _ _ _ => pts_nil) (fun _ _ _ _ _ => (pe_tup (pa_cons (pv 4) (pa_cons (pe_op op_mulW (pe_dget hu (pe_ix (ix_tup : IxR _ (rIxT K)) (pv 3) pe_int (fun _ _ => rfl)) (pv 4) (fun _ _ => rfl)) (pe_ix (ix_tup : IxR _ (rIxT K)) (pv 2) pe_int (fun _ _ => rfl))) pa_nil)))))) pa_nil)) pa_nil)))))))), ?_⟩
    obtain ⟨x, n, Em, B, t, u, rfl, hq, ct, cu, une, ft, fu, hn, hB, q⟩ := h
    obtain ⟨dq, xt, yu, eq, X, Y⟩ := id hq
    have zt := numZ_zb ct ft
    have zu := numZ_zb cu fu
    refine ⟨_, rfl, _, _, _, _, _, rfl, ClsV.own _, TyX.base (.ins eq Es.clQ Es.d1 Es.c2 Es.c3 Es.d4), Es.kQ, true, rfl, ?_⟩
    refine iteF ?_
    refine ⟨_, rfl, x, _, dq, _, _, rfl, eq, Es.clQ, Es.qS, flQ_s _ _ _, _, rfl, rfl, _, rfl, ?_⟩
    rw [decide_eq_true rfl]
    refine iteF ?_
    refine ⟨_, rfl, x, _, dq, _, _, rfl, eq, Es.clQ, Es.qT, flQ_t _ _ _, _, rfl, xt, n, Em, B, t, rfl, X, ct, ft, hn, hB, fun t1 d1 H1 s1 nd1 ht1 h1 => ?_⟩
    refine ⟨_, rfl, x, _, dq, _, _, rfl, (s1 _ _ eq), Es.clQ, Es.qB, flQ_b _ _ _, _, rfl, yu, n, Em, B, u, rfl, Y.same s1, cu, fu, hn, hB, fun t2 d2 H2 s2 nd2 ht2 h2 => ?_⟩
    refine ⟨(by show 2 ≤ sizeLine; decide), fun tp htp => ?_⟩
    have np0 := AL.Same.new (o := .tup [.ref t1, .ref t2]) htp
    replace ht1 := np0 _ _ (s2 _ _ ht1)
    replace ht2 := np0 _ _ ht2
    replace h1 := h1.same (s2.trans np0)
    replace h2 := h2.same np0
    have s3 := s1.trans (s2.trans np0)
    have htp' : upd H2 tp (.tup [.ref t1, .ref t2]) tp = some (.tup [.ref t1, .ref t2]) := upd_same
    generalize upd H2 tp (.tup [.ref t1, .ref t2]) = H3 at ht1 ht2 h1 h2 s3 htp' ⊢
    clear np0 htp s1 s2 nd1 nd2
    refine ⟨tp, _, rfl, SqT.of htp', rfl, _, _, rfl, _, _, rfl, rfl, ?_⟩
    refine ⟨_, rfl, rfl, _, rfl, ?_⟩
    refine iteF ?_
    refine ⟨_, rfl, rfl, _, rfl, ?_⟩
    refine iteF ?_
    refine ⟨_, rfl, t2, _, _, _, rfl, rfl, SqT.of ht2, rfl, fun e1 he1 => ?_⟩
    have ne1 := AL.Same.new (o := .dT []) he1
    obtain ⟨F, et, ev⟩ := eqZ_nil (K := K) (h2.same ne1) (show upd H3 e1 (.dT []) e1 = some (.dT []) from upd_same)
    refine ⟨d2, e1, _, [], F, rfl, rfl, et, _, rfl, ?_⟩
    have nz0 : ¬ numZ u = [] := fun z => une (List.map_eq_nil_iff.mp z)
    rw [ev, decide_eq_false nz0]
    refine iteF ?_
    replace s3 := s3.trans ne1
    replace h1 := h1.same ne1
    replace h2 := h2.same ne1
    replace ht1 := ne1 _ _ ht1
    replace ht2 := ne1 _ _ ht2
    generalize upd H3 e1 (.dT []) = H4a at s3 h1 h2 ht1 ht2 ⊢
    clear et ev ne1 he1 htp'
    refine ⟨d1, _, h1, trivial, fun od => ?_⟩
    have tu := upd_tups (o := .frz od (.dT ((numZ t).map entZ))) h1 (fun _ z => nomatch z)
    have fz : upd H4a d1 (.frz od (.dT ((numZ t).map entZ))) d1 = some (.frz od (.dT ((numZ t).map entZ))) := upd_same
    have frA := tu _ _ ht1
    have frB := tu _ _ ht2
    have hof : ∀ b o, b ≠ d1 → H4a b = some o → upd H4a d1 (.frz od (.dT ((numZ t).map entZ))) b = some o := fun b o w w2 => by rw [upd_ne w]; exact w2
    generalize upd H4a d1 (.frz od (.dT ((numZ t).map entZ))) = HF at tu fz frA frB hof ⊢
    refine ⟨_, rfl, t1, _, _, _, rfl, rfl, SqT.of frA, rfl, d1, od, rfl, .inr ⟨_, fz, fun D' hD => ?_⟩⟩
    refine lc_it (walk_keysT (d := d1) (o := od) (kvs := (numZ t).map entZ)) (fun i H' => Same HF H' ∧ ∃ ts' : List Addr, H' D' = some (.lst (ts'.map V.ref)) ∧ Paired (IntAt H') ts' ((numZ t).take i)) ⟨AL.Same.new hD, [], upd_same, .nil⟩ (fun i H' _ hh => hh.1 _ _ fz) ?_ ?_
    · rintro i y H4 H4' hi ⟨s4, ts', hD4, en4⟩ ⟨rfl, kL, v, kq, hkv, rfl, hkq⟩
      obtain ⟨p, hp, rfl, rfl⟩ := at_Z hkv
      have kat := key_of_L7 hkq
      have dg := dz_rd (.inr ⟨od, s4 _ _ fz⟩) kat
      rw [getZ_of (zt).nd (List.mem_of_getElem? hp)] at dg
      have szp := (zt).sz p (List.mem_of_getElem? hp)
      have il := (List.getElem?_eq_some_iff.mp hp).1
      have lz := (zt).len
      refine ⟨rfl, ?_⟩
      refine ⟨_, rfl, _, rfl, t1, _, _, _, rfl, rfl, SqT.of (s4 _ _ frA), rfl, _, rfl, d1, _, rfl, dg, _, rfl, t2, _, _, _, rfl, rfl, SqT.of (s4 _ _ frB), rfl, _, _, rfl, rfl, wide_mul (a := 1001) (b := 60) (Nat.lt_of_le_of_lt szp (Nat.lt_trans hB (by decide +kernel))) (by decide) (by decide) (by decide) (by decide), (by show 2 ≤ sizeLine; decide), fun t5 ht5 => ?_⟩
      dsimp only
      rw [Int.mul_one]
      have n5 := AL.Same.new (o := .tup [.ref kq, .int p.2]) ht5
      have hD5 := n5 _ _ hD4
      have ts5 := upd_tups (o := .lst (ts'.map V.ref ++ [V.ref t5])) hD5 (fun _ z => nomatch z)
      refine ⟨_, hD5, ?_, AL.Same.updn (s4.trans n5) hD, ts' ++ [t5], by rw [upd_same, List.map_append]; rfl, ?_⟩
      · have := prd_len en4
        rw [List.length_take] at this
        rw [List.length_map]
        exact Nat.lt_of_le_of_lt (by omega : _ ≤ 1000) (by decide)
      · rw [List.take_add_one, hp]
        exact prd_snoc (paired_mono en4 fun _ _ w => (w.same n5).tups ts5) ⟨kq, ts5 _ _ upd_same, ts5 _ _ (n5 _ _ kat)⟩
    rintro H4 ⟨s4, ts', hD4, en4⟩
    rw [List.length_map, List.take_length] at en4
    have ts5 := upd_tups (o := .dT ((numZ t).map entZ)) (s4 _ _ fz) (fun _ z => nomatch z)
    have nDd : D' ≠ d1 := fun w => by rw [w] at hD4; rw [s4 _ _ fz] at hD4; cases hD4
    have s5 : Same H4a (upd H4 d1 (.dT ((numZ t).map entZ))) := fun b o w => by
      by_cases e : b = d1
      · subst e
        rw [upd_same, ← w]; exact h1.symm
      · rw [upd_ne e]; exact s4 _ _ (hof _ _ e w)
    have hD5 : upd H4 d1 (.dT ((numZ t).map entZ)) D' = some (.lst (ts'.map V.ref)) := by rw [upd_ne nDd]; exact hD4
    have en5 := ents_Z (paired_mono en4 fun _ _ w => w.tups ts5)
    have s4z := s4 _ _ fz
    generalize upd H4 d1 (.dT ((numZ t).map entZ)) = H5 at s5 hD5 en5 ⊢
    refine ⟨s4z, D', ts', _, rfl, hD5, by rw [keys_Z]; exact nodup_L zt.nd, en5, fun p9 hp9 => ?_⟩
    clear ts5 en4 hD4 s4 hD hof fz tu s4z nDd frA frB
    have np := AL.Same.new (o := .dT ((numZ t).map entZ)) hp9
    
    have sA := s5.trans np
    replace h2 := h2.same sA
    replace ht1 := sA _ _ ht1
    replace ht2 := sA _ _ ht2
    have g1 : DicZ (upd H5 p9 (.dT ((numZ t).map entZ))) p9 (numZ t) := upd_same
    replace s3 := s3.trans sA
    generalize upd H5 p9 (.dT ((numZ t).map entZ)) = H6 at s3 h2 ht1 ht2 g1 ⊢
    clear sA s5 np hp9 hD5 en5 h1
    
    refine ⟨d2, _, h2, trivial, fun od => ?_⟩
    have tu := upd_tups (o := .frz od (.dT ((numZ u).map entZ))) h2 (fun _ z => nomatch z)
    have fz : upd H6 d2 (.frz od (.dT ((numZ u).map entZ))) d2 = some (.frz od (.dT ((numZ u).map entZ))) := upd_same
    have frA := tu _ _ ht2
    have frB := tu _ _ ht1
    have hof : ∀ b o, b ≠ d2 → H6 b = some o → upd H6 d2 (.frz od (.dT ((numZ u).map entZ))) b = some o := fun b o w w2 => by rw [upd_ne w]; exact w2
    generalize upd H6 d2 (.frz od (.dT ((numZ u).map entZ))) = HF at tu fz frA frB hof ⊢
    refine ⟨_, rfl, t2, _, _, _, rfl, rfl, SqT.of frA, rfl, d2, od, rfl, .inr ⟨_, fz, fun D' hD => ?_⟩⟩
    refine lc_it (walk_keysT (d := d2) (o := od) (kvs := (numZ u).map entZ)) (fun i H' => Same HF H' ∧ ∃ ts' : List Addr, H' D' = some (.lst (ts'.map V.ref)) ∧ Paired (IntAt H') ts' ((numZ u).take i)) ⟨AL.Same.new hD, [], upd_same, .nil⟩ (fun i H' _ hh => hh.1 _ _ fz) ?_ ?_
    · rintro i y H4 H4' hi ⟨s4, ts', hD4, en4⟩ ⟨rfl, kL, v, kq, hkv, rfl, hkq⟩
      obtain ⟨p, hp, rfl, rfl⟩ := at_Z hkv
      have kat := key_of_L7 hkq
      have dg := dz_rd (.inr ⟨od, s4 _ _ fz⟩) kat
      rw [getZ_of (zu).nd (List.mem_of_getElem? hp)] at dg
      have szp := (zu).sz p (List.mem_of_getElem? hp)
      have il := (List.getElem?_eq_some_iff.mp hp).1
      have lz := (zu).len
      refine ⟨rfl, ?_⟩
      refine ⟨_, rfl, _, rfl, t2, _, _, _, rfl, rfl, SqT.of (s4 _ _ frA), rfl, _, rfl, d2, _, rfl, dg, _, rfl, t1, _, _, _, rfl, rfl, SqT.of (s4 _ _ frB), rfl, _, _, rfl, rfl, wide_mul (a := 1001) (b := 60) (Nat.lt_of_le_of_lt szp (Nat.lt_trans hB (by decide +kernel))) (by decide) (by decide) (by decide) (by decide), (by show 2 ≤ sizeLine; decide), fun t5 ht5 => ?_⟩
      dsimp only
      rw [Int.mul_one]
      have n5 := AL.Same.new (o := .tup [.ref kq, .int p.2]) ht5
      have hD5 := n5 _ _ hD4
      have ts5 := upd_tups (o := .lst (ts'.map V.ref ++ [V.ref t5])) hD5 (fun _ z => nomatch z)
      refine ⟨_, hD5, ?_, AL.Same.updn (s4.trans n5) hD, ts' ++ [t5], by rw [upd_same, List.map_append]; rfl, ?_⟩
      · have := prd_len en4
        rw [List.length_take] at this
        rw [List.length_map]
        exact Nat.lt_of_le_of_lt (by omega : _ ≤ 1000) (by decide)
      · rw [List.take_add_one, hp]
        exact prd_snoc (paired_mono en4 fun _ _ w => (w.same n5).tups ts5) ⟨kq, ts5 _ _ upd_same, ts5 _ _ (n5 _ _ kat)⟩
    rintro H4 ⟨s4, ts', hD4, en4⟩
    rw [List.length_map, List.take_length] at en4
    have ts5 := upd_tups (o := .dT ((numZ u).map entZ)) (s4 _ _ fz) (fun _ z => nomatch z)
    have nDd : D' ≠ d2 := fun w => by rw [w] at hD4; rw [s4 _ _ fz] at hD4; cases hD4
    have s5 : Same H6 (upd H4 d2 (.dT ((numZ u).map entZ))) := fun b o w => by
      by_cases e : b = d2
      · subst e
        rw [upd_same, ← w]; exact h2.symm
      · rw [upd_ne e]; exact s4 _ _ (hof _ _ e w)
    have hD5 : upd H4 d2 (.dT ((numZ u).map entZ)) D' = some (.lst (ts'.map V.ref)) := by rw [upd_ne nDd]; exact hD4
    have en5 := ents_Z (paired_mono en4 fun _ _ w => w.tups ts5)
    have s4z := s4 _ _ fz
    generalize upd H4 d2 (.dT ((numZ u).map entZ)) = H5 at s5 hD5 en5 ⊢
    refine ⟨s4z, D', ts', _, rfl, hD5, by rw [keys_Z]; exact nodup_L zu.nd, en5, fun p2 hp2 => ?_⟩
    clear ts5 en4 hD4 s4 hD hof fz tu s4z nDd frA frB
    have np := AL.Same.new (o := .dT ((numZ u).map entZ)) hp2
    
    have sA := s5.trans np
    refine ⟨(by show 2 ≤ sizeLine; decide), fun pr hpr => ?_⟩
    have nr := AL.Same.new (o := .tup [.ref p9, .ref p2]) hpr
    exact q pr p9 p2 _ ((s3.trans sA).trans nr) upd_same (g1.same (sA.trans nr)) ((show DicZ _ p2 (numZ u) from upd_same).same nr)
end
end AL
set_option Elab.async false
set_option maxRecDepth 100000
set_option exponentiation.threshold 70000
set_option maxHeartbeats 1000000
namespace AL
open PySem PySem.Spec PyProof.Rows L2 RZ
section
variable {P : Program} {w : World} {K : PySem.W.Frag} {mg : Str → Option Value} {base : Heap}

theorem unD {k : Nat} {A : Around} (r : Room k A) : A.units + 64 < cLine := by have := r.un; omega
def keep7 (ws : List (List Int)) (e0 : Ex) (e : Ex) : Bool := decide (ws.map (fun r => dotI r (ki e)) = ws.map fun r => dotI r (ki e0))
theorem dpAll_lst {K : PySem.W.Frag} {H : Hp} {t : Addr} {es : List Int} (h : H t = some (.lst (es.map V.int))) : Dp K H (.ref t) (.list (es.map PyData.int)) := .lst (SqL.of h) (dpAll_int es)
theorem shaped_lst (l : List Int) : SeqAt.shaped (.list (l.map PyData.int)) = true := by
  have := shaped_ints l
  unfold SeqAt.shaped at this ⊢
  exact this
theorem eqv_lst (a b : List Int) : PyData.eqv (.list (a.map PyData.int)) (.list (b.map PyData.int)) = decide (a = b) := by
  rw [← eqv_ints a b, PyData.eqv, PyData.eqv]
theorem RowsZ.same {H H' : Hp} {w : Addr} {ws : List (List Int)} (h : RowsZ H w ws) (s : Same H H') : RowsZ H' w ws := by
  obtain ⟨as, h1, h2⟩ := h
  exact ⟨as, s _ _ h1, paired_mono h2 fun _ _ z => s _ _ z⟩
/-- _law_like(pen, size, weights, many) -/
def spLk : Sp := fun vs H Q _ => ∃ (p c w : Addr) (m n many : Nat) (ws : List (List Int)), vs = [.ref p, .int (n : Int), .ref w, .int (many : Int)] ∧ Pen H p c m ∧ m < 700000000 ∧ n ≤ 3 ∧ 1 ≤ many ∧ many ≤ 3 ∧ RowsZ H w ws ∧ w ≠ p ∧ ws.length ≤ 2 ∧ (∀ r ∈ ws, r.length = n ∧ ∀ x ∈ r, x.natAbs ≤ 2) ∧
  ∀ d H' z, Pen H' p c (m + 100) → Keep p H H' → H d = none → d ≠ p → DicZ H' d z → ZOk n 3 5 many z → Q (.ref d) H'

abbrev st_law_like : Stmt := top 52
theorem sc_law_like : FnScope ["_law_pen_here", "_law_size", "_law_weights_here", "_law_many", "_law_start", "_law_j", "_law_due", "_law_row", "_law_keys", "_law_key", "_law_found", "_law_lap"] ["_law_pen_here", "_law_size", "_law_weights_here", "_law_many"] (defScope st_law_like) := ⟨rfl, rfl, rfl, by decide +kernel, rfl, by decide +kernel, by decide +kernel⟩
theorem ok_law_like (B : Blt mg)  {f_law_box : Addr} {fd_law_box : FuncData} (D_law_box : DefAt K mg "_law_box" st_law_box ["_law_size", "_law_most"] f_law_box fd_law_box) {f_law_draw : Addr} {fd_law_draw : FuncData} (D_law_draw : DefAt K mg "_law_draw" st_law_draw ["_law_pen_here", "_law_many"] f_law_draw fd_law_draw) {f_law_inner : Addr} {fd_law_inner : FuncData} (D_law_inner : DefAt K mg "_law_inner" st_law_inner ["_law_row", "_law_column"] f_law_inner fd_law_inner) {f_law_pick : Addr} {fd_law_pick : FuncData} (D_law_pick : DefAt K mg "_law_pick" st_law_pick ["_law_pen_here", "_law_some"] f_law_pick fd_law_pick) {f_law_like : Addr} {fd_law_like : FuncData} (D_law_like : DefAt K mg "_law_like" st_law_like ["_law_pen_here", "_law_size", "_law_weights_here", "_law_many"] f_law_like fd_law_like) : FnOk P w K mg base CX0 3 f_law_like fd_law_like ["_law_pen_here", "_law_size", "_law_weights_here", "_law_many"] spLk := by
  have OK_law_box : FnOk P w K mg base CX0 1 f_law_box fd_law_box ["_law_size", "_law_most"] spBox := ok_law_box B  D_law_box
  have OK_law_draw : FnOk P w K mg base CX0 1 f_law_draw fd_law_draw ["_law_pen_here", "_law_many"] spDraw := ok_law_draw B  D_law_draw
  have OK_law_inner : FnOk P w K mg base CX0 1 f_law_inner fd_law_inner ["_law_row", "_law_column"] (spDot K) := ok_law_inner B  D_law_inner
  have OK_law_pick : FnOk P w K mg base CX0 2 f_law_pick fd_law_pick ["_law_pen_here", "_law_some"] (spPick K) := ok_law_pick B  D_law_draw D_law_pick
  refine D_law_like.F.ok sc_law_like (fun vs H Q E h => ?_) (fun cdv A outer s H vs Q E hr h => ?_)
  · obtain ⟨p, c, w, m, n, many, ws, rfl, _⟩ := h; rfl
  · have hu := hu_of hr
    refine ⟨_, (pss_cons (ps_set (i := 4) sc_law_like.nd rfl (Or.inr rfl) (pe_callTy (call_tupK : CallR _ _ (rTup K)) (by rfl) B.tuple_ (by decide +kernel) (pa_cons (pe_lc (own := [("_law_j", 5)]) (g := gName 5) (tt := tYes) rfl sc_law_like.nd (pi_range1 rfl B.range_ (pa_cons (pv 1) pa_nil)) (blkOk_by (own := [("_law_j", 5)]) (N := ["_law_pen_here", "_law_size", "_law_weights_here", "_law_many", "_law_start", "_law_j", "_law_due", "_law_row", "_law_keys", "_law_key", "_law_found", "_law_lap"]) (sc := defScope st_law_like) (by decide +kernel)) (fun _ _ _ _ _ => pg_name (i := 5) sc_law_like.nd rfl (Or.inl rfl)) (fun _ _ _ _ _ => pts_nil) (fun _ _ _ _ _ => (pe_call OK_law_draw (hr.mono (by decide)) rfl D_law_draw.m D_law_draw.F.kp D_law_draw.b .nil pass0 (pa_cons (pv 0) (pa_cons pe_int pa_nil))))) pa_nil)))
    (pss_cons (ps_set (i := 6) sc_law_like.nd rfl (Or.inr rfl) (pe_lc (own := [("_law_row", 7)]) (g := gName 7) (tt := tYes) rfl sc_law_like.nd (pi_list (pv 2) : PI _ _ _ (iList K (tVar 2))) (blkOk_by (own := [("_law_row", 7)]) (N := ["_law_pen_here", "_law_size", "_law_weights_here", "_law_many", "_law_start", "_law_j", "_law_due", "_law_row", "_law_keys", "_law_key", "_law_found", "_law_lap"]) (by kernel_rfl)) (fun _ _ _ _ _ => pg_name (i := 7) sc_law_like.nd rfl (Or.inl rfl)) (fun _ _ _ _ _ => pts_nil) (fun _ _ _ _ _ => (pe_call OK_law_inner (hr.mono (by decide)) rfl D_law_inner.m D_law_inner.F.kp D_law_inner.b .nil pass0 (pa_cons (pv 7) (pa_cons (pv 4) pa_nil))))))
    (pss_cons (ps_setLc (i := 8) (own := [("_law_key", 9)]) (g := gName 9) rfl sc_law_like.nd rfl rfl (sw_true rfl rfl rfl (by decide +kernel)) (pi_list (pe_call OK_law_box (hr.mono (by decide)) rfl D_law_box.m D_law_box.F.kp D_law_box.b .nil pass0 (pa_cons (pv 1) (pa_cons pe_int pa_nil)))) (blkOk_by (own := [("_law_key", 9)]) (N := ["_law_pen_here", "_law_size", "_law_weights_here", "_law_many", "_law_start", "_law_j", "_law_due", "_law_row", "_law_keys", "_law_key", "_law_found", "_law_lap"]) (by kernel_rfl)) (fun _ _ _ _ _ => pg_name (i := 9) sc_law_like.nd rfl (Or.inr rfl)) (fun _ _ _ _ _ => (pts_one (pt_cmpR (op_eqD (unD hr) : OpR _ _ (rEqD K)) (pe_lc (own := [("_law_row", 7)]) (g := gName 7) (tt := tYes) rfl sc_law_like.nd (pi_list (pv 2) : PI _ _ _ (iList K (tVar 2))) (blkOk_by (own := [("_law_row", 7)]) (N := ["_law_pen_here", "_law_size", "_law_weights_here", "_law_many", "_law_start", "_law_j", "_law_due", "_law_row", "_law_keys", "_law_key", "_law_found", "_law_lap"]) (by kernel_rfl)) (fun _ _ _ _ _ => pg_name (i := 7) sc_law_like.nd rfl (Or.inl rfl)) (fun _ _ _ _ _ => pts_nil) (fun _ _ _ _ _ => (pe_call OK_law_inner (hr.mono (by decide)) rfl D_law_inner.m D_law_inner.F.kp D_law_inner.b .nil pass0 (pa_cons (pv 7) (pa_cons (pv 9) pa_nil))))) (pv 6) (nomark _)))) (fun _ _ _ _ _ => (pv 9)))
    (pss_cons (ps_set (i := 10) sc_law_like.nd rfl (Or.inl rfl) (pe_disp1 hu (pv 4) (pe_call OK_law_pick (hr.mono (by decide)) rfl D_law_pick.m D_law_pick.F.kp D_law_pick.b .nil pass0 (pa_cons (pv 0) (pa_cons (pe_lst (pa_cons pe_int (pa_cons (pe_un un_neg pe_int) (pa_cons pe_int (pa_cons pe_int pa_nil))))) pa_nil)))))
    (pss_cons (ps_for PassesOwn.never rfl (pi_range1 rfl B.range_ (pa_cons (pe_call OK_law_draw (hr.mono (by decide)) rfl D_law_draw.m D_law_draw.F.kp D_law_draw.b .nil pass0 (pa_cons (pv 0) (pa_cons (pv 3) pa_nil))) pa_nil)) (pg_name (i := 11) sc_law_like.nd rfl (Or.inl rfl))
      (pss_one (ps_dput hu (pv 10) (pe_call OK_law_pick (hr.mono (by decide)) rfl D_law_pick.m D_law_pick.F.kp D_law_pick.b .nil pass0 (pa_cons (pv 0) (pa_cons (pv 8) pa_nil))) (pe_call OK_law_pick (hr.mono (by decide)) rfl D_law_pick.m D_law_pick.F.kp D_law_pick.b .nil pass0 (pa_cons (pv 0) (pa_cons (pe_lst (pa_cons pe_int (pa_cons (pe_un un_neg pe_int) (pa_cons pe_int (pa_cons (pe_un un_neg pe_int) pa_nil))))) pa_nil))) rfl)))
    (pss_one (ps_ret (pv 10)))))))), ?_⟩
    obtain ⟨p, c, w, m, n, many, ws, rfl, P, hm, hn, hm1, hm3, hw, wp, wl, wz, q⟩ := h
    refine ⟨_, rfl, _, rfl, by omega, by omega, fun DN hDN => ?_⟩
    have nD := AL.Same.new (o := .lst []) hDN
    obtain ⟨pD, cD⟩ := pen_ne7 P hDN
    refine lc_range (lo := 0) (n := ((n : Int)).toNat) (fun i2 H' => Pen H' p c (m + i2) ∧ Keep p H H' ∧ ∃ zs : Ex, zs.length = i2 ∧ (∀ z ∈ zs, z ≤ 2) ∧ H' DN = some (.lst ((ki zs).map V.int))) ⟨(P.same nD).mono (by omega), same_k7 nD, [], rfl, (fun z hz => nomatch hz), upd_same⟩ ?_ ?_
    · rintro i2 H3 hi2 ⟨P3, k3, es, le, be, he⟩
      refine ⟨rfl, ?_⟩
      refine ⟨_, rfl, p, c, _, 3, rfl, P3, by omega, by decide, by decide, fun r2 H4 s0 s1 P4 k4 => ?_⟩
      refine ⟨_, k4.at P3 he (fun _ z => nomatch z), ?_, (pen_upd7 P4 pD cD).mono (by omega), keep_upd7 (k3.trans k4) hDN, es ++ [r2.toNat], ?_, ?_, ?_⟩
      · rw [List.length_map, len_ki, le]; exact Nat.lt_of_lt_of_le (by omega : i2 < 7) (by decide)
      · rw [List.length_append, le]; rfl
      · intro z hz
        rcases List.mem_append.mp hz with hz | hz
        · exact be z hz
        · rw [List.mem_singleton] at hz
          omega
      · rw [upd_same]
        unfold ki
        rw [List.map_append, List.map_append]
        show some (HO.lst _) = some (HO.lst (_ ++ [V.int ((r2.toNat : Nat) : Int)]))
        rw [Int.toNat_of_nonneg s0]
    rintro H3 ⟨P3, k3, e0, le0, be0, he⟩
    rw [Int.toNat_natCast] at P3 le0
    refine ⟨DN, _, rfl, .inl ⟨SqL.of he, fun kk hkk => ?_⟩⟩
    have nk := AL.Same.new (o := .tup ((ki e0).map V.int)) hkk
    have hk0 : KeyAt (upd H3 kk (.tup ((ki e0).map V.int))) kk e0 := upd_same
    have K0 : Keep p H (upd H3 kk (.tup ((ki e0).map V.int))) := k3.trans (same_k7 nk)
    have P0 := P3.same nk
    generalize upd H3 kk (.tup ((ki e0).map V.int)) = H0 at hk0 K0 P0 ⊢
    clear nk hkk he k3 P3 hDN nD pD cD
    replace hw := hw.keep P K0
    obtain ⟨as, W1, W2⟩ := hw
    refine ⟨_, rfl, w, rfl, ⟨_, SqL.of W1⟩, fun Du hDu => ?_⟩
    refine lc_list (K := K) (a := w) (xs := as.map V.ref) (fun i H' => Same H0 H' ∧ H' Du = some (.lst (((ws.take i).map fun r => dotI r (ki e0)).map V.int))) ⟨AL.Same.new hDu, upd_same⟩ (fun i H' _ hh => SqL.of (hh.1 _ _ W1)) ?_ ?_
    · rintro i x H6 hx ⟨s6, hd6⟩
      obtain ⟨a, ha, rfl⟩ := map_ref hx
      obtain ⟨r, hr, hra⟩ := prd_get W2 ha
      obtain ⟨r1, r2⟩ := wz r (List.mem_of_getElem? hr)
      have il := (List.getElem?_eq_some_iff.mp hr).1
      refine ⟨rfl, ?_⟩
      refine ⟨_, rfl, _, rfl, a, kk, true, r, ki e0, rfl, SqL.of (s6 _ _ hra), s6 _ _ hk0, by rw [len_ki, r1, le0], by rw [len_ki, le0]; omega, fun x hx => Nat.lt_of_le_of_lt (r2 x hx) (by decide), fun x hx => ?_, fun H7 s7 => ?_⟩
      · obtain ⟨k, hk, rfl⟩ := List.mem_map.mp hx
        have := be0 k hk
        show ((k : Nat) : Int).natAbs < _
        rw [Int.natAbs_natCast]
        exact Nat.lt_of_le_of_lt (by omega : k ≤ 10) (by decide)
      refine ⟨_, s7 _ _ hd6, ?_, AL.Same.updn (s6.trans s7) hDu, ?_⟩
      · rw [List.length_map, List.length_map, List.length_take]; exact Nat.lt_of_le_of_lt (by omega : _ ≤ 100) (by decide)
      · rw [upd_same, List.take_add_one, hr, List.map_append, List.map_append]; rfl
    rintro H6 ⟨s6, hd6⟩
    rw [List.length_map, prd_len W2, List.take_length] at hd6
    replace hk0 : KeyAt H6 kk e0 := s6 _ _ hk0
    replace W1 := s6 _ _ W1
    replace W2 : Paired (fun a (r : List Int) => H6 a = some (.lst (r.map V.int))) as ws := paired_mono W2 fun _ _ z => s6 _ _ z
    replace K0 := K0.trans (same_k7 (p := p) s6)
    replace P0 := P0.same s6
    clear s6 hDu
    have hdu : H6 Du = some (.lst ((ws.map fun r => dotI r (ki e0)).map V.int)) := hd6
    clear hd6
    refine ⟨_, rfl, n, 3, rfl, hn, by decide, fun l HL sL kL => ?_⟩
    obtain ⟨bs, B1, B2⟩ := kL
    replace hk0 : KeyAt HL kk e0 := sL _ _ hk0
    replace hdu := sL _ _ hdu
    replace W1 := sL _ _ W1
    replace W2 : Paired (fun a (r : List Int) => HL a = some (.lst (r.map V.int))) as ws := paired_mono W2 fun _ _ z => sL _ _ z
    replace K0 := K0.trans (same_k7 (p := p) sL)
    replace P0 := P0.same sL
    clear sL
    have lB := prd_len B2
    have lbx : (boxL 3 n).length ≤ 64 := by
      rw [boxL_len]
      calc (3 + 1) ^ n ≤ 4 ^ 3 := Nat.pow_le_pow_right (by decide) hn
        _ ≤ 64 := by decide
    refine ⟨l, rfl, ⟨_, SqL.of B1⟩, fun D3 hD3 => ?_⟩
    refine lc_list (K := K) (a := l) (xs := bs.map V.ref) (fun i H' => Same HL H' ∧ ∃ cs : List Addr, H' D3 = some (.lst (cs.map V.ref)) ∧ Paired (fun b e => b ≠ D3 ∧ KeyAt H' b e) cs (((boxL 3 n).take i).filter (keep7 ws e0))) ⟨AL.Same.new hD3, [], upd_same, .nil⟩ (fun i H' _ hh => SqL.of (hh.1 _ _ B1)) ?_ ?_
    · rintro i x H4 hx ⟨s4, cs, hd4, pr4⟩
      obtain ⟨b, hb, rfl⟩ := map_ref hx
      obtain ⟨e, hie, hke⟩ := prd_get B2 hb
      obtain ⟨le, be⟩ := box_mem.mp (List.mem_of_getElem? hie)
      have iL := (List.getElem?_eq_some_iff.mp hie).1
      have hke4 : KeyAt H4 b e := s4 _ _ hke
      have lcs := prd_len pr4
      have lf := List.length_filter_le (keep7 ws e0) ((boxL 3 n).take i)
      rw [List.length_take] at lf
      have tk : (boxL 3 n).take (i + 1) = (boxL 3 n).take i ++ [e] := by rw [List.take_add_one, hie]; rfl
      have bD : b ≠ D3 := fun z => by rw [z] at hke; rw [show HL D3 = _ from hke] at hD3; cases hD3
      refine ⟨rfl, ?_⟩
      replace W1 := s4 _ _ W1
      replace W2 : Paired (fun a (r : List Int) => H4 a = some (.lst (r.map V.int))) as ws := paired_mono W2 fun _ _ z => s4 _ _ z
      refine ⟨_, rfl, w, rfl, ⟨_, SqL.of W1⟩, fun D2 hD2 => ?_⟩
      refine lc_list (K := K) (a := w) (xs := as.map V.ref) (fun i H' => Same H4 H' ∧ H' D2 = some (.lst (((ws.take i).map fun r => dotI r (ki e)).map V.int))) ⟨AL.Same.new hD2, upd_same⟩ (fun i H' _ hh => SqL.of (hh.1 _ _ W1)) ?_ ?_
      · rintro i x H6 hx ⟨s6, hd6⟩
        obtain ⟨a, ha, rfl⟩ := map_ref hx
        obtain ⟨r, hr, hra⟩ := prd_get W2 ha
        obtain ⟨r1, r2⟩ := wz r (List.mem_of_getElem? hr)
        have il := (List.getElem?_eq_some_iff.mp hr).1
        refine ⟨rfl, ?_⟩
        refine ⟨_, rfl, _, rfl, a, b, true, r, ki e, rfl, SqL.of (s6 _ _ hra), s6 _ _ hke4, by rw [len_ki, r1, le], by rw [len_ki, le]; omega, fun x hx => Nat.lt_of_le_of_lt (r2 x hx) (by decide), fun x hx => ?_, fun H7 s7 => ?_⟩
        · obtain ⟨k, hk, rfl⟩ := List.mem_map.mp hx
          have := be k hk
          show ((k : Nat) : Int).natAbs < _
          rw [Int.natAbs_natCast]
          exact Nat.lt_of_le_of_lt (by omega : k ≤ 10) (by decide)
        refine ⟨_, s7 _ _ hd6, ?_, AL.Same.updn (s6.trans s7) hD2, ?_⟩
        · rw [List.length_map, List.length_map, List.length_take]; exact Nat.lt_of_le_of_lt (by omega : _ ≤ 100) (by decide)
        · rw [upd_same, List.take_add_one, hr, List.map_append, List.map_append]; rfl
      rintro H6 ⟨s6, hd6⟩
      rw [List.length_map, prd_len W2, List.take_length] at hd6
      refine ⟨_, rfl, _, _, dpAll_lst hd6, dpAll_lst (s6 _ _ (s4 _ _ hdu)), shaped_lst _, shaped_lst _, _, rfl, ?_⟩
      rw [eqv_lst]
      by_cases hkp : ws.map (fun r => dotI r (ki e)) = ws.map fun r => dotI r (ki e0)
      · have kp : keep7 ws e0 e = true := decide_eq_true hkp
        rw [decide_eq_true hkp]
        refine iteT ?_
        refine ⟨_, rfl, _, s6 _ _ hd4, ?_, AL.Same.updn (s4.trans s6) hD3, cs ++ [b], by rw [upd_same, List.map_append]; rfl, ?_⟩
        · rw [List.length_map]
          exact Nat.lt_of_le_of_lt (by omega : _ ≤ 100) (by decide)
        · rw [tk, List.filter_append]
          have e1 : [e].filter (keep7 ws e0) = [e] := by rw [List.filter_cons, if_pos kp]; rfl
          rw [e1]
          exact prd_snoc (paired_mono pr4 fun b' e' z => ⟨z.1, Eq.trans (upd_ne z.1) (s6 _ _ z.2)⟩) ⟨bD, Eq.trans (upd_ne bD) (s6 _ _ hke4)⟩
      · have kp : ¬ keep7 ws e0 e = true := fun z => hkp (of_decide_eq_true z)
        rw [decide_eq_false hkp]
        refine iteF ?_
        refine ⟨s4.trans s6, cs, s6 _ _ hd4, ?_⟩
        rw [tk, List.filter_append]
        have e1 : [e].filter (keep7 ws e0) = [] := by rw [List.filter_cons, if_neg kp]; rfl
        rw [e1, List.append_nil]
        exact paired_mono pr4 fun b' e' z => ⟨z.1, s6 _ _ z.2⟩
    rintro H4 ⟨s4, cs, hd4, pr4⟩
    rw [List.length_map, lB, List.take_length] at pr4
    replace hk0 : KeyAt H4 kk e0 := s4 _ _ hk0
    replace K0 := K0.trans (same_k7 (p := p) s4)
    replace P0 := P0.same s4
    replace pr4 := paired_mono pr4 fun _ _ z => z.2
    have mem0 : e0 ∈ (boxL 3 n).filter (keep7 ws e0) := List.mem_filter.mpr ⟨box_mem.mpr ⟨le0, fun k hk => by have := be0 k hk; omega⟩, decide_eq_true rfl⟩
    have all0 : ∀ e ∈ (boxL 3 n).filter (keep7 ws e0), e.length = n ∧ ∀ k ∈ e, k ≤ 3 := fun e he => box_mem.mp (List.mem_filter.mp he).1
    have lfl := List.length_filter_le (keep7 ws e0) (boxL 3 n)
    generalize (boxL 3 n).filter (keep7 ws e0) = FL at pr4 mem0 all0 lfl
    clear s4 hdu W1 W2 B1 B2 hD3
    have lcs := prd_len pr4
    have lc0 : 0 < cs.length := by rw [lcs]; exact List.length_pos_of_mem mem0
    refine fun d hd => ?_
    have nd := AL.Same.new (o := .dT []) hd
    have dp : d ≠ p := (pen_ne7 P0 hd).1.symm
    have dc : c ≠ d := (pen_ne7 P0 hd).2
    have hdn : H d = none := by
      cases hq : H d with
      | none => rfl
      | some o => rw [K0 _ _ dp hq] at hd; cases hd
    have kcs : Keep p H4 (upd H4 d (.dT [])) := same_k7 nd
    have P5 := P0.same nd
    have hd5 : upd H4 d (.dT []) d = some (.dT []) := upd_same
    generalize upd H4 d (.dT []) = H5 at kcs P5 hd5 ⊢
    refine ⟨_, rfl, _, rfl, _, rfl, (by show 4 ≤ sizeLine; decide), fun lp hlp => ?_⟩
    have n5 := AL.Same.new (o := .lst [.int 1, .int (-1), .int 2, .int 3]) hlp
    refine ⟨p, c, lp, _, _, rfl, P5.same n5, by omega, SqL.of upd_same, (by show 0 < 4; decide), (by show 4 < 1000000000; decide), fun jx x H6 hx P6 k6 => ?_⟩
    obtain ⟨v, rfl, v0, v5⟩ : ∃ v : Int, x = V.int v ∧ v ≠ 0 ∧ v.natAbs ≤ 5 := by
      refine pick_of (P := fun x => ∃ v : Int, x = V.int v ∧ v ≠ 0 ∧ v.natAbs ≤ 5) (fun y hy => ?_) hx
      simp only [List.mem_cons, List.not_mem_nil, or_false] at hy
      rcases hy with rfl | rfl | rfl | rfl
      · exact ⟨1, rfl, by decide, by decide⟩
      · exact ⟨-1, rfl, by decide, by decide⟩
      · exact ⟨2, rfl, by decide, by decide⟩
      · exact ⟨3, rfl, by decide, by decide⟩
    have k46 := kcs.trans ((same_k7 n5).trans k6)
    have hk6 : KeyAt H6 kk e0 := k46.at P0 hk0 (fun _ z => nomatch z)
    have hd6' : H6 d = some (.dT []) := ((same_k7 n5).trans k6) _ _ dp hd5
    refine ⟨keyL e0, kk, rfl, hd6', keyAt_L hk6, ?_⟩
    have K6 := keep_upd7 (o := .dT [(keyL e0, .int v)]) (K0.trans k46) hdn
    have P7 := pen_upd7 (o := .dT [(keyL e0, .int v)]) P6 (Ne.symm dp) dc
    have g7 : DicZ (upd H6 d (.dT [(keyL e0, .int v)])) d [(e0, v)] := upd_same
    have tu := upd_tups (o := .dT [(keyL e0, V.int v)]) hd6' (fun _ z => nomatch z)
    have h3d : D3 ≠ d := fun z => by rw [z, hd] at hd4; cases hd4
    have hd7 : upd H6 d (.dT [(keyL e0, V.int v)]) D3 = some (.lst (cs.map V.ref)) := Eq.trans (upd_ne h3d) (k46.at P0 hd4 (fun _ z => nomatch z))
    have pr7 : Paired (KeyAt (upd H6 d (.dT [(keyL e0, V.int v)]))) cs FL := paired_mono pr4 fun _ _ z => tu _ _ (k46.at P0 z (fun _ z => nomatch z))
    generalize upd H6 d (.dT [(keyL e0, V.int v)]) = H7 at K6 P7 g7 hd7 pr7 ⊢
    clear pr4 hd4 hk0 K0 P0 kcs P5 hd5 n5 hlp P6 k6 k46 hk6 hd6' tu hd nd
    have D3p : D3 ≠ p := fun z => by
      obtain ⟨ll, hh⟩ := P7.dict
      rw [z, hh] at hd7; cases hd7
    refine ⟨_, rfl, _, rfl, p, c, _, (many : Int), rfl, P7, by omega, by omega, by omega, fun r H8 r0 r1 P8 k8 => ?_⟩
    refine ⟨_, rfl, by omega, by omega, for_range (lo := 0) (n := r.toNat) (fun i σ H' => ∃ (v11 : Option V) (z : ZM), σ = [some (.ref p), some (.int (n : Int)), some (.ref w), some (.int (many : Int)), some (.ref kk), none, some (.ref Du), none, some (.ref D3), none, some (.ref d), v11] ∧ Pen H' p c (m + 20 + i * 4) ∧ Keep p H H' ∧ DicZ H' d z ∧ (z.map (·.1)).Nodup ∧ z.length ≤ 1 + i ∧ z ≠ [] ∧ (∀ q ∈ z, q.1.length = n ∧ ∀ k ∈ q.1, k ≤ 3) ∧ (∀ q ∈ z, q.2 ≠ 0 ∧ q.2.natAbs ≤ 5) ∧ H' D3 = some (.lst (cs.map V.ref)) ∧ Paired (KeyAt H') cs FL) ⟨none, _, rfl, P8.mono (by omega), K6.trans k8, k8 _ _ dp g7, (by rw [List.map_cons, List.map_nil]; exact List.nodup_cons.mpr ⟨List.not_mem_nil, List.nodup_nil⟩), Nat.le_refl _, (fun z => nomatch z), (fun q hq => by rw [List.mem_singleton.mp hq]; exact ⟨le0, fun k hk => by have := be0 k hk; omega⟩), (fun q hq => by rw [List.mem_singleton.mp hq]; exact ⟨v0, v5⟩), k8 _ _ D3p hd7, paired_mono pr7 fun _ _ z => k8.at P7 z (fun _ z => nomatch z)⟩ ?_ ?_⟩
    · rintro i σ H9 hi ⟨v11, z, rfl, P9, K9, g9, nd9, zl, zne, zk, zs, hd9, pr9⟩
      have hi' : i < 3 := by omega
      refine ⟨_, rfl, _, rfl, _, rfl, (by show 4 ≤ sizeLine; decide), fun lp hlp => ?_⟩
      have n5 := AL.Same.new (o := .lst [.int 1, .int (-1), .int 2, .int (-5)]) hlp
      refine ⟨p, c, lp, _, _, rfl, P9.same n5, by omega, SqL.of upd_same, (by show 0 < 4; decide), (by show 4 < 1000000000; decide), fun jx x H6 hx P6 k6 => ?_⟩
      obtain ⟨v, rfl, v0, v5⟩ : ∃ v : Int, x = V.int v ∧ v ≠ 0 ∧ v.natAbs ≤ 5 := by
        refine pick_of (P := fun x => ∃ v : Int, x = V.int v ∧ v ≠ 0 ∧ v.natAbs ≤ 5) (fun y hy => ?_) hx
        simp only [List.mem_cons, List.not_mem_nil, or_false] at hy
        rcases hy with rfl | rfl | rfl | rfl
        · exact ⟨1, rfl, by decide, by decide⟩
        · exact ⟨-1, rfl, by decide, by decide⟩
        · exact ⟨2, rfl, by decide, by decide⟩
        · exact ⟨-5, rfl, by decide, by decide⟩
      have k96 := (same_k7 (p := p) n5).trans k6
      have hd6 := k96 _ _ D3p hd9
      have pr6 : Paired (KeyAt H6) cs FL := paired_mono pr9 fun _ _ z => k96.at P9 z (fun _ z => nomatch z)
      refine ⟨_, rfl, _, rfl, _, rfl, p, c, D3, _, _, rfl, P6, by omega, SqL.of hd6, (by rw [List.length_map]; exact lc0), (by rw [List.length_map]; omega), fun jx2 x2 H10 hx2 P10 k10 => ?_⟩
      obtain ⟨b, hb, rfl⟩ := map_ref hx2
      obtain ⟨e, hie, hke⟩ := prd_get pr6 hb
      obtain ⟨le, be⟩ := all0 e (List.mem_of_getElem? hie)
      have k910 := k96.trans k10
      have hk10 : KeyAt H10 b e := k10.at P6 hke (fun _ z => nomatch z)
      have g10 : DicZ H10 d z := k910 _ _ dp g9
      have e6 := dz_put (v := v) g10 hk10 (Nat.lt_of_le_of_lt (by omega : z.length ≤ 100) (by decide))
      have zl2 := putZ_len z e v
      have tu := upd_tups (o := .dT ((putZ z e v).map entZ)) g10 (fun _ z => nomatch z)
      refine ⟨d, _, rfl, e6, _, putZ z e v, rfl, (pen_upd7 P10 (Ne.symm dp) dc).mono (by omega), keep_upd7 (K9.trans k910) hdn, upd_same, putZ_nodup nd9 e v, by omega, putZ_ne z e v, fun q hq => ?_, fun q hq => ?_, Eq.trans (upd_ne h3d) (k10 _ _ D3p hd6), paired_mono pr6 fun _ _ z => tu _ _ (k10.at P6 z (fun _ z => nomatch z))⟩
      · rcases putZ_mem hq with w | rfl
        · exact zk q w
        · exact ⟨le, be⟩
      · rcases putZ_mem hq with w | rfl
        · exact zs q w
        · exact ⟨v0, v5⟩
    · rintro σ H9 ⟨v11, z, rfl, P9, K9, g9, nd9, zl, zne, zk, zs, hd9, pr9⟩
      exact ⟨_, rfl, q d H9 z (P9.mono (by omega)) K9 hdn dp g9 ⟨nd9, zne, by omega, zk, zs⟩⟩
end
end AL
set_option Elab.async false
set_option maxRecDepth 100000
set_option exponentiation.threshold 70000
set_option maxHeartbeats 1000000
namespace AL
open PySem PySem.Spec PyProof.Rows L2 RZ
section
variable {P : Program} {w : World} {K : PySem.W.Frag} {mg : Str → Option Value} {base : Heap}

/-- whatever divides all the integers of the form is 1 -/
theorem form_prim {ab : PM} {h : Nat} (ne : ∃ p ∈ ab, p.2 ≠ 0) (hd : ∀ p ∈ ab, h ∣ p.2.num.natAbs / gcdN ab * (lcmD (ab.map (·.2)) / p.2.den)) : h = 1 := by
  have lc := lcm_fold (ab.map (·.2)) 1 (by decide)
  have L0 : 0 < lcmD (ab.map (·.2)) := lc.1
  have Ld : ∀ p ∈ ab, p.2.den ∣ lcmD (ab.map (·.2)) := fun p hp => lc.2.2.1 p.2 (List.mem_map.mpr ⟨p, hp, rfl⟩)
  have Lm : ∀ D, (∀ p ∈ ab, p.2.den ∣ D) → lcmD (ab.map (·.2)) ∣ D := fun D hD => lc.2.2.2 D (Nat.one_dvd _) fun y hy => by
    obtain ⟨p, hp, rfl⟩ := List.mem_map.mp hy
    exact hD p hp
  have gf := gcd_fold ab 0
  have gd : ∀ p ∈ ab, gcdN ab ∣ p.2.num.natAbs := gf.2.1
  have gm : ∀ D, (∀ p ∈ ab, D ∣ p.2.num.natAbs) → D ∣ gcdN ab := fun D hD => gf.2.2 D (Nat.dvd_zero _) hD
  have g0 : 0 < gcdN ab := by
    obtain ⟨p, hp, hn⟩ := ne
    refine Nat.pos_of_ne_zero fun w => hn ?_
    have z := gd p hp
    rw [w] at z
    exact num_zero.mp (Int.natAbs_eq_zero.mp (Nat.eq_zero_of_zero_dvd z))
  generalize lcmD (ab.map (·.2)) = L at *
  generalize gcdN ab = g at *
  -- what h and L share divides all L / den
  have sh : ∀ p ∈ ab, Nat.gcd h L ∣ L / p.2.den := fun p hp => by
    have e : p.2.den * (L / p.2.den) = L := Nat.mul_div_cancel' (Ld p hp)
    have d1 : Nat.gcd h L ∣ p.2.num.natAbs / g * (L / p.2.den) := Nat.dvd_trans (Nat.gcd_dvd_left _ _) (hd p hp)
    have d2 : Nat.gcd h L ∣ p.2.den * (L / p.2.den) := by rw [e]; exact Nat.gcd_dvd_right _ _
    have d3 := Nat.dvd_gcd d1 d2
    rw [Nat.gcd_mul_right] at d3
    have c1 : Nat.gcd (p.2.num.natAbs / g) p.2.den = 1 := by
      have w := p.2.reduced
      exact Nat.Coprime.coprime_dvd_left (Nat.div_dvd_of_dvd (gd p hp)) w
    rw [c1, Nat.one_mul] at d3
    exact d3
  have co : Nat.gcd h L = 1 := by
    have hL : Nat.gcd h L ∣ L := Nat.gcd_dvd_right _ _
    have pos : 0 < Nat.gcd h L := Nat.gcd_pos_of_pos_right _ L0
    have w := Lm (L / Nat.gcd h L) fun p hp => by
      obtain ⟨k, hk⟩ := sh p hp
      have e : p.2.den * (L / p.2.den) = L := Nat.mul_div_cancel' (Ld p hp)
      refine ⟨k, ?_⟩
      rw [hk] at e
      rw [← e, show p.2.den * (Nat.gcd h L * k) = Nat.gcd h L * (p.2.den * k) by rw [Nat.mul_left_comm]]
      conv => lhs; arg 2; rw [show Nat.gcd h (Nat.gcd h L * (p.2.den * k)) = Nat.gcd h L by rw [← Nat.mul_left_comm, e]]
      exact Nat.mul_div_cancel_left _ pos
    obtain ⟨k, hk⟩ := hL
    generalize Nat.gcd h L = c at *
    rw [hk, Nat.mul_div_cancel_left _ pos] at w
    have k0 : 0 < k := Nat.pos_of_ne_zero fun z => by rw [z, Nat.mul_zero] at hk; omega
    have le := Nat.le_of_dvd k0 w
    have : c ≤ 1 := Nat.le_of_mul_le_mul_right (by rw [Nat.one_mul]; exact le) k0
    omega
  have ha : ∀ p ∈ ab, h ∣ p.2.num.natAbs / g := fun p hp => by
    have cb : Nat.Coprime h (L / p.2.den) := Nat.Coprime.coprime_dvd_right (Nat.div_dvd_of_dvd (Ld p hp)) co
    exact cb.dvd_of_dvd_mul_right (hd p hp)
  have w := gm (g * h) fun p hp => by
    obtain ⟨k, hk⟩ := ha p hp
    have e : g * (p.2.num.natAbs / g) = p.2.num.natAbs := Nat.mul_div_cancel' (gd p hp)
    exact ⟨k, by rw [← e, hk, Nat.mul_assoc]⟩
  have le := Nat.le_of_dvd g0 w
  have h0 : h ≠ 0 := fun z => by
    subst z
    rw [Nat.mul_zero] at w
    have := Nat.eq_zero_of_zero_dvd w
    omega
  have : h ≤ 1 := Nat.le_of_mul_le_mul_left (by rw [Nat.mul_one]; exact le) g0
  omega

end
end AL
set_option Elab.async false
set_option maxRecDepth 100000
set_option exponentiation.threshold 70000
set_option maxHeartbeats 1000000
namespace AL
open PySem PySem.Spec PyProof.Rows L2 RZ
section
variable {P : Program} {w : World} {K : PySem.W.Frag} {mg : Str → Option Value} {base : Heap}

theorem int_of {x : Rat} (h : x.den = 1) : x = (x.num : Rat) := by
  have w := Rat.mkRat_self x
  rw [h, Rat.mkRat_eq_div] at w
  rw [← w]
  conv => rhs; rw [w]
  generalize x.num = z
  grind
/-- integers without a common divisor, times a ratio, again such: the ratio is 1 or -1 -/
theorem ratio_one {l : PM} {r : Rat} (h1 : ∀ p ∈ l, p.2.den = 1) (g1 : ∀ h : Nat, (∀ p ∈ l, h ∣ p.2.num.natAbs) → h = 1) (h2 : ∀ p ∈ l, (p.2 * r).den = 1) (g2 : ∀ h : Nat, (∀ p ∈ l, h ∣ (p.2 * r).num.natAbs) → h = 1) : r = 1 ∨ r = -1 := by
  have key : ∀ p ∈ l, p.2.num * r.num = (p.2 * r).num * (r.den : Int) := fun p hp => by
    have e : p.2 * r = mkRat (p.2.num * r.num) (p.2.den * r.den) := by
      conv => lhs; rw [← Rat.mkRat_self p.2, ← Rat.mkRat_self r, Rat.mkRat_mul_mkRat]
    have f : p.2 * r = mkRat (p.2 * r).num 1 := by
      conv => lhs; rw [← Rat.mkRat_self (p.2 * r), h2 p hp]
    rw [h1 p hp, Nat.one_mul] at e
    have z := (Rat.mkRat_eq_iff r.den_nz (by decide)).mp (e.symm.trans f)
    rw [Int.natCast_one, Int.mul_one] at z
    exact z
  have d1 : r.den = 1 := by
    refine g1 r.den fun p hp => ?_
    have z := congrArg Int.natAbs (key p hp)
    rw [Int.natAbs_mul, Int.natAbs_mul, Int.natAbs_natCast] at z
    have c : Nat.Coprime r.den r.num.natAbs := r.reduced.symm
    exact c.dvd_of_dvd_mul_right (by rw [z]; exact Nat.dvd_mul_left _ _)
  have n1 : r.num.natAbs = 1 := by
    refine g2 _ fun p hp => ?_
    have z := key p hp
    rw [d1, Int.natCast_one, Int.mul_one] at z
    rw [← z, Int.natAbs_mul]
    exact Nat.dvd_mul_left _ _
  have e := int_of d1
  rcases Int.natAbs_eq r.num with w | w
  · left; rw [e, w, n1]; rfl
  · right; rw [e, w, n1]; rfl

end
end AL
set_option Elab.async false
set_option maxRecDepth 100000
set_option exponentiation.threshold 70000
set_option maxHeartbeats 1000000
namespace AL
open PySem PySem.Spec PyProof.Rows L2 RZ
section
variable {P : Program} {w : World} {K : PySem.W.Frag} {mg : Str → Option Value} {base : Heap}
def shfM (s : Ex) (m : PM) : PM := m.map fun p => (subE p.1 s, p.2)
theorem subE_inj {e f s : Ex} (he : e.length = s.length) (hf : f.length = s.length) (le : ∀ j : Nat, s.getD j 0 ≤ e.getD j 0) (lf : ∀ j : Nat, s.getD j 0 ≤ f.getD j 0) (h : subE e s = subE f s) : e = f := by
  refine List.ext_getElem (by omega) fun j h1 h2 => ?_
  have z : (subE e s)[j]? = (subE f s)[j]? := by rw [h]
  unfold subE at z
  have hs : j < s.length := by omega
  rw [List.getElem?_zipWith, List.getElem?_zipWith, List.getElem?_eq_getElem h1, List.getElem?_eq_getElem h2, List.getElem?_eq_getElem hs] at z
  have w : e[j] - s[j] = f[j] - s[j] := Option.some.inj z
  have a := le j
  have b := lf j
  rw [List.getD_eq_getElem?_getD, List.getD_eq_getElem?_getD, List.getElem?_eq_getElem hs, List.getElem?_eq_getElem h1] at a
  rw [List.getD_eq_getElem?_getD, List.getD_eq_getElem?_getD, List.getElem?_eq_getElem hs, List.getElem?_eq_getElem h2] at b
  have a' : s[j] ≤ e[j] := a
  have b' : s[j] ≤ f[j] := b
  omega
theorem shf_nodup {s : Ex} : ∀ {m : PM}, (∀ p ∈ m, p.1.length = s.length ∧ ∀ j : Nat, s.getD j 0 ≤ p.1.getD j 0) → (m.map (·.1)).Nodup → ((shfM s m).map (·.1)).Nodup
  | [], _, _ => .nil
  | p :: r, h, nd => by
    rw [List.map_cons, List.nodup_cons] at nd
    show (subE p.1 s :: (shfM s r).map (·.1)).Nodup
    rw [List.nodup_cons]
    refine ⟨fun w => nd.1 ?_, shf_nodup (fun q hq => h q (List.mem_cons_of_mem _ hq)) nd.2⟩
    obtain ⟨x, hx, e⟩ := List.mem_map.mp w
    unfold shfM at hx
    obtain ⟨q, hq, rfl⟩ := List.mem_map.mp hx
    have h1 := h p (List.mem_cons_self ..)
    have h2 := h q (List.mem_cons_of_mem _ hq)
    have z := subE_inj h2.1 h1.1 h2.2 h1.2 e
    exact List.mem_map.mpr ⟨q, hq, z⟩

end
end AL
set_option Elab.async false
set_option maxRecDepth 100000
set_option exponentiation.threshold 70000
set_option maxHeartbeats 1000000
namespace AL
open PySem PySem.Spec PyProof.Rows L2 RZ
section
variable {P : Program} {w : World} {K : PySem.W.Frag} {mg : Str → Option Value} {base : Heap}

theorem ind_of {p : Ex × Rat} : ∀ {m : PM}, (m.map (·.1)).Nodup → p ∈ m → lin (ind p.1) m = p.2
  | [], _, h => nomatch h
  | q :: r, nd, hm => by
    rw [List.map_cons, List.nodup_cons] at nd
    show q.2 * (if q.1 = p.1 then 1 else 0) + lin (ind p.1) r = p.2
    rcases List.mem_cons.mp hm with e | hm
    · subst e
      rw [if_pos rfl, ind_none fun s hs e => nd.1 (List.mem_map.mpr ⟨s, hs, e⟩)]
      grind
    · rw [if_neg fun e => nd.1 (List.mem_map.mpr ⟨p, hm, e.symm⟩), ind_of nd.2 hm]
      grind
theorem eqp_sub {a b : PM} (nda : (a.map (·.1)).Nodup) (ndb : (b.map (·.1)).Nodup) (na : NZ a) (h : Eqp a b) : ∀ q ∈ a, q ∈ b := fun q hq => by
  obtain ⟨x, hx, ex⟩ := List.mem_map.mp (key_in nda na h q.1 (List.mem_map.mpr ⟨q, hq, rfl⟩))
  have z1 := h (ind q.1)
  rw [ind_of nda hq, ← ex, ind_of ndb hx] at z1
  rw [show q = x from Prod.ext ex.symm z1]
  exact hx
theorem eqp_mem {a b : PM} (nda : (a.map (·.1)).Nodup) (ndb : (b.map (·.1)).Nodup) (na : NZ a) (nb : NZ b) (h : Eqp a b) : ∀ q, q ∈ a ↔ q ∈ b := fun q => ⟨eqp_sub nda ndb na h q, eqp_sub ndb nda nb h.symm q⟩
/-- t over u is in the law's form -/
def FormC (n : Nat) (t u : PM) : Prop := (t = [] ∧ Eqp u [(List.replicate n 0, 1)]) ∨
  (t ≠ [] ∧ u ≠ [] ∧ (∀ p ∈ t ++ u, p.2.den = 1) ∧ (∀ h : Nat, (∀ p ∈ t ++ u, h ∣ p.2.num.natAbs) → h = 1) ∧ (∀ j : Nat, j < n → ∃ p ∈ t ++ u, p.1.getD j 0 = 0) ∧ ∃ p ∈ u, (∀ q ∈ u, cd p.1 ≤ cd q.1) ∧ 0 < p.2)
theorem FormC.mem {n : Nat} {t u t' u' : PM} (h : FormC n t u) (ht : ∀ q, q ∈ t ↔ q ∈ t') (hu : ∀ q, q ∈ u ↔ q ∈ u') (eu : Eqp u' u) : FormC n t' u' := by
  have nil : ∀ {a b : PM}, (∀ q, q ∈ a ↔ q ∈ b) → a = [] → b = [] := fun {a b} w e => by
    cases b with
    | nil => rfl
    | cons x r => have z := (w x).mpr (List.mem_cons_self ..); rw [e] at z; cases z
  have both : ∀ q, q ∈ t' ++ u' ↔ q ∈ t ++ u := fun q => by rw [List.mem_append, List.mem_append, ht, hu]
  rcases h with ⟨h1, h2⟩ | ⟨h1, h2, h3, h4, h5, p, h6, h7, h8⟩
  · exact .inl ⟨nil ht h1, eu.trans h2⟩
  · refine .inr ⟨fun e => h1 (nil (fun q => (ht q).symm) e), fun e => h2 (nil (fun q => (hu q).symm) e), fun q hq => h3 q ((both q).mp hq), fun h hh => h4 h fun q hq => hh q ((both q).mpr hq), fun j hj => ?_, p, (hu p).mp h6, fun q hq => h7 q ((hu q).mpr hq), h8⟩
    obtain ⟨q, q1, q2⟩ := h5 j hj
    exact ⟨q, (both q).mpr q1, q2⟩
theorem plE_len {e f : Ex} (h : e.length = f.length) : (plE e f).length = e.length := by
  unfold plE
  rw [List.length_zipWith, h, Nat.min_self]
theorem cd_add : ∀ {e f : Ex}, e.length = f.length → cd (plE e f) = cd e + cd f
  | [], [], _ => rfl
  | [], _ :: _, h => nomatch h
  | _ :: _, [], h => nomatch h
  | i :: e, j :: f, h => by
    have h' : e.length = f.length := by simpa using h
    have ih := cd_add h'
    have l1 : (ki (plE e f)).length = e.length := by rw [len_ki, plE_len h']
    have l2 : (ki e).length = e.length := len_ki e
    have l3 : (ki f).length = e.length := by rw [len_ki, h']
    show (((i + j : Nat) : Int)) * 128 ^ (ki (plE e f)).length + TS.code 128 (ki (plE e f)) = ((i : Nat) : Int) * 128 ^ (ki e).length + TS.code 128 (ki e) + (((j : Nat) : Int) * 128 ^ (ki f).length + TS.code 128 (ki f))
    have ih' : TS.code 128 (ki (plE e f)) = TS.code 128 (ki e) + TS.code 128 (ki f) := ih
    rw [l1, l2, l3, ih', Int.natCast_add, Int.add_mul]
    omega
theorem cd_inj {n : Nat} {e f : Ex} (he : e.length = n ∧ ∀ k ∈ e, k ≤ 80) (hf : f.length = n ∧ ∀ k ∈ f, k ≤ 80) (h : cd e = cd f) : e = f :=
  ki_inj (code_inj (by rw [len_ki, len_ki, he.1, hf.1]) (bd_ki he.2) (bd_ki hf.2) h)
theorem plE_get {e f : Ex} (h : e.length = f.length) (j : Nat) : (plE e f).getD j 0 = e.getD j 0 + f.getD j 0 := by
  unfold plE
  rw [List.getD_eq_getElem?_getD, List.getD_eq_getElem?_getD, List.getD_eq_getElem?_getD, List.getElem?_zipWith]
  by_cases hj : j < e.length
  · rw [List.getElem?_eq_getElem hj, List.getElem?_eq_getElem (by omega : j < f.length)]
    rfl
  · rw [List.getElem?_eq_none (by omega), List.getElem?_eq_none (by omega : f.length ≤ j)]
    rfl
theorem sub_plE : ∀ {e f : Ex}, e.length = f.length → subE (plE e f) f = e
  | [], [], _ => rfl
  | [], _ :: _, h => nomatch h
  | _ :: _, [], h => nomatch h
  | i :: e, j :: f, h => by
    show (i + j - j) :: subE (plE e f) f = i :: e
    rw [sub_plE (by simpa using h), Nat.add_sub_cancel]
theorem plE_inj {e f g : Ex} (he : e.length = g.length) (hf : f.length = g.length) (h : plE e g = plE f g) : e = f := by
  rw [← sub_plE he, h, sub_plE hf]
/-- times the monomial e and the ratio c -/
def shM (e : Ex) (c : Rat) (m : PM) : PM := m.map fun p => (plE p.1 e, p.2 * c)
theorem mul_one (e : Ex) (c : Rat) : ∀ m : PM, mulM m [(e, c)] = shM e c m
  | [] => rfl
  | p :: r => by
    show [(plE p.1 e, p.2 * c)] ++ mulM r [(e, c)] = _
    rw [mul_one e c r]
    rfl
theorem shM_zero {n : Nat} : ∀ {m : PM}, (∀ p ∈ m, p.1.length = n) → shM (List.replicate n 0) 1 m = m
  | [], _ => rfl
  | p :: r, h => by
    have hp := h p (List.mem_cons_self ..)
    have z : plE p.1 (List.replicate n 0) = p.1 := by
      subst hp
      generalize p.1 = e
      induction e with
      | nil => rfl
      | cons i e ih => show (i + 0) :: plE e (List.replicate e.length 0) = _; rw [ih]; rfl
    show (plE p.1 _, p.2 * 1) :: shM _ 1 r = _
    rw [shM_zero fun q hq => h q (List.mem_cons_of_mem _ hq), z, Rat.mul_one]
theorem shM_nodup {e : Ex} {c : Rat} : ∀ {m : PM}, (∀ p ∈ m, p.1.length = e.length) → (m.map (·.1)).Nodup → ((shM e c m).map (·.1)).Nodup
  | [], _, _ => .nil
  | p :: r, h, nd => by
    rw [List.map_cons, List.nodup_cons] at nd
    show (plE p.1 e :: (shM e c r).map (·.1)).Nodup
    rw [List.nodup_cons]
    refine ⟨fun w => nd.1 ?_, shM_nodup (fun q hq => h q (List.mem_cons_of_mem _ hq)) nd.2⟩
    obtain ⟨x, hx, z⟩ := List.mem_map.mp w
    obtain ⟨q, hq, rfl⟩ := List.mem_map.mp hx
    exact List.mem_map.mpr ⟨q, hq, plE_inj (h q (List.mem_cons_of_mem _ hq)) (h p (List.mem_cons_self ..)) z⟩
theorem shM_nz {e : Ex} {c : Rat} (c0 : c ≠ 0) {m : PM} (h : NZ m) : NZ (shM e c m) := fun p hp => by
  obtain ⟨q, hq, rfl⟩ := List.mem_map.mp hp
  intro z
  rcases Rat.mul_eq_zero.mp z with w | w
  · exact h q hq w
  · exact c0 w
theorem lin_qf (φ : Ex → Rat) (r : Rat) (s : Ex) : ∀ m : PM, lin φ (qf r s m) = lin (fun e => φ (subE e s)) m * r
  | [] => by show (0 : Rat) = 0 * r; grind
  | p :: q => by
    show p.2 * r * φ (subE p.1 s) + lin φ (qf r s q) = (p.2 * φ (subE p.1 s) + lin _ q) * r
    rw [lin_qf φ r s q]
    grind
theorem Eqp.qf {a b : PM} (h : Eqp a b) (r : Rat) (s : Ex) : Eqp (AL.qf r s a) (AL.qf r s b) := fun φ => by rw [lin_qf, lin_qf, h]
theorem qf_shM {r c : Rat} (e : Ex) (hr : c * r = 1) : ∀ {m : PM}, (∀ p ∈ m, p.1.length = e.length) → AL.qf r e (shM e c m) = m
  | [], _ => rfl
  | p :: q, h => by
    show (subE (plE p.1 e) e, p.2 * c * r) :: AL.qf r e (shM e c q) = p :: q
    rw [qf_shM e hr fun x hx => h x (List.mem_cons_of_mem _ hx), sub_plE (h p (List.mem_cons_self ..)), Rat.mul_assoc, hr, Rat.mul_one]
theorem least_of : ∀ {m : PM}, m ≠ [] → ∃ p ∈ m, ∀ q ∈ m, cd p.1 ≤ cd q.1
  | [], h => absurd rfl h
  | p :: r, _ => by
    by_cases hr : r = []
    · subst hr
      exact ⟨p, List.mem_cons_self .., fun q hq => by rw [List.mem_singleton] at hq; rw [hq]; exact Int.le_refl _⟩
    · obtain ⟨x, hx, le⟩ := least_of hr
      by_cases w : cd p.1 ≤ cd x.1
      · refine ⟨p, List.mem_cons_self .., fun q hq => ?_⟩
        rcases List.mem_cons.mp hq with rfl | hq
        · exact Int.le_refl _
        · exact Int.le_trans w (le q hq)
      · refine ⟨x, List.mem_cons_of_mem _ hx, fun q hq => ?_⟩
        rcases List.mem_cons.mp hq with rfl | hq
        · omega
        · exact le q hq
/-- a product of two that are not 0 is not 0 -/
theorem mul_ne {n : Nat} {a b : PM} (ka : ∀ p ∈ a, p.1.length = n ∧ ∀ k ∈ p.1, k ≤ 80) (kb : ∀ p ∈ b, p.1.length = n ∧ ∀ k ∈ p.1, k ≤ 80) (nda : (a.map (·.1)).Nodup) (ndb : (b.map (·.1)).Nodup) (na : NZ a) (nb : NZ b) (a0 : a ≠ []) (b0 : b ≠ []) : ¬ Eqp [] (mulM a b) := fun h => by
  obtain ⟨p, hp, lp⟩ := least_of a0
  obtain ⟨q, hq, lq⟩ := least_of b0
  have z := h (ind (plE p.1 q.1))
  rw [lin_mul] at z
  have e1 : lin (fun e => lin (fun f => ind (plE p.1 q.1) (plE e f)) b) a = lin (fun e => ind p.1 e * q.2) a := by
    refine lin_congr fun x hx => ?_
    by_cases w : x.1 = p.1
    · have e2 : lin (fun f => ind (plE p.1 q.1) (plE x.1 f)) b = lin (ind q.1) b := lin_congr fun y hy => by
        show (if plE x.1 y.1 = plE p.1 q.1 then (1 : Rat) else 0) = if y.1 = q.1 then 1 else 0
        rw [w]
        by_cases v : y.1 = q.1
        · rw [if_pos v, v, if_pos rfl]
        · rw [if_neg v, if_neg]
          intro u
          have c1 := congrArg cd u
          rw [cd_add ((ka p hp).1.trans (kb y hy).1.symm), cd_add ((ka p hp).1.trans (kb q hq).1.symm)] at c1
          exact v (cd_inj (kb y hy) (kb q hq) (by omega))
      show lin _ b = ind p.1 x.1 * q.2
      rw [e2, ind_of ndb hq]
      show q.2 = (if x.1 = p.1 then 1 else 0) * q.2
      rw [if_pos w, Rat.one_mul]
    · have e2 : lin (fun f => ind (plE p.1 q.1) (plE x.1 f)) b = lin (fun _ => 0) b := lin_congr fun y hy => by
        show (if plE x.1 y.1 = plE p.1 q.1 then (1 : Rat) else 0) = 0
        rw [if_neg]
        intro u
        have c1 := congrArg cd u
        rw [cd_add ((ka x hx).1.trans (kb y hy).1.symm), cd_add ((ka p hp).1.trans (kb q hq).1.symm)] at c1
        have l1 := lp x hx
        have l2 := lq y hy
        exact w (cd_inj (ka x hx) (ka p hp) (by omega))
      show lin _ b = ind p.1 x.1 * q.2
      rw [e2, lin_zero]
      show 0 = (if x.1 = p.1 then 1 else 0) * q.2
      rw [if_neg w, Rat.zero_mul]
  rw [e1, lin_mulr, ind_of nda hp] at z
  have z' : (0 : Rat) = p.2 * q.2 := z
  rcases Rat.mul_eq_zero.mp z'.symm with w | w
  · exact na p hp w
  · exact nb q hq w

end
end AL
set_option Elab.async false
set_option maxRecDepth 100000
set_option exponentiation.threshold 70000
set_option maxHeartbeats 1000000
namespace AL
open PySem PySem.Spec PyProof.Rows L2 RZ
section
variable {P : Program} {w : World} {K : PySem.W.Frag} {mg : Str → Option Value} {base : Heap}

theorem rat_pos {x : Rat} : 0 < x ↔ 0 < x.num := by
  rw [Rat.lt_iff]
  show (0 : Int) * (x.den : Int) < x.num * ((1 : Nat) : Int) ↔ _
  rw [Int.zero_mul, Int.natCast_one, Int.mul_one]
theorem key_eq {m : PM} (nd : (m.map (·.1)).Nodup) {p q : Ex × Rat} (hp : p ∈ m) (hq : q ∈ m) (h : p.1 = q.1) : p = q := by
  have z := ind_of nd hp
  rw [h, ind_of nd hq] at z
  exact Prod.ext h z.symm
theorem fdiv_absI {x sg : Int} (g0 : sg ≠ 0) (h : sg ∣ x) : (x.fdiv sg).natAbs = x.natAbs / sg.natAbs := by
  obtain ⟨k, rfl⟩ := h
  rw [Int.mul_comm, Int.mul_fdiv_cancel _ g0, Int.natAbs_mul, Nat.mul_div_cancel _ (by omega)]
theorem fdiv_abs {x : Int} {g : Nat} (g0 : g ≠ 0) (h : (g : Int) ∣ x) : (x.fdiv (g : Int)).natAbs = x.natAbs / g := by
  obtain ⟨k, rfl⟩ := h
  rw [Int.mul_comm, Int.mul_fdiv_cancel _ (by omega), Int.natAbs_mul, Int.natAbs_natCast, Nat.mul_div_cancel _ (Nat.pos_of_ne_zero g0)]
/-- whatever is told by the law's form comes back in it -/
theorem made_formN {n : Nat} {l1 l2 a b t u : PM} {c : Rat} {e : Ex} (nd1 : (l1.map (·.1)).Nodup) (nd2 : (l2.map (·.1)).Nodup) (nz1 : NZ l1) (nz2 : NZ l2) (k : ∀ p ∈ l1 ++ l2, p.1.length = n ∧ ∀ k ∈ p.1, k ≤ 80) (le : e.length = n) (cne : c ≠ 0)
    (F : FormC n l1 l2) (aa : Asc a) (za : NZ a) (ab : Asc b) (zb : NZ b) (ea : Eqp a (shM e c l1)) (eb : Eqp b (shM e c l2)) (FO : FormOf n a b t u) : Eqp t l1 ∧ Eqp u l2 := by
  have k1 : ∀ p ∈ l1, p.1.length = e.length := fun p hp => (k p (List.mem_append_left _ hp)).1.trans le.symm
  have k2 : ∀ p ∈ l2, p.1.length = e.length := fun p hp => (k p (List.mem_append_right _ hp)).1.trans le.symm
  have ma := eqp_mem (asc_nodup aa) (shM_nodup k1 nd1) za (shM_nz cne nz1) ea
  have mb := eqp_mem (asc_nodup ab) (shM_nodup k2 nd2) zb (shM_nz cne nz2) eb
  rcases F with ⟨f1, f2⟩ | ⟨f1, f2, f3, f4, f5, pm, f6, f7, f8⟩
  · have a0 : a = [] := by
      cases a with
      | nil => rfl
      | cons x r => have z := (ma x).mp (List.mem_cons_self ..); rw [f1] at z; cases z
    obtain ⟨t0, u0⟩ := FO.1 a0
    rw [t0, f1]
    exact ⟨Eqp.rfl', u0.trans f2.symm⟩
  have a0 : a ≠ [] := fun z => by
    obtain ⟨x, hx⟩ := List.exists_mem_of_ne_nil l1 f1
    have w := (ma (plE x.1 e, x.2 * c)).mpr (List.mem_map.mpr ⟨x, hx, rfl⟩)
    rw [z] at w; cases w
  obtain ⟨p0, s, hb0, ls, lst, et, eu⟩ := FO.2 a0
  have mab : ∀ q, q ∈ a ++ b ↔ ∃ x ∈ l1 ++ l2, q = (plE x.1 e, x.2 * c) := fun q => by
    rw [List.mem_append, ma, mb]
    constructor
    · rintro (h | h)
      · obtain ⟨x, hx, rfl⟩ := List.mem_map.mp h
        exact ⟨x, List.mem_append_left _ hx, rfl⟩
      · obtain ⟨x, hx, rfl⟩ := List.mem_map.mp h
        exact ⟨x, List.mem_append_right _ hx, rfl⟩
    · rintro ⟨x, hx, rfl⟩
      rcases List.mem_append.mp hx with hx | hx
      · exact .inl (List.mem_map.mpr ⟨x, hx, rfl⟩)
      · exact .inr (List.mem_map.mpr ⟨x, hx, rfl⟩)
  have mp0 := List.mem_of_getElem? hb0
  obtain ⟨q0, hq0, eq0⟩ := List.mem_map.mp ((mb p0).mp mp0)
  have lea : ∀ q ∈ b, cd p0.1 ≤ cd q.1 := by
    cases b with
    | nil => cases hb0
    | cons x r =>
      cases Option.some.inj hb0
      intro q hq
      rcases List.mem_cons.mp hq with rfl | hq
      · exact Int.le_refl _
      · exact Int.le_of_lt ((List.pairwise_cons.mp ab).1 q hq)
  have q0pos : 0 < q0.2 := by
    have w1 := f7 q0 hq0
    have w2 := lea (plE pm.1 e, pm.2 * c) ((mb _).mpr (List.mem_map.mpr ⟨pm, f6, rfl⟩))
    rw [← eq0] at w2
    have w3 : cd (plE q0.1 e) ≤ cd (plE pm.1 e) := w2
    rw [cd_add (k2 q0 hq0), cd_add (k2 pm f6)] at w3
    have ke := cd_inj (k q0 (List.mem_append_right _ hq0)) (k pm (List.mem_append_right _ f6)) (by omega)
    rw [key_eq nd2 hq0 f6 ke]
    exact f8
  have p0c : p0.2 = q0.2 * c := by rw [← eq0]
  have se : s = e := by
    refine List.ext_getElem (by omega) fun j h1 h2 => ?_
    obtain ⟨s1, p, hp, s2⟩ := lst j
    obtain ⟨x, hx, rfl⟩ := (mab p).mp hp
    obtain ⟨z, hz, z0⟩ := f5 j (by omega)
    have s3 := s1 _ ((mab _).mpr ⟨z, hz, rfl⟩)
    have s2' : s.getD j 0 = (plE x.1 e).getD j 0 := s2
    have s3' : s.getD j 0 ≤ (plE z.1 e).getD j 0 := s3
    rw [plE_get ((k x hx).1.trans le.symm)] at s2'
    rw [plE_get ((k z hz).1.trans le.symm), z0] at s3'
    have d1 : s.getD j 0 = s[j] := by rw [List.getD_eq_getElem?_getD, List.getElem?_eq_getElem h1]; rfl
    have d2 : e.getD j 0 = e[j] := by rw [List.getD_eq_getElem?_getD, List.getElem?_eq_getElem h2]; rfl
    omega
  subst se
  have lc := lcm_fold ((a ++ b).map (·.2)) 1 (by decide)
  have Lpos : 0 < lcmD ((a ++ b).map (·.2)) := lc.1
  have Ld : ∀ p ∈ a ++ b, p.2.den ∣ lcmD ((a ++ b).map (·.2)) := fun p hp => lc.2.2.1 p.2 (List.mem_map.mpr ⟨p, hp, rfl⟩)
  have gd : ∀ p ∈ a ++ b, gcdN (a ++ b) ∣ p.2.num.natAbs := (gcd_fold (a ++ b) 0).2.1
  have mp1 : p0 ∈ a ++ b := List.mem_append_right _ mp0
  have nn0 : p0.2.num.natAbs ≠ 0 := fun w => zb p0 mp0 (num_zero.mp (Int.natAbs_eq_zero.mp w))
  have g0 : gcdN (a ++ b) ≠ 0 := fun w => by
    have z := gd p0 mp1
    rw [w] at z
    exact nn0 (Nat.eq_zero_of_zero_dvd z)
  have sn : (sgG p0.2 (gcdN (a ++ b))).natAbs = gcdN (a ++ b) := by unfold sgG; split <;> omega
  have sgd : ∀ p ∈ a ++ b, sgG p0.2 (gcdN (a ++ b)) ∣ p.2.num := fun p hp => by
    have z := Int.ofNat_dvd_left.mpr (gd p hp)
    unfold sgG
    split
    · exact Int.neg_dvd.mpr z
    · exact z
  have sgp : 0 < c * (((sgG p0.2 (gcdN (a ++ b)) : Int) : Rat))⁻¹ := by
    have g1 : (0 : Rat) < ((gcdN (a ++ b) : Int) : Rat) := rat_pos.mpr (by rw [Rat.num_intCast]; omega)
    have g2 := Rat.inv_pos.mpr g1
    unfold sgG
    by_cases w : p0.2.num < 0
    · rw [if_pos w]
      have w1 : 0 < -p0.2 := rat_pos.mpr (by rw [Rat.neg_num]; omega)
      rw [p0c, show -(q0.2 * c) = q0.2 * -c by grind] at w1
      have w2 := (Rat.mul_pos_iff_of_pos_left q0pos).mp w1
      have w3 := Rat.mul_pos w2 g2
      have e5 : (-((gcdN (a ++ b) : Int) : Rat))⁻¹ = -(((gcdN (a ++ b) : Int) : Rat))⁻¹ := by
        generalize ((gcdN (a ++ b) : Int) : Rat) = y at g1
        have y0 : y ≠ 0 := fun z => by rw [z] at g1; exact absurd g1 Rat.lt_irrefl
        grind
      rw [Rat.intCast_neg, e5]
      have e : -c * (((gcdN (a ++ b) : Int) : Rat))⁻¹ = c * -(((gcdN (a ++ b) : Int) : Rat))⁻¹ := by grind
      rw [← e]
      exact w3
    · rw [if_neg w]
      have w0 : p0.2.num ≠ 0 := fun z => nn0 (by rw [z]; rfl)
      have w1 : 0 < p0.2 := rat_pos.mpr (by omega)
      rw [p0c] at w1
      exact Rat.mul_pos ((Rat.mul_pos_iff_of_pos_left q0pos).mp w1) g2
  have prim : ∀ h : Nat, (∀ p ∈ a ++ b, h ∣ p.2.num.natAbs / gcdN (a ++ b) * (lcmD ((a ++ b).map (·.2)) / p.2.den)) → h = 1 := fun h hh => form_prim ⟨p0, mp1, fun z => zb p0 mp0 z⟩ hh
  have s0 : sgG p0.2 (gcdN (a ++ b)) ≠ 0 := by omega
  generalize sgG p0.2 (gcdN (a ++ b)) = sg at *
  generalize gcdN (a ++ b) = g at *
  generalize lcmD ((a ++ b).map (·.2)) = L at *
  have val : ∀ x ∈ l1 ++ l2, x.2 * (c * ((L : Rat) / (sg : Rat))) = ((cI L sg (x.2 * c) : Int) : Rat) := fun x hx => by
    have hq := (mab _).mpr ⟨x, hx, rfl⟩
    rw [bro_rat s0 (Ld _ hq) (sgd _ hq), Rat.mul_assoc]
  have pos : 0 < c * ((L : Rat) / (sg : Rat)) := by
    have w := Rat.mul_pos (rat_pos.mpr (show 0 < (L : Rat).num by rw [Rat.num_natCast]; omega)) sgp
    rw [Rat.div_def]
    have e : (L : Rat) * (c * (sg : Rat)⁻¹) = c * ((L : Rat) * (sg : Rat)⁻¹) := by grind
    rw [← e]
    exact w
  have one : c * ((L : Rat) / (sg : Rat)) = 1 := by
    have gg : ∀ h : Nat, (∀ p ∈ l1 ++ l2, h ∣ (p.2 * (c * ((L : Rat) / (sg : Rat)))).num.natAbs) → h = 1 := fun h hh => prim h fun p hp => by
      obtain ⟨x, hx, rfl⟩ := (mab p).mp hp
      have z := hh x hx
      rw [val x hx, Rat.num_intCast] at z
      unfold cI at z
      have dn := (x.2 * c).den_nz
      rw [Int.natAbs_mul, fdiv_absI s0 (sgd _ hp), sn, fdiv_abs dn (Int.natCast_dvd_natCast.mpr (Ld _ hp)), Int.natAbs_natCast] at z
      exact z
    rcases ratio_one (l := l1 ++ l2) (r := c * ((L : Rat) / (sg : Rat))) f3 f4 (fun p hp => by rw [val p hp, Rat.den_intCast]) gg with w | w
    · exact w
    · rw [w] at pos
      exact absurd (rat_pos.mp pos) (by decide)
  have e1 := et.trans (Eqp.qf ea _ s)
  have e2 := eu.trans (Eqp.qf eb _ s)
  rw [qf_shM s one k1] at e1
  rw [qf_shM s one k2] at e2
  exact ⟨e1, e2⟩
theorem made_form {n : Nat} {l1 l2 a b t u : PM} {c : Rat} {e : Ex} (nd1 : (l1.map (·.1)).Nodup) (nd2 : (l2.map (·.1)).Nodup) (nz1 : NZ l1) (nz2 : NZ l2) (k : ∀ p ∈ l1 ++ l2, p.1.length = n ∧ ∀ k ∈ p.1, k ≤ 80) (le : e.length = n) (c0 : 0 < c)
    (F : FormC n l1 l2) (aa : Asc a) (za : NZ a) (ab : Asc b) (zb : NZ b) (ea : Eqp a (shM e c l1)) (eb : Eqp b (shM e c l2)) (FO : FormOf n a b t u) : Eqp t l1 ∧ Eqp u l2 :=
  made_formN nd1 nd2 nz1 nz2 k le (fun z => by rw [z] at c0; exact absurd c0 Rat.lt_irrefl) F aa za ab zb ea eb FO
/-- p1 over p2 is m1 over m2 -/
def RelF (n : Nat) (m1 m2 p1 p2 : PM) : Prop := (Eqp m1 [] ∧ p1 = []) ∨ ∃ e c, e.length = n ∧ c ≠ 0 ∧ Eqp m1 (shM e c p1) ∧ Eqp m2 (shM e c p2)
theorem lin_shM (φ : Ex → Rat) (e : Ex) (c : Rat) : ∀ m : PM, lin φ (shM e c m) = lin (fun k => φ (plE k e)) m * c
  | [] => by show (0 : Rat) = 0 * c; grind
  | p :: r => by
    show p.2 * c * φ (plE p.1 e) + lin φ (shM e c r) = (p.2 * φ (plE p.1 e) + lin _ r) * c
    rw [lin_shM φ e c r]
    grind
theorem lin_shf (φ : Ex → Rat) (s : Ex) : ∀ m : PM, lin φ (shfM s m) = lin (fun k => φ (subE k s)) m
  | [] => rfl
  | p :: r => by
    show p.2 * φ (subE p.1 s) + lin φ (shfM s r) = p.2 * φ (subE p.1 s) + lin _ r
    rw [lin_shf φ s r]
theorem pl_subE {e s : Ex} (h : e.length = s.length) (le : ∀ j : Nat, s.getD j 0 ≤ e.getD j 0) : plE (subE e s) s = e := by
  have l1 : (subE e s).length = s.length := by unfold subE; rw [List.length_zipWith, h, Nat.min_self]
  refine List.ext_getElem (by rw [plE_len l1, l1, h]) fun j h1 h2 => ?_
  have z := plE_get l1 j
  have w : (subE e s).getD j 0 = e.getD j 0 - s.getD j 0 := by
    unfold subE
    rw [List.getD_eq_getElem?_getD, List.getD_eq_getElem?_getD, List.getD_eq_getElem?_getD, List.getElem?_zipWith, List.getElem?_eq_getElem h2, List.getElem?_eq_getElem (by omega : j < s.length)]
    rfl
  have d1 : (plE (subE e s) s).getD j 0 = (plE (subE e s) s)[j] := by rw [List.getD_eq_getElem?_getD, List.getElem?_eq_getElem h1]; rfl
  have d2 : e.getD j 0 = e[j] := by rw [List.getD_eq_getElem?_getD, List.getElem?_eq_getElem h2]; rfl
  have := le j
  omega
theorem back_form {s : Ex} {f : Rat} {m p : PM} (f0 : f ≠ 0) (ks : ∀ x ∈ m, x.1.length = s.length ∧ ∀ j : Nat, s.getD j 0 ≤ x.1.getD j 0) (h : Eqp p (sclM f (shfM s m))) : Eqp m (shM s f⁻¹ p) := fun φ => by
  rw [lin_shM, h, lin_scl, lin_shf, Rat.mul_assoc, Rat.mul_inv_cancel _ f0, Rat.mul_one]
  exact (lin_congr fun x hx => by rw [pl_subE (ks x hx).1 (ks x hx).2]).symm
theorem inv_ne0 {f : Rat} (f0 : f ≠ 0) : f⁻¹ ≠ 0 := fun z => by
  have w := Rat.mul_inv_cancel _ f0
  rw [z, Rat.mul_zero] at w
  exact absurd w (by decide +kernel)
theorem RelF.congr {n : Nat} {m1 m2 m1' m2' p1 p2 : PM} (h : RelF n m1 m2 p1 p2) (e1 : Eqp m1' m1) (e2 : Eqp m2' m2) : RelF n m1' m2' p1 p2 := by
  rcases h with ⟨r1, r2⟩ | ⟨e, c, le, c0, q1, q2⟩
  · exact .inl ⟨e1.trans r1, r2⟩
  · exact .inr ⟨e, c, le, c0, e1.trans q1, e2.trans q2⟩
theorem asc_nil {a : PM} (aa : Asc a) (za : NZ a) (e : Eqp a []) : a = [] := uniq aa .nil za (fun p hp => nomatch hp) e
/-- the program's form of the same quotient is the law's -/
theorem form_same {n : Nat} {p1 p2 m1 m2 a b t u : PM} (nd1 : (p1.map (·.1)).Nodup) (nd2 : (p2.map (·.1)).Nodup) (nz1 : NZ p1) (nz2 : NZ p2) (k : ∀ p ∈ p1 ++ p2, p.1.length = n ∧ ∀ k ∈ p.1, k ≤ 80) (F : FormC n p1 p2) (R : RelF n m1 m2 p1 p2)
    (aa : Asc a) (za : NZ a) (ab : Asc b) (zb : NZ b) (ea : Eqp a m1) (eb : Eqp b m2) (FO : FormOf n a b t u) : Eqp t p1 ∧ Eqp u p2 := by
  rcases R with ⟨r1, r2⟩ | ⟨e, c, le, c0, q1, q2⟩
  · have a0 := asc_nil aa za (ea.trans r1)
    obtain ⟨t0, u0⟩ := FO.1 a0
    rcases F with ⟨_, f2⟩ | ⟨f1, _⟩
    · rw [t0, r2]
      exact ⟨Eqp.rfl', u0.trans f2.symm⟩
    · exact absurd r2 f1
  · exact made_formN nd1 nd2 nz1 nz2 k le c0 F aa za ab zb (ea.trans q1) (eb.trans q2) FO
/-- x times L, an integer where x's bottom divides L -/
def xI (L : Nat) (x : Rat) : Int := (x.num * (L : Int)).fdiv (x.den : Int)
theorem xI_eq {L : Nat} {x : Rat} (h : x.den ∣ L) : xI L x = x.num * ((L / x.den : Nat) : Int) := by
  obtain ⟨w, rfl⟩ := h
  have d0 := x.den_nz
  unfold xI
  rw [Nat.mul_div_cancel_left _ (Nat.pos_of_ne_zero d0), Int.natCast_mul, Int.mul_left_comm, Int.mul_comm, Int.mul_fdiv_cancel _ (by omega)]
theorem xI_rat {L : Nat} {x : Rat} (h : x.den ∣ L) : ((xI L x : Int) : Rat) = x * (L : Rat) := by
  rw [xI_eq h]
  obtain ⟨w, rfl⟩ := h
  have d0 := x.den_nz
  rw [Nat.mul_div_cancel_left _ (Nat.pos_of_ne_zero d0), Rat.intCast_mul, Rat.intCast_natCast, Rat.natCast_mul]
  have ex : (x.num : Rat) / ((x.den : Nat) : Rat) = x := by
    have z := Rat.mkRat_self x
    rw [Rat.mkRat_eq_div] at z
    exact z
  have dr : ((x.den : Nat) : Rat) ≠ 0 := fun z => d0 (by exact_mod_cast z)
  have z := Rat.div_mul_cancel (a := (x.num : Rat)) dr
  rw [ex] at z
  rw [← z]
  grind
theorem xI_le {L D B : Nat} {x : Rat} (hL : x.den ∣ L) (LD : L ≤ D) (h : Sz D B x) : (xI L x).natAbs ≤ B * D := by
  obtain ⟨w, hw⟩ := sz_dvd h
  obtain ⟨D0, X, hX, e⟩ := h
  have d0 := x.den_nz
  have e2 : x.num * (D : Int) = X * (x.den : Int) := (Rat.mkRat_eq_iff d0 (by omega)).mp ((Rat.mkRat_self x).trans e)
  have w0 : 0 < w := Nat.pos_of_ne_zero fun z => by rw [z, Nat.mul_zero] at hw; omega
  have e3 : x.num * (w : Int) = X := by
    rw [hw, Int.natCast_mul] at e2
    have e4 : (x.den : Int) * (x.num * (w : Int)) = (x.den : Int) * X := by rw [Int.mul_comm _ X, ← e2, Int.mul_left_comm]
    exact Int.eq_of_mul_eq_mul_left (by omega) e4
  have b1 : x.num.natAbs * w ≤ B * x.den * w := by
    rw [← e3, Int.natAbs_mul, Int.natAbs_natCast, hw, ← Nat.mul_assoc] at hX
    exact hX
  have b2 : x.num.natAbs ≤ B * x.den := Nat.le_of_mul_le_mul_right b1 w0
  rw [xI_eq hL, Int.natAbs_mul, Int.natAbs_natCast]
  refine Nat.le_trans (Nat.mul_le_mul_right _ b2) ?_
  rw [Nat.mul_assoc, Nat.mul_div_cancel' hL]
  exact Nat.mul_le_mul_left _ LD
def gcdX (L : Nat) : List Rat → Nat := fun xs => xs.foldl (fun s x => Nat.gcd s (xI L x).natAbs) 0
theorem gcdX_take {L : Nat} {xs : List Rat} {i : Nat} {x : Rat} (h : xs[i]? = some x) : gcdX L (xs.take (i + 1)) = Nat.gcd (gcdX L (xs.take i)) (xI L x).natAbs := by
  unfold gcdX
  rw [List.take_add_one, h, List.foldl_append]
  rfl
theorem lcmD_take {xs : List Rat} {i : Nat} {x : Rat} (h : xs[i]? = some x) : lcmD (xs.take (i + 1)) = Nat.lcm (lcmD (xs.take i)) x.den := by
  unfold lcmD
  rw [List.take_add_one, h, List.foldl_append]
  rfl
theorem gcdX_fold (L : Nat) : ∀ (xs : List Rat) (s : Nat), xs.foldl (fun s x => Nat.gcd s (xI L x).natAbs) s ∣ s ∧ (∀ x ∈ xs, xs.foldl (fun s x => Nat.gcd s (xI L x).natAbs) s ∣ (xI L x).natAbs) ∧ ∀ D, D ∣ s → (∀ x ∈ xs, D ∣ (xI L x).natAbs) → D ∣ xs.foldl (fun s x => Nat.gcd s (xI L x).natAbs) s
  | [], s => ⟨Nat.dvd_refl _, (fun x hx => nomatch hx), fun D h _ => h⟩
  | y :: r, s => by
    obtain ⟨h1, h2, h3⟩ := gcdX_fold L r (Nat.gcd s (xI L y).natAbs)
    refine ⟨Nat.dvd_trans h1 (Nat.gcd_dvd_left _ _), fun x hx => ?_, fun D hs hx => h3 D (Nat.dvd_gcd hs (hx y (List.mem_cons_self ..))) fun x m => hx x (List.mem_cons_of_mem _ m)⟩
    rcases List.mem_cons.mp hx with rfl | hx
    · exact Nat.dvd_trans h1 (Nat.gcd_dvd_right _ _)
    · exact h2 x hx
theorem subE_get {e s : Ex} (h : e.length = s.length) (j : Nat) : (subE e s).getD j 0 = e.getD j 0 - s.getD j 0 := by
  unfold subE
  rw [List.getD_eq_getElem?_getD, List.getD_eq_getElem?_getD, List.getD_eq_getElem?_getD, List.getElem?_zipWith]
  by_cases hj : j < e.length
  · rw [List.getElem?_eq_getElem hj, List.getElem?_eq_getElem (by omega : j < s.length)]
    rfl
  · rw [List.getElem?_eq_none (by omega), List.getElem?_eq_none (by omega : s.length ≤ j)]
    rfl
/-- by and divisor, as they come -/
structure ByG (xs : List Rat) (L G : Nat) : Prop where
  pos : 0 < L
  dv : ∀ x ∈ xs, x.den ∣ L
  gd : ∀ x ∈ xs, G ∣ (xI L x).natAbs
  gm : ∀ D, (∀ x ∈ xs, D ∣ (xI L x).natAbs) → D ∣ G
theorem byG (xs : List Rat) : ByG xs (lcmD xs) (gcdX (lcmD xs) xs) :=
  let a := lcm_fold xs 1 (by decide)
  let b := gcdX_fold (lcmD xs) xs 0
  ⟨a.1, a.2.2.1, b.2.1, fun D h => b.2.2 D (Nat.dvd_zero _) h⟩
/-- the factor -/
def facR (y : Rat) (L G : Nat) : Rat := mkRat (if 0 < y.num then (L : Int) else -(L : Int)) G
theorem fac_val {xs : List Rat} {L G : Nat} (Y : ByG xs L G) (G0 : 0 < G) (y : Rat) {x : Rat} (hx : x ∈ xs) : ∃ k : Int, x * facR y L G = (k : Rat) ∧ (xI L x).natAbs = G * k.natAbs := by
  obtain ⟨k, hk⟩ := Int.ofNat_dvd_left.mpr (Y.gd x hx)
  have e := xI_rat (Y.dv x hx)
  have gr : ((G : Nat) : Rat) ≠ 0 := fun z => by
    have w : G = 0 := by exact_mod_cast z
    omega
  have ek : x * (L : Rat) / (G : Rat) = (k : Rat) := by
    rw [← e, hk, Rat.intCast_mul, Rat.intCast_natCast, Rat.mul_comm]
    exact Rat.mul_div_cancel gr
  have na : (xI L x).natAbs = G * k.natAbs := by rw [hk, Int.natAbs_mul, Int.natAbs_natCast]
  unfold facR
  rw [Rat.mkRat_eq_div]
  by_cases w : 0 < y.num
  · rw [if_pos w, Rat.intCast_natCast]
    refine ⟨k, ?_, na⟩
    rw [← ek, Rat.div_def, Rat.div_def, Rat.mul_assoc]
  · rw [if_neg w, Rat.intCast_neg, Rat.intCast_natCast]
    refine ⟨-k, ?_, by rw [Int.natAbs_neg]; exact na⟩
    rw [Rat.intCast_neg, ← ek, Rat.div_def, Rat.div_def]
    grind
theorem fac_pos {L G : Nat} (L0 : 0 < L) (G0 : 0 < G) {y : Rat} (y0 : y ≠ 0) : 0 < y * facR y L G := by
  have Lr : (0 : Rat) < (L : Rat) := rat_pos.mpr (by rw [Rat.num_natCast]; omega)
  have Gr : (0 : Rat) < ((G : Rat))⁻¹ := Rat.inv_pos.mpr (rat_pos.mpr (by rw [Rat.num_natCast]; omega))
  unfold facR
  rw [Rat.mkRat_eq_div]
  by_cases w : 0 < y.num
  · rw [if_pos w, Rat.intCast_natCast, Rat.div_def]
    exact Rat.mul_pos (rat_pos.mpr w) (Rat.mul_pos Lr Gr)
  · rw [if_neg w, Rat.intCast_neg, Rat.intCast_natCast, Rat.div_def]
    have hy : 0 < -y := rat_pos.mpr (by
      rw [Rat.neg_num]
      have n0 : y.num ≠ 0 := fun z => y0 (num_zero.mp z)
      omega)
    have z := Rat.mul_pos hy (Rat.mul_pos Lr Gr)
    have e : -y * ((L : Rat) * (G : Rat)⁻¹) = y * (-(L : Rat) * (G : Rat)⁻¹) := by grind
    rw [← e]
    exact z
/-- what the law makes is in its form -/
theorem law_formC {n : Nat} {m1 m2 : PM} {s : Ex} {L G : Nat} {pk : Ex × Rat} (ne1 : m1 ≠ []) (ne2 : m2 ≠ []) (nz2 : NZ m2) (ks : ∀ p ∈ m1 ++ m2, p.1.length = s.length) (att : ∀ j : Nat, j < n → ∃ p ∈ m1 ++ m2, p.1.getD j 0 = s.getD j 0)
    (Y : ByG ((shfM s m1 ++ shfM s m2).map (·.2)) L G) (G0 : 0 < G) (hp : pk ∈ shfM s m2) (least : ∀ q ∈ shfM s m2, cd pk.1 ≤ cd q.1) : FormC n (sclM (facR pk.2 L G) (shfM s m1)) (sclM (facR pk.2 L G) (shfM s m2)) := by
  have mem : ∀ q, q ∈ sclM (facR pk.2 L G) (shfM s m1) ++ sclM (facR pk.2 L G) (shfM s m2) ↔ ∃ x ∈ shfM s m1 ++ shfM s m2, q = (x.1, x.2 * facR pk.2 L G) := fun q => by
    have e : sclM (facR pk.2 L G) (shfM s m1) ++ sclM (facR pk.2 L G) (shfM s m2) = sclM (facR pk.2 L G) (shfM s m1 ++ shfM s m2) := by unfold sclM; rw [List.map_append]
    rw [e]
    unfold sclM
    rw [List.mem_map]
    exact ⟨fun ⟨x, h1, h2⟩ => ⟨x, h1, h2.symm⟩, fun ⟨x, h1, h2⟩ => ⟨x, h1, h2.symm⟩⟩
  have nil : ∀ {m : PM}, m ≠ [] → sclM (facR pk.2 L G) (shfM s m) ≠ [] := fun {m} h w => h (List.map_eq_nil_iff.mp (List.map_eq_nil_iff.mp w))
  have mx : ∀ x ∈ shfM s m1 ++ shfM s m2, x.2 ∈ (shfM s m1 ++ shfM s m2).map (·.2) := fun x hx => List.mem_map.mpr ⟨x, hx, rfl⟩
  refine .inr ⟨nil ne1, nil ne2, fun q hq => ?_, fun h hh => ?_, fun j hj => ?_, (pk.1, pk.2 * facR pk.2 L G), List.mem_map.mpr ⟨pk, hp, rfl⟩, fun q hq => ?_, ?_⟩
  · obtain ⟨x, hx, rfl⟩ := (mem q).mp hq
    obtain ⟨k, e, _⟩ := fac_val Y G0 pk.2 (mx x hx)
    show (x.2 * _).den = 1
    rw [e, Rat.den_intCast]
  · have w := Y.gm (G * h) fun y hy => by
      obtain ⟨x, hx, rfl⟩ := List.mem_map.mp hy
      obtain ⟨k, e, ek⟩ := fac_val Y G0 pk.2 hy
      have z := hh _ ((mem _).mpr ⟨x, hx, rfl⟩)
      have z' : h ∣ (x.2 * facR pk.2 L G).num.natAbs := z
      rw [e, Rat.num_intCast] at z'
      rw [ek]
      exact Nat.mul_dvd_mul_left _ z'
    have le := Nat.le_of_dvd G0 w
    have h0 : h ≠ 0 := fun z => by
      subst z
      rw [Nat.mul_zero] at w
      have := Nat.eq_zero_of_zero_dvd w
      omega
    have : h ≤ 1 := Nat.le_of_mul_le_mul_left (by rw [Nat.mul_one]; exact le) G0
    omega
  · obtain ⟨p, h1, h2⟩ := att j hj
    have hs : (subE p.1 s, p.2) ∈ shfM s m1 ++ shfM s m2 := by
      rcases List.mem_append.mp h1 with h | h
      · exact List.mem_append_left _ (List.mem_map.mpr ⟨p, h, rfl⟩)
      · exact List.mem_append_right _ (List.mem_map.mpr ⟨p, h, rfl⟩)
    refine ⟨_, (mem _).mpr ⟨_, hs, rfl⟩, ?_⟩
    show (subE p.1 s).getD j 0 = 0
    rw [subE_get (ks p h1)]
    omega
  · obtain ⟨x, hx, rfl⟩ := List.mem_map.mp hq
    exact least x hx
  · obtain ⟨x, hx, e⟩ := List.mem_map.mp hp
    refine fac_pos Y.pos G0 ?_
    rw [← e]
    exact nz2 x hx

end
end AL
set_option Elab.async false
set_option maxRecDepth 100000
set_option exponentiation.threshold 70000
set_option maxHeartbeats 1000000
namespace AL
open PySem PySem.Spec PyProof.Rows L2 RZ
section
variable {P : Program} {w : World} {K : PySem.W.Frag} {mg : Str → Option Value} {base : Heap}

theorem ne_of_nz {z : ZM} (nd : (z.map (·.1)).Nodup) (nz : ∀ q ∈ z, q.2 ≠ 0) (ne : z ≠ []) : ¬ Eqp [] (toQ z) := fun e => by
  have nz' : NZ (toQ z) := fun q hq => by
    obtain ⟨p, hp, rfl⟩ := List.mem_map.mp hq
    exact fun w => nz p hp (by have w' : ((p.2 : Int) : Rat) = 0 := w; exact_mod_cast w')
  obtain ⟨x, hx⟩ := List.exists_mem_of_ne_nil z ne
  have := (eqp_mem (a := []) List.nodup_nil (by rw [toQ_keys]; exact nd) (fun p hp => nomatch hp) nz' e (x.1, ((x.2 : Int) : Rat))).mpr (List.mem_map.mpr ⟨x, hx, rfl⟩)
  cases this
theorem ZOk.nz {n E C len : Nat} {z : ZM} (h : ZOk n E C len z) : ¬ Eqp [] (toQ z) := ne_of_nz h.nd (fun q hq => (h.sz q hq).1) h.ne
theorem ZOk.zb {n E C len E' C' : Nat} {z : ZM} (h : ZOk n E C len z) (hl : len < 64) (hE : E ≤ E') (hC : C ≤ C') : ZB n E' C' z :=
  ⟨h.nd, Nat.lt_of_le_of_lt h.len hl, fun q hq => ⟨(h.key q hq).1, fun k hk => Nat.le_trans ((h.key q hq).2 k hk) hE⟩, fun q hq => Nat.le_trans (h.sz q hq).2 hC⟩
theorem ZB.mono {n E C E' C' : Nat} {z : ZM} (h : ZB n E C z) (hE : E ≤ E') (hC : C ≤ C') : ZB n E' C' z :=
  ⟨h.nd, h.len, fun q hq => ⟨(h.key q hq).1, fun k hk => Nat.le_trans ((h.key q hq).2 k hk) hE⟩, fun q hq => Nat.le_trans (h.sz q hq) hC⟩
/-- drawn products -/
theorem times_zb {n Ea Eb C D : Nat} {a b : ZM} (ka : ZB n Ea C a) (kb : ZB n Eb D b) (few : a.length * b.length < 64) : ZB n (Ea + Eb) (C * D * (a.length * b.length)) (nzZ (joinZ [] (mulZ a b))) := by
  have h := mulZ_pb ka.key kb.key ka.sz kb.sz
  have := ZB.join h.1 h.2 (by rw [mulZ_len]; exact few)
  rw [mulZ_len] at this
  exact this
theorem times_ne {n Ea Eb C D : Nat} {a b : ZM} (ka : ZB n Ea C a) (kb : ZB n Eb D b) (ha : Ea ≤ 80) (hb : Eb ≤ 80) (a0 : ¬ Eqp [] (toQ a)) (b0 : ¬ Eqp [] (toQ b)) : ¬ Eqp [] (toQ (nzZ (joinZ [] (mulZ a b)))) := fun e => by
  have e1 := e.trans (nzj_eqp (mulZ a b))
  rw [toQ_mul] at e1
  have nza : ∀ {m : ZM} {E C : Nat}, ZB n E C m → ((nzM (toQ m)).map (·.1)).Nodup := fun {m E C} h => List.Nodup.sublist (List.Sublist.map _ List.filter_sublist) (by rw [toQ_keys]; exact h.nd)
  have kz : ∀ {m : ZM} {E C : Nat}, ZB n E C m → E ≤ 80 → ∀ p ∈ nzM (toQ m), p.1.length = n ∧ ∀ k ∈ p.1, k ≤ 80 := fun {m E C} h hE p hp => by
    obtain ⟨q, hq, rfl⟩ := List.mem_map.mp (List.mem_filter.mp hp).1
    exact ⟨(h.key q hq).1, fun k hk => Nat.le_trans ((h.key q hq).2 k hk) hE⟩
  have ne0 : ∀ {m : ZM}, ¬ Eqp [] (toQ m) → nzM (toQ m) ≠ [] := fun {m} h w => h (by have := nz_eqp (toQ m); rw [w] at this; exact this)
  exact mul_ne (kz ka ha) (kz kb hb) (nza ka) (nza kb) (nz_NZ _) (nz_NZ _) (ne0 a0) (ne0 b0) (e1.trans (Eqp.mul (nz_eqp _).symm (nz_eqp _).symm))
/-- a pair as it is drawn -/
structure PairZ (H : Hp) (p pr : Addr) (n E C k1 k2 : Nat) (z1 z2 : ZM) : Prop where
  ex : ∃ d1 d2, H pr = some (.tup [.ref d1, .ref d2]) ∧ DicZ H d1 z1 ∧ DicZ H d2 z2
  b1 : ZB n E C z1
  b2 : ZB n E C z2
  l1 : z1.length ≤ k1
  l2 : z2.length ≤ k2
  ne : ¬ Eqp [] (toQ z2)
/-- _law_quotient(pen, size) -/
def spQu : Sp := fun vs H Q _ => ∃ (p c : Addr) (m n : Nat), vs = [.ref p, .int (n : Int)] ∧ Pen H p c m ∧ m < 600000000 ∧ n ≤ 3 ∧
  ∀ t pr w H' z1 z2, Pen H' p c (m + 2000) → Keep p H H' → H' t = some (.tup [.ref pr, .ref w]) → PairZ H' p pr n 4 3000 6 6 z1 z2 → Q (.ref t) H'
theorem keep_none {p : Addr} {H H' : Hp} {d : Addr} (k : Keep p H H') (dp : d ≠ p) (h : H' d = none) : H d = none := by
  cases e : H d with
  | none => rfl
  | some o => rw [k _ _ dp e] at h; cases h

abbrev st_law_quotient : Stmt := top 55
theorem sc_law_quotient : FnScope ["_law_pen_here", "_law_size", "_law_way", "_law_weights_here", "_law_top", "_law_bottom", "_law_factor"] ["_law_pen_here", "_law_size"] (defScope st_law_quotient) := ⟨rfl, rfl, rfl, by decide +kernel, rfl, by decide +kernel, by decide +kernel⟩
theorem ok_law_quotient (B : Blt mg)  {f_law_draw : Addr} {fd_law_draw : FuncData} (D_law_draw : DefAt K mg "_law_draw" st_law_draw ["_law_pen_here", "_law_many"] f_law_draw fd_law_draw) {f_law_box : Addr} {fd_law_box : FuncData} (D_law_box : DefAt K mg "_law_box" st_law_box ["_law_size", "_law_most"] f_law_box fd_law_box) {f_law_inner : Addr} {fd_law_inner : FuncData} (D_law_inner : DefAt K mg "_law_inner" st_law_inner ["_law_row", "_law_column"] f_law_inner fd_law_inner) {f_law_pick : Addr} {fd_law_pick : FuncData} (D_law_pick : DefAt K mg "_law_pick" st_law_pick ["_law_pen_here", "_law_some"] f_law_pick fd_law_pick) {f_law_like : Addr} {fd_law_like : FuncData} (D_law_like : DefAt K mg "_law_like" st_law_like ["_law_pen_here", "_law_size", "_law_weights_here", "_law_many"] f_law_like fd_law_like) {f_law_poly_drawn : Addr} {fd_law_poly_drawn : FuncData} (D_law_poly_drawn : DefAt K mg "_law_poly_drawn" st_law_poly_drawn ["_law_pen_here", "_law_size", "_law_many", "_law_most"] f_law_poly_drawn fd_law_poly_drawn) {f_law_poly_times : Addr} {fd_law_poly_times : FuncData} (D_law_poly_times : DefAt K mg "_law_poly_times" st_law_poly_times ["_law_one", "_law_two"] f_law_poly_times fd_law_poly_times) {f_law_weights : Addr} {fd_law_weights : FuncData} (D_law_weights : DefAt K mg "_law_weights" st_law_weights ["_law_pen_here", "_law_size"] f_law_weights fd_law_weights) {f_law_quotient : Addr} {fd_law_quotient : FuncData} (D_law_quotient : DefAt K mg "_law_quotient" st_law_quotient ["_law_pen_here", "_law_size"] f_law_quotient fd_law_quotient) : FnOk P w K mg base CX0 4 f_law_quotient fd_law_quotient ["_law_pen_here", "_law_size"] spQu := by
  have OK_law_draw : FnOk P w K mg base CX0 1 f_law_draw fd_law_draw ["_law_pen_here", "_law_many"] spDraw := ok_law_draw B  D_law_draw
  have OK_law_like : FnOk P w K mg base CX0 3 f_law_like fd_law_like ["_law_pen_here", "_law_size", "_law_weights_here", "_law_many"] spLk := ok_law_like B  D_law_box D_law_draw D_law_inner D_law_pick D_law_like
  have OK_law_poly_drawn : FnOk P w K mg base CX0 3 f_law_poly_drawn fd_law_poly_drawn ["_law_pen_here", "_law_size", "_law_many", "_law_most"] spPd := ok_law_poly_drawn B  D_law_draw D_law_pick D_law_poly_drawn
  have OK_law_poly_times : FnOk P w K mg base CX0 1 f_law_poly_times fd_law_poly_times ["_law_one", "_law_two"] spPt := ok_law_poly_times B  D_law_poly_times
  have OK_law_weights : FnOk P w K mg base CX0 3 f_law_weights fd_law_weights ["_law_pen_here", "_law_size"] spWts := ok_law_weights B  D_law_draw D_law_pick D_law_weights
  refine D_law_quotient.F.ok sc_law_quotient (fun vs H Q E h => ?_) (fun cdv A outer s H vs Q E hr h => ?_)
  · obtain ⟨p, c, m, n, rfl, _⟩ := h; rfl
  · have hu := hu_of hr
    refine ⟨_, (pss_cons (ps_par (i := 2) (j := 3) (by rfl) sc_law_quotient.nd rfl rfl (by decide) rfl rfl (pa_cons (pe_call OK_law_draw (hr.mono (by decide)) rfl D_law_draw.m D_law_draw.F.kp D_law_draw.b .nil pass0 (pa_cons (pv 0) (pa_cons pe_int pa_nil))) (pa_cons (pe_call OK_law_weights (hr.mono (by decide)) rfl D_law_weights.m D_law_weights.F.kp D_law_weights.b .nil pass0 (pa_cons (pv 0) (pa_cons (pv 1) pa_nil))) pa_nil)) (by rfl))
    (pss_cons (ps_if (pt_cmpR op_eq (pv 2) pe_int (nomark _)) (pss_one (ps_ret (pe_tup (pa_cons (pe_tup (pa_cons (pe_call OK_law_poly_drawn (hr.mono (by decide)) rfl D_law_poly_drawn.m D_law_poly_drawn.F.kp D_law_poly_drawn.b .nil pass0 (pa_cons (pv 0) (pa_cons (pv 1) (pa_cons pe_int (pa_cons pe_int pa_nil))))) (pa_cons (pe_call OK_law_poly_drawn (hr.mono (by decide)) rfl D_law_poly_drawn.m D_law_poly_drawn.F.kp D_law_poly_drawn.b .nil pass0 (pa_cons (pv 0) (pa_cons (pv 1) (pa_cons pe_int (pa_cons pe_int pa_nil))))) pa_nil))) (pa_cons (pe_lst pa_nil) pa_nil))))) pss_nil)
    (pss_cons (ps_par (i := 4) (j := 5) (by rfl) sc_law_quotient.nd rfl rfl (by decide) rfl rfl (pa_cons (pe_call OK_law_like (hr.mono (by decide)) rfl D_law_like.m D_law_like.F.kp D_law_like.b .nil pass0 (pa_cons (pv 0) (pa_cons (pv 1) (pa_cons (pv 3) (pa_cons pe_int pa_nil))))) (pa_cons (pe_call OK_law_like (hr.mono (by decide)) rfl D_law_like.m D_law_like.F.kp D_law_like.b .nil pass0 (pa_cons (pv 0) (pa_cons (pv 1) (pa_cons (pv 3) (pa_cons pe_int pa_nil))))) pa_nil)) (by rfl))
    (Evl.pss_cut (ps_if (pt_cmpR op_gt (pv 2) pe_int (nomark _)) (pss_cons (ps_set (i := 6) sc_law_quotient.nd rfl (Or.inl rfl) (pe_call OK_law_poly_drawn (hr.mono (by decide)) rfl D_law_poly_drawn.m D_law_poly_drawn.F.kp D_law_poly_drawn.b .nil pass0 (pa_cons (pv 0) (pa_cons (pv 1) (pa_cons pe_int (pa_cons pe_int pa_nil))))))
    (pss_one (ps_par (i := 4) (j := 5) (by rfl) sc_law_quotient.nd rfl rfl (by decide) rfl rfl (pa_cons (pe_call OK_law_poly_times (hr.mono (by decide)) rfl D_law_poly_times.m D_law_poly_times.F.kp D_law_poly_times.b .nil pass0 (pa_cons (pv 4) (pa_cons (pv 6) pa_nil))) (pa_cons (pe_call OK_law_poly_times (hr.mono (by decide)) rfl D_law_poly_times.m D_law_poly_times.F.kp D_law_poly_times.b .nil pass0 (pa_cons (pv 5) (pa_cons (pv 6) pa_nil))) pa_nil)) (by rfl)))) pss_nil)
    (pss_one (ps_ret (pe_tup (pa_cons (pe_tup (pa_cons (pv 4) (pa_cons (pv 5) pa_nil))) (pa_cons (pv 3) pa_nil))))))))), ?_⟩
    obtain ⟨p, c, m, n, rfl, P, hm, hn, q⟩ := h
    refine ⟨_, rfl, p, c, m, 6, rfl, P, by omega, by decide, by decide, fun way H1 w0 w1 P1 k1 => ?_⟩
    refine ⟨_, rfl, _, rfl, p, c, m + 1, n, rfl, P1, by omega, by omega, fun w H2 ws P2 k2 hw wl wz => ?_⟩
    refine ⟨_, _, rfl, ?_⟩
    have K2 := k1.trans k2
    refine ⟨_, rfl, rfl, _, rfl, ?_⟩
    refine ite2 (fun _ => ?_) (fun _ => ?_)
    · refine ⟨_, rfl, _, rfl, p, c, _, n, 3, 2, rfl, P2, by omega, by omega, by decide, by decide, by decide, by decide, fun d1 H3 z1 P3 k3 hd1 dp1 g1 o1 => ?_⟩
      refine ⟨_, rfl, _, rfl, p, c, _, n, 3, 2, rfl, P3, by omega, by omega, by decide, by decide, by decide, by decide, fun d2 H4 z2 P4 k4 hd2 dp2 g2 o2 => ?_⟩
      refine ⟨(by show 2 ≤ sizeLine; decide), fun pr hpr => ?_⟩
      have n1 := AL.Same.new (o := .tup [.ref d1, .ref d2]) hpr
      refine ⟨(by show 0 ≤ sizeLine; decide), fun l0 hl0 => ?_⟩
      have n2 := AL.Same.new (o := .lst []) hl0
      refine ⟨(by show 2 ≤ sizeLine; decide), fun t ht => ?_⟩
      have n3 := AL.Same.new (o := .tup [.ref pr, .ref l0]) ht
      have s3 := n1.trans (n2.trans n3)
      have g14 : DicZ H4 d1 z1 := k4 _ _ dp1 g1
      exact q t pr l0 _ z1 z2 ((P4.same s3).mono (by omega)) (((K2.trans k3).trans k4).trans (same_k7 s3)) upd_same ⟨⟨d1, d2, (n2.trans n3) _ _ upd_same, g14.same s3, g2.same s3⟩, o1.zb (by decide) (by decide) (by decide), o2.zb (by decide) (by decide) (by decide), Nat.le_trans o1.len (by decide), Nat.le_trans o2.len (by decide), o2.nz⟩
    refine ⟨_, rfl, _, rfl, _, rfl, p, c, w, _, n, 3, ws, rfl, P2, by omega, hn, by decide, by decide, hw, ?_, wl, wz, fun d1 H3 z1 P3 k3 hd1 dp1 g1 o1 => ?_⟩
    · intro z
      obtain ⟨as, h1, _⟩ := hw
      obtain ⟨l, hh⟩ := P2.dict
      rw [z, hh] at h1; cases h1
    refine ⟨_, rfl, _, rfl, _, rfl, p, c, w, _, n, 2, ws, rfl, P3, by omega, hn, by decide, by decide, hw.keep P2 k3, ?_, wl, wz, fun d2 H4 z2 P4 k4 hd2 dp2 g2 o2 => ?_⟩
    · intro z
      obtain ⟨as, h1, _⟩ := hw
      obtain ⟨l, hh⟩ := P2.dict
      rw [z, hh] at h1; cases h1
    refine ⟨_, _, rfl, ?_⟩
    have K4 := (K2.trans k3).trans k4
    have g14 : DicZ H4 d1 z1 := k4 _ _ dp1 g1
    refine ⟨fun σ' H' => ∃ (e1 e2 : Addr) (y1 y2 : ZM) (v6 : Option V), σ' = [some (.ref p), some (.int (n : Int)), some (.int way), some (.ref w), some (.ref e1), some (.ref e2), v6] ∧ Pen H' p c (m + 1900) ∧ Keep p H H' ∧ DicZ H' e1 y1 ∧ DicZ H' e2 y2 ∧ ZB n 4 3000 y1 ∧ ZB n 4 3000 y2 ∧ y1.length ≤ 6 ∧ y2.length ≤ 6 ∧ ¬ Eqp [] (toQ y2), ?_, ?_⟩
    · refine ⟨_, rfl, _, _, rfl, rfl, _, rfl, ?_⟩
      refine ite2 (fun _ => ?_) (fun _ => ?_)
      · refine ⟨_, rfl, _, rfl, p, c, _, n, 2, 1, rfl, P4, by omega, by omega, by decide, by decide, by decide, by decide, fun d3 H5 z3 P5 k5 hd3 dp3 g3 o3 => ?_⟩
        have g15 : DicZ H5 d1 z1 := k5 _ _ dp1 g14
        have g25 : DicZ H5 d2 z2 := k5 _ _ dp2 g2
        have n13 : d1 ≠ d3 := fun z => by rw [← z, show H4 d1 = _ from g14] at hd3; cases hd3
        have n23 : d2 ≠ d3 := fun z => by rw [← z, show H4 d2 = _ from g2] at hd3; cases hd3
        have l1 := o1.len
        have l2 := o2.len
        have l3 := o3.len
        have f1 : z1.length * z3.length ≤ 6 := Nat.le_trans (Nat.mul_le_mul l1 l3) (by decide)
        have f2 : z2.length * z3.length ≤ 6 := Nat.le_trans (Nat.mul_le_mul l2 l3) (by decide)
        have b1 : ZB n 3 5 z1 := o1.zb (by decide) (Nat.le_refl _) (Nat.le_refl _)
        have b2 : ZB n 3 5 z2 := o2.zb (by decide) (Nat.le_refl _) (Nat.le_refl _)
        have b3 : ZB n 1 50 z3 := o3.zb (by decide) (Nat.le_refl _) (Nat.le_refl _)
        refine ⟨_, rfl, _, rfl, d1, d3, z1, z3, n, 3, 1, 5, 50, rfl, n13, g15, g3, b1, b3, by omega, by omega, by decide, by decide, fun e1 H6 he1 s6 q1 => ?_⟩
        refine ⟨_, rfl, _, rfl, d2, d3, z2, z3, n, 3, 1, 5, 50, rfl, n23, g25.same s6, g3.same s6, b2, b3, by omega, by omega, by decide, by decide, fun e2 H7 he2 s7 q2 => ?_⟩
        refine ⟨_, _, rfl, ?_⟩
        have lq : ∀ {a b : ZM}, a.length * b.length ≤ 6 → (nzZ (joinZ [] (mulZ a b))).length ≤ 6 := fun {a b} h => by
          have x1 := nzZ_len (joinZ [] (mulZ a b))
          have x2 := joinZ_len (mulZ a b) []
          rw [mulZ_len, List.length_nil] at x2
          omega
        exact ⟨e1, e2, _, _, _, rfl, (P5.same (s6.trans s7)).mono (by omega), (K4.trans k5).trans (same_k7 (s6.trans s7)), q1.same s7, q2, (times_zb b1 b3 (by omega)).mono (by decide) (Nat.le_trans (Nat.mul_le_mul_left _ f1) (by decide)), (times_zb b2 b3 (by omega)).mono (by decide) (Nat.le_trans (Nat.mul_le_mul_left _ f2) (by decide)), lq f1, lq f2, times_ne b2 b3 (by decide) (by decide) o2.nz o3.nz⟩
      · have l1 := o1.len
        have l2 := o2.len
        exact ⟨d1, d2, z1, z2, _, rfl, P4.mono (by omega), K4, g14, g2, o1.zb (by decide) (by decide) (by decide), o2.zb (by decide) (by decide) (by decide), by omega, by omega, o2.nz⟩
    rintro σ H5 ⟨e1, e2, y1, y2, v6, rfl, P5, K5, g1, g2, b1, b2, l1, l2, nz⟩
    refine ⟨_, rfl, _, rfl, (by show 2 ≤ sizeLine; decide), fun pr hpr => ?_⟩
    have n1 := AL.Same.new (o := .tup [.ref e1, .ref e2]) hpr
    refine ⟨_, rfl, (by show 2 ≤ sizeLine; decide), fun t ht => ?_⟩
    have n3 := AL.Same.new (o := .tup [.ref pr, .ref w]) ht
    have s3 := n1.trans n3
    exact q t pr w _ y1 y2 ((P5.same s3).mono (by omega)) (K5.trans (same_k7 s3)) upd_same ⟨⟨e1, e2, n3 _ _ upd_same, g1.same s3, g2.same s3⟩, b1, b2, l1, l2, nz⟩
end
end AL
set_option Elab.async false
set_option maxRecDepth 100000
set_option exponentiation.threshold 70000
set_option maxHeartbeats 1000000
namespace AL
open PySem PySem.Spec PyProof.Rows L2 RZ
section
variable {P : Program} {w : World} {K : PySem.W.Frag} {mg : Str → Option Value} {base : Heap}

theorem cd_sub {e s : Ex} (h : e.length = s.length) (le : ∀ j : Nat, s.getD j 0 ≤ e.getD j 0) : cd (subE e s) + cd s = cd e := by
  have l1 : (subE e s).length = s.length := by unfold subE; rw [List.length_zipWith, h, Nat.min_self]
  rw [← cd_add l1, pl_subE h le]
theorem form_det {n : Nat} {a b t u t' u' : PM} (F : FormOf n a b t u) (G : FormOf n a b t' u') : Eqp t t' ∧ Eqp u u' := by
  by_cases a0 : a = []
  · obtain ⟨h1, h2⟩ := F.1 a0
    obtain ⟨g1, g2⟩ := G.1 a0
    rw [h1, g1]
    exact ⟨Eqp.rfl', h2.trans g2.symm⟩
  obtain ⟨p, s, h1, h2, h3, h4, h5⟩ := F.2 a0
  obtain ⟨p', s', g1, g2, g3, g4, g5⟩ := G.2 a0
  rw [h1] at g1
  cases Option.some.inj g1
  have e : s = s' := by
    refine List.ext_getElem (by omega) fun j j1 j2 => ?_
    obtain ⟨x1, q, hq, x2⟩ := h3 j
    obtain ⟨y1, r, hr, y2⟩ := g3 j
    have z1 := x1 r hr
    have z2 := y1 q hq
    have d1 : s.getD j 0 = s[j] := by rw [List.getD_eq_getElem?_getD, List.getElem?_eq_getElem j1]; rfl
    have d2 : s'.getD j 0 = s'[j] := by rw [List.getD_eq_getElem?_getD, List.getElem?_eq_getElem j2]; rfl
    omega
  subst e
  exact ⟨h4.trans g4.symm, h5.trans g5.symm⟩
theorem plE_zero {e : Ex} {n : Nat} (h : e.length = n) : plE e (List.replicate n 0) = e := by
  unfold plE
  refine List.ext_getElem (by rw [List.length_zipWith, List.length_replicate]; omega) fun j h1 h2 => ?_
  rw [List.getElem_zipWith, List.getElem_replicate, Nat.add_zero]
theorem shM_id {n : Nat} {m : PM} (h : ∀ p ∈ m, p.1.length = n) : shM (List.replicate n 0) 1 m = m := by
  unfold shM
  refine (List.map_congr_left fun p hp => ?_).trans (List.map_id m)
  rw [plE_zero (h p hp), Rat.mul_one]; rfl
theorem formOf_C {n E D B F C G : Nat} {a b t u : PM} (ca : Can n E D B a) (cb : Can n E D B b) (ct : Can n E F C t) (cu : Can n E F G u) (hE : E ≤ 80) (bne : b ≠ []) (FO : FormOf n a b t u) : FormC n t u := by
  by_cases a0 : a = []
  · exact .inl (FO.1 a0)
  obtain ⟨p0, s, hb0, ls, lst, _, _⟩ := id (FO.2 a0)
  have la : ∀ p ∈ a ++ b, p.1.length = s.length ∧ (∀ j : Nat, s.getD j 0 ≤ p.1.getD j 0) ∧ (∀ k ∈ p.1, k ≤ 80) ∧ p.2 ≠ 0 := fun p hp => by
    have z : p.1.length = n ∧ (∀ k ∈ p.1, k ≤ E) ∧ p.2 ≠ 0 := by
      rcases List.mem_append.mp hp with w | w
      · exact ⟨(ca.pb p w).1, (ca.pb p w).2.1, ca.nz p w⟩
      · exact ⟨(cb.pb p w).1, (cb.pb p w).2.1, cb.nz p w⟩
    exact ⟨by rw [z.1, ls], fun j => (lst j).1 p hp, fun k hk => Nat.le_trans (z.2.1 k hk) hE, z.2.2⟩
  have la1 : ∀ p ∈ a, _ := fun p hp => la p (List.mem_append_left _ hp)
  have la2 : ∀ p ∈ b, _ := fun p hp => la p (List.mem_append_right _ hp)
  have mp0 := List.mem_of_getElem? hb0
  have Y := byG ((shfM s a ++ shfM s b).map (·.2))
  have mx : p0.2 ∈ (shfM s a ++ shfM s b).map (·.2) := List.mem_map.mpr ⟨(subE p0.1 s, p0.2), List.mem_append_right _ (List.mem_map.mpr ⟨p0, mp0, rfl⟩), rfl⟩
  have p0n := cb.nz p0 mp0
  have G0 : 0 < gcdX (lcmD ((shfM s a ++ shfM s b).map (·.2))) ((shfM s a ++ shfM s b).map (·.2)) := by
    refine Nat.pos_of_ne_zero fun z => ?_
    have d := Y.gd _ mx
    rw [z] at d
    have d0 := Nat.eq_zero_of_zero_dvd d
    have e := xI_rat (Y.dv _ mx)
    rw [Int.natAbs_eq_zero.mp d0] at e
    have Lp := Y.pos
    have Ln : ((lcmD ((shfM s a ++ shfM s b).map (·.2)) : Nat) : Rat) ≠ 0 := fun w => by
      have : lcmD ((shfM s a ++ shfM s b).map (·.2)) = 0 := by exact_mod_cast w
      omega
    rcases Rat.mul_eq_zero.mp e.symm with w | w
    · exact p0n w
    · exact Ln w
  generalize lcmD ((shfM s a ++ shfM s b).map (·.2)) = L0 at Y G0
  generalize gcdX L0 ((shfM s a ++ shfM s b).map (·.2)) = G1 at Y G0
  have FC := law_formC (n := n) (pk := (subE p0.1 s, p0.2)) a0 bne cb.nz (fun p hp => (la p hp).1) (fun j _ => by obtain ⟨_, p, hp, e⟩ := lst j; exact ⟨p, hp, e.symm⟩) Y G0 (List.mem_map.mpr ⟨p0, mp0, rfl⟩) (fun q hq => by
    obtain ⟨x, hx, rfl⟩ := List.mem_map.mp hq
    have e1 := cd_sub (la2 p0 mp0).1 (la2 p0 mp0).2.1
    have e2 := cd_sub (la2 x hx).1 (la2 x hx).2.1
    have le0 : cd p0.1 ≤ cd x.1 := by
      cases b with
      | nil => cases hb0
      | cons y r =>
        cases Option.some.inj hb0
        rcases List.mem_cons.mp hx with rfl | hx
        · exact Int.le_refl _
        · exact Int.le_of_lt ((List.pairwise_cons.mp cb.asc).1 x hx)
    show cd (subE p0.1 s) ≤ cd (subE x.1 s)
    omega)
  have f0 : facR p0.2 L0 G1 ≠ 0 := fun z => by
    have w := fac_pos Y.pos G0 p0n
    rw [z, Rat.mul_zero] at w
    exact absurd w (by decide +kernel)
  have FC' : FormC n (sclM (facR p0.2 L0 G1) (shfM s a)) (sclM (facR p0.2 L0 G1) (shfM s b)) := FC
  generalize facR p0.2 L0 G1 = f at f0 FC'
  have keys : ∀ m : PM, (sclM f (shfM s m)).map (·.1) = (shfM s m).map (·.1) := fun m => by unfold sclM; rw [List.map_map]; rfl
  have nd : ∀ {m : PM}, Asc m → (∀ p ∈ m, p ∈ a ++ b) → ((sclM f (shfM s m)).map (·.1)).Nodup := fun {m} h k => by
    rw [keys]
    exact shf_nodup (fun p hp => ⟨(la p (k p hp)).1, (la p (k p hp)).2.1⟩) (asc_nodup h)
  have nz : ∀ {m : PM}, (∀ p ∈ m, p ∈ a ++ b) → NZ (sclM f (shfM s m)) := fun {m} k q hq => by
    obtain ⟨x, hx, rfl⟩ := List.mem_map.mp hq
    obtain ⟨p, hp, rfl⟩ := List.mem_map.mp hx
    exact fun z => (Rat.mul_eq_zero.mp z).elim (la p (k p hp)).2.2.2 f0
  have ia : ∀ p ∈ a, p ∈ a ++ b := fun p hp => List.mem_append_left _ hp
  have ib : ∀ p ∈ b, p ∈ a ++ b := fun p hp => List.mem_append_right _ hp
  have kk : ∀ p ∈ sclM f (shfM s a) ++ sclM f (shfM s b), p.1.length = n ∧ ∀ k ∈ p.1, k ≤ 80 := fun q hq => by
    have go : ∀ {m : PM}, (∀ p ∈ m, p ∈ a ++ b) → q ∈ sclM f (shfM s m) → q.1.length = n ∧ ∀ k ∈ q.1, k ≤ 80 := fun {m} k hq => by
      obtain ⟨x, hx, rfl⟩ := List.mem_map.mp hq
      obtain ⟨p, hp, rfl⟩ := List.mem_map.mp hx
      obtain ⟨l1, l2, l3, _⟩ := la p (k p hp)
      refine ⟨?_, fun k hk => ?_⟩
      · show (subE p.1 s).length = n
        unfold subE; rw [List.length_zipWith, l1, Nat.min_self, ls]
      · obtain ⟨j, hj, e⟩ := List.mem_iff_getElem.mp hk
        have e1 := subE_get l1 j
        have hj' : j < (subE p.1 s).length := hj
        have lz : (subE p.1 s).length = p.1.length := by unfold subE; rw [List.length_zipWith, l1, Nat.min_self]
        have e2 : (subE p.1 s).getD j 0 = k := by rw [List.getD_eq_getElem?_getD, List.getElem?_eq_getElem hj']; exact e
        have e3 : p.1.getD j 0 = p.1[j] := by rw [List.getD_eq_getElem?_getD, List.getElem?_eq_getElem (by omega : j < p.1.length)]; rfl
        have := l3 (p.1[j]'(by omega)) (List.getElem_mem _)
        omega
    rcases List.mem_append.mp hq with w | w
    · exact go ia w
    · exact go ib w
  have R : RelF n a b (sclM f (shfM s a)) (sclM f (shfM s b)) := .inr ⟨s, f⁻¹, ls, inv_ne0 f0, back_form f0 (fun x hx => ⟨(la1 x hx).1, (la1 x hx).2.1⟩) Eqp.rfl', back_form f0 (fun x hx => ⟨(la2 x hx).1, (la2 x hx).2.1⟩) Eqp.rfl'⟩
  obtain ⟨e1, e2⟩ := form_same (nd ca.asc ia) (nd cb.asc ib) (nz ia) (nz ib) kk FC' R ca.asc ca.nz cb.asc cb.nz Eqp.rfl' Eqp.rfl' FO
  exact FC'.mem (fun q => (eqp_mem (asc_nodup ct.asc) (nd ca.asc ia) ct.nz (nz ia) e1 q).symm) (fun q => (eqp_mem (asc_nodup cu.asc) (nd cb.asc ib) cu.nz (nz ib) e2 q).symm) e2
theorem form_idem {n E F C G : Nat} {t u t2 u2 : PM} (ct : Can n E F C t) (cu : Can n E F G u) (hE : E ≤ 80) (FC : FormC n t u) (FO : FormOf n t u t2 u2) : Eqp t2 t ∧ Eqp u2 u := by
  have l1 : ∀ p ∈ t, p.1.length = n ∧ ∀ k ∈ p.1, k ≤ 80 := fun p hp => ⟨(ct.pb p hp).1, fun k hk => Nat.le_trans ((ct.pb p hp).2.1 k hk) hE⟩
  have l2 : ∀ p ∈ u, p.1.length = n ∧ ∀ k ∈ p.1, k ≤ 80 := fun p hp => ⟨(cu.pb p hp).1, fun k hk => Nat.le_trans ((cu.pb p hp).2.1 k hk) hE⟩
  refine form_same (m1 := t) (m2 := u) (asc_nodup ct.asc) (asc_nodup cu.asc) ct.nz cu.nz (fun p hp => (List.mem_append.mp hp).elim (l1 p) (l2 p)) FC (.inr ⟨List.replicate n 0, 1, List.length_replicate .., by decide +kernel, ?_, ?_⟩) ct.asc ct.nz cu.asc cu.nz Eqp.rfl' Eqp.rfl' FO
  · rw [shM_id fun p hp => (l1 p hp).1]; exact Eqp.rfl'
  · rw [shM_id fun p hp => (l2 p hp).1]; exact Eqp.rfl'
theorem outL_congr {js ks : List Nat} (h : ∀ j, j ∈ js ↔ j ∈ ks) (m : PM) : outL js m = outL ks m := by
  unfold outL
  refine List.map_congr_left fun p _ => ?_
  have : zeroE js p.1 = zeroE ks p.1 := by
    unfold zeroE
    congr 1
    funext i k
    by_cases hi : i ∈ js
    · rw [if_pos hi, if_pos ((h i).mp hi)]
    · rw [if_neg hi, if_neg (fun z => hi ((h i).mpr z))]
  rw [this]
theorem outL_nil (m : PM) : outL [] m = m := by
  unfold outL
  refine (List.map_congr_left fun p _ => ?_).trans (List.map_id m)
  have : zeroE [] p.1 = p.1 := by
    unfold zeroE
    refine List.ext_getElem? fun i => ?_
    rw [List.getElem?_mapIdx]
    cases p.1[i]? <;> simp
  rw [this]; rfl
theorem outL_eqp {js : List Nat} {a b : PM} (h : Eqp a b) : Eqp (outL js a) (outL js b) := fun φ => by
  have e : ∀ m : PM, lin φ (outL js m) = lin (fun e => φ (zeroE js e)) m := fun m => by
    induction m with
    | nil => rfl
    | cons p m ih =>
      show p.2 * _ + lin φ (outL js m) = p.2 * _ + lin _ m
      rw [ih]
  rw [e, e]
  exact h _

end
end AL
set_option Elab.async false
set_option linter.all false
set_option maxRecDepth 100000
set_option maxHeartbeats 2000000
/-! x != y, the class writing its own == alone. -/
namespace AL
open PySem PySem.Spec PyProof.Rows L2
section
variable {X : Cx} {CX : CXT} {k : Nat} {f C : Addr} {fd : FuncData} {ps : List Str} {sp : Sp} {E : XK}
theorem bind_ne (self : Value) : bindSpecial (.builtin "object.__ne__") self = pure (.builtin "object.__ne__", [self]) := PySem.F.slot_object_ne.bind self
theorem boundB {K : PySem.W.Frag} {M : Model} {A : Around} {E : Value → Shared → Prop} {s : Shared} {x C : Addr} {ox : Obj} {od : Option Obj} {name : Str} {id : String} {args : List Value} {Q : Option Value → Shared → Prop} (Kin : K.In s.heap) (I : PySem.W.InstAt s.heap x ox C od) (hs : PySem.W.findIn K (.ref C) name = some (some (.builtin id)))
    (bd : bindSpecial (.builtin id) (.ref x) = pure (.builtin id, [.ref x])) (q : wpAny M A (call (.builtin id) (.ref x :: args)) (fun v => Q (some v)) E s) : wpAny M A (callSpecialIfBound? (.ref x) name args) Q E s := by
  simp only [callSpecialIfBound?, bindSpecialIfBound?]
  refine wpAny_holding (wpAny_bind (wpAny_bind (wpAny_bind (I.type.here ((PySem.W.looks_findIn Kin hs).here ?_)))))
  have fin : wpAny M A (call (.builtin id) ([.ref x] ++ args) >>= fun v => pure (some v)) Q E s := wpAny_bind (wpAny_mono q (fun v s' z => wpAny_pure z) fun _ _ z => z)
  refine wpAny_bind (wpAny_askSetting (wpAny_ite ?_))
  rw [bd]
  split
  · exact wpAny_bind (wpAny_pure (wpAny_pure fin))
  · exact wpAny_tryCatch (wpAny_bind (wpAny_pure (wpAny_pure fin)))
/-- x != y, x of the class at C -/
def rOwnN (K : PySem.W.Frag) (C : Addr) (sp : Sp) (E : XK) : R2 := fun x y H Q => ∃ a tb, x = .ref a ∧ InsAt H a C ∧ TyX K H y tb ∧ PySem.W.notFirst K C tb = true ∧ sp [.ref a, y] H (fun v H' => ∃ b, v = .bl b ∧ Q (.bl (!b)) H') E
theorem op_ownN (M : Meth X.K C "__eq__" f) (ne : PySem.W.findIn X.K (.ref C) "__ne__" = some (some (.builtin "object.__ne__"))) (mr : PySem.W.mroIn X.K C (.type "object") = some true) (F : FnOk X.prog X.w X.K X.mg X.base CX k f fd ps sp) (hr : Room (k + 1) X.A) (hb : Binds X.K fd ps []) (hx : Passes CX X E) :
    OpR X (compareOp .NotEq) (rOwnN X.K C sp E) := by
  intro pins s σ H x y v u Q I rx ry h
  obtain ⟨a, tb, rfl, ⟨dx, fs, ha⟩, ty, nf, q⟩ := h
  cases rx
  obtain ⟨mA, J, _⟩ := ins_get I.hok ha
  obtain ⟨od, J, _⟩ := J.look
  obtain ⟨m, hF⟩ := I.fr
  obtain ⟨P, Z, p, _⟩ := kit_of I ry ty
  have tyb := Z.ty (model X.prog X.w) _ I.kIn p
  have kin := I.kIn
  -- the own == , called within object.__ne__
  have e := I.env0
  have e0 : Env0 X.prog X.w X.K X.mg X.base X.A.in1 X.stack s H := ⟨e.frames, e.mod, e.bs, e.bsz, e.funs, e.frf, e.hok, e.bare⟩
  clear e
  have hl := F.len _ _ _ _ q
  have r2 : Vals [V.ref a, y] [Value.ref a, u] := .cons rfl (.cons ry .nil)
  have run : wpAny (model X.prog X.w) X.A.in1 (call (.ref f) [.ref a, u]) (fun r s' => ∃ b, r = .bool b ∧ EP X pins σ Q (.bool (!b)) s') X.xe s := by
    refine wpAny_call (codeAny_mono (F.run X.A.in1 X.stack s H ⟨[.ref a, u], []⟩ [.ref a, u] [.ref a, y] _ E hr.in1 e0 (by
      have z := hb s [.ref a, u] I.kIn (by simpa using hl)
      simpa using z) r2 q) fun r s' hq => ?_)
    cases r with
    | error e => exact hx pins σ H s e s' I hq
    | ok fl =>
      cases fl with
      | ret w =>
        obtain ⟨z, H', I', rz, b, ez, qq⟩ := I.after hq
        subst ez
        cases (show w = Value.bool b from rz)
        exact ⟨b, rfl, .bl (!b), H', I', rfl, qq⟩
      | next => exact False.elim hq
      | brk => exact False.elim hq
      | cont => exact False.elim hq
  have one : wpAny (model X.prog X.w) X.A (tryCompare (.ref a) "__ne__" u) (fun r s' => ∃ v, r = some v ∧ EP X pins σ Q v s') X.xe s := by
    unfold tryCompare
    refine wpAny_bind (boundB kin J ne (bind_ne _) ?_)
    refine wpAny_call (codeAny_call_builtin PySem.F.slot_object_ne.plain PySem.F.entry_object_ne (PySem.W.check_slot (n := "__ne__") PySem.F.cmpKind_ne PySem.F.cmpSplit_ne (J.type.andThen (PySem.W.looks_mroIn kin mr)) (PySem.F.args_object_ne_2 _ _) ?_))
    unfold Builtin.«object.__ne__» slotArgs
    refine wpAny_bind (wpAny_pure ?_)
    dsimp only
    refine wpAny_bind (wpAny_cRoomFor hr.in1.units0 ?_)
    refine wpAny_bind (PySem.W.ifBound_K kin J M.at_ M.fn (wpAny_mono run (fun r s' z => ?_) fun _ _ z => z))
    obtain ⟨b, rfl, z⟩ := z
    refine wpAny_bind (wpAny_truthy_bool (wpAny_pure ?_))
    exact wpAny_pure ⟨_, rfl, z⟩
  show wpAny (model X.prog X.w) X.A (richCompare .NotEq (.ref a) u) (EP X pins σ Q) X.xe s
  unfold richCompare
  simp only [oneThing_ref]
  refine wpAny_holding (wpAny_bind (wpAny_cRoomFor hr.units0 ?_))
  refine wpAny_bind (J.type.here (wpAny_bind (tyb.here ?_)))
  have fin : wpAny (model X.prog X.w) X.A (tryCompare (.ref a) (cmpInfo .NotEq).2.1 u) (fun r s' => ∃ v, r = some v ∧ EP X pins σ Q v s') X.xe s := one
  split
  · rename_i w
    have e : PySem.W.subIn X.K tb (.ref C) = some false := by
      rcases Bool.or_eq_true_iff.mp nf with z | z
      · rw [beq_iff_eq.mp z] at w; simp at w
      · exact beq_iff_eq.mp z
    refine wpAny_bind ((PySem.W.looks_subIn kin e).here ?_)
    simp only [Bool.false_eq_true, if_false]
    refine wpAny_bind (wpAny_mono fin (fun r s' z => ?_) fun _ _ z => z)
    obtain ⟨v, rfl, z⟩ := z
    exact wpAny_pure z
  · refine wpAny_bind (wpAny_pure ?_)
    simp only [Bool.false_eq_true, if_false]
    refine wpAny_bind (wpAny_mono fin (fun r s' z => ?_) fun _ _ z => z)
    obtain ⟨v, rfl, z⟩ := z
    exact wpAny_pure z
end
end AL
set_option Elab.async false
set_option linter.all false
set_option maxRecDepth 100000
set_option maxHeartbeats 2000000
/-! {k: v, l: w} where the keys are tuples. -/
namespace AL
open PySem PySem.Spec PyProof.Rows L2
section
variable {X : Cx} {e f e2 f2 : Expr} {ty tx ty2 tx2 : TE} {pos : Pos}
/-- {y1: z1, y2: z2}, y1 and y2 tuples -/
def tDisp2 (tk tv tk2 tv2 : TE) : TE := fun σ H Q => ∀ p, H p = none → tk σ (upd H p (.dT [])) fun y1 H1 => tv σ H1 fun z1 H2 => tk2 σ H2 fun y2 H3 => tv2 σ H3 fun z2 H4 => ∃ k1 b1 k2 b2, y1 = .ref b1 ∧ y2 = .ref b2 ∧ H4 p = some (.dT []) ∧ H4 b1 = some (.tup (k1.map kV)) ∧ H4 b2 = some (.tup (k2.map kV)) ∧ Q (.ref p) (upd H4 p (.dT (putK [(k1, z1)] k2 z2)))
theorem pe_disp2 (hu : X.A.units + 1 < cLine) (he : PE X e ty) (hf : PE X f tx) (he2 : PE X e2 ty2) (hf2 : PE X f2 tx2) : PE X (.Dict [some e, some e2] [f, f2] pos) (tDisp2 ty tx ty2 tx2) := by
  refine ⟨fun pins s σ H Q I h => ?_⟩
  have hn := I.hok.fresh (Nat.le_refl s.heap.objs.size)
  have new0 : ObjOk X.prog X.w (upd H s.heap.objs.size (.dT [])) (s.heap.push { cls := .type "dict", data := .dict #[] }) s.heap.objs.size (.dT []) :=
    ⟨Nat.zero_le _, beq_eq_false_iff_ne.mpr (Ne.symm (Nat.ne_of_lt I.big)), [], .nil, _, #[], 0, Heap.get?_push_size _ rfl, ⟨rfl, rfl, rfl⟩, rfl, rfl, List.nodup_nil⟩
  have I1 := I.laid (a := s.heap.objs.size) (o := .dT []) (h' := s.heap.push { cls := .type "dict", data := .dict #[] }) (t' := s.toks) (fun _ _ q => Heap.get?_push_of_some _ q) (Nat.le_refl _) new0
  have shape : (evalEachOpt [some e, some e2] X.env).zip ((evalEach [f, f2] X.env).map fun v => do let x ← v; standAt pos; pure x) = [(eval e X.env, do let x ← eval f X.env; standAt pos; pure x), (eval e2 X.env, do let x ← eval f2 X.env; standAt pos; pure x)].map fun p => (some p.1, p.2) := rfl
  rw [arm_eval_Dict, shape, dictDisplay_pairs _ (by simp) (by simp)]
  refine wpAny_bind (wpAny_standAt (wpAny_bind (wpAny_subDictH (knd := tupleKind (mixKind X.prog X.w)) (Q := fun d s' => wpAny (model X.prog X.w) X.A (pure (Value.ref d)) (EP X pins σ Q) X.xe s') (show X.A.units < cLine by omega) (by simp) ?_)))
  unfold evalPairs
  refine wpAny_bind (thn (he.run pins _ σ _ _ I1 (h _ hn)) fun kv s2 ⟨y, H2, I2, ry, q2⟩ => ?_)
  refine wpAny_bind (wpAny_holding (wpAny_bind (thn (hf.run pins s2 σ H2 _ I2 q2) fun vv s3 ⟨z, H3, I3, rz, q3⟩ => ?_)))
  refine wpAny_bind (wpAny_standAt (wpAny_pure (wpAny_bind (wpAny_holding ?_))))
  unfold evalPairs
  refine wpAny_bind (thn (he2.run pins s3 σ H3 _ I3 q3) fun kv2 s4 ⟨y2, H4, I4, ry2, q4⟩ => ?_)
  refine wpAny_bind (wpAny_holding (wpAny_bind (thn (hf2.run pins s4 σ H4 _ I4 q4) fun vv2 s5 ⟨z2, H5, I5, rz2, k, b, k2, b2, g1, g1', g2, g3, g3', g4⟩ => ?_)))
  refine wpAny_bind (wpAny_standAt (wpAny_pure (wpAny_bind (wpAny_holding ?_))))
  unfold evalPairs
  refine wpAny_pure (wpAny_pure (wpAny_pure ?_))
  subst g1 g1'
  cases (show kv = Value.ref b from ry)
  cases (show kv2 = Value.ref b2 from ry2)
  obtain ⟨hz0, hd, xs, rel, dd⟩ := dt_of I5.hok g2
  cases rel
  refine ⟨[(k, b, vv), (k2, b2, vv2)], ⟨rfl, rfl, key_of I5.hok g3, rfl, rfl, key_of I5.hok g3', trivial⟩, dd, fun h' tk dd' hs => wpAny_pure ?_⟩
  obtain ⟨q, es, ep, hq, h2, h3, h4, _, h5⟩ := dd'
  have tu : ∀ c ys, H5 c = some (.tup ys) → upd H5 s.heap.objs.size (.dT (putK [(k, z)] k2 z2)) c = some (.tup ys) := fun c ys w => by
    rw [upd_ne (ne_of w g2 (fun z => nomatch z))]; exact w
  have r1 : KT H5 [(k, z)] [(k, b, vv)] := .cons ⟨rfl, g3, rz⟩ .nil
  have r2 := (KT.put r1 k2 g3' rz2).keeps tu
  refine ⟨.ref s.heap.objs.size, upd H5 s.heap.objs.size (.dT (putK [(k, z)] k2 z2)), d_write I5 (by rw [g2]; exact True.intro) hs ⟨q, hq⟩ ⟨?_, hd, _, r2, q, es, ep, hq, h2, h3, h4, h5⟩, rfl, g4⟩
  have := length_putK [(k, z)] k2 z2
  have : (putK [(k, z)] k2 z2).length ≤ 2 := this
  exact Nat.le_trans this (by decide)
end
end AL
set_option Elab.async false
set_option maxRecDepth 100000
set_option exponentiation.threshold 70000
set_option maxHeartbeats 1000000
namespace AL
open PySem PySem.Spec PyProof.Rows L2 RZ LamX
section
variable {P : Program} {w : World} {K : PySem.W.Frag} {mg : Str → Option Value} {base : Heap}
theorem Same.ext {H H' : Hp} (s : Same H H') : ExtN H H' := fun b o h _ => s b o h
theorem tabs_same {T : List (Addr × Str)} {H H' : Hp} (t : Tabs T H) (s : Same H H') : Tabs T H' := tabs_p t (Same.p s)
theorem dp_ext {K : PySem.W.Frag} {H H' : Hp} {v : V} {d : PyData} (e : ExtN H H') (h : Dp K H v d) : Dp K H' v d := by
  have rd : ∀ {a : Addr} {u : HO}, (∀ ps, u ≠ .tbl ps) → Rd H a u → Rd H' a u := by
    intro a u nu h
    rcases h with h | ⟨o, h⟩
    · exact .inl (e _ _ h nu)
    · exact .inr ⟨o, e _ _ h (fun ps z => by cases z)⟩
  refine dp_mono (fun a xs z => ?_) (fun a xs z => ?_) d v h
  · rcases z with z | z
    · exact .inl (rd (fun ps z => by cases z) z)
    · exact .inr z
  · rcases z with z | z
    · exact .inl (rd (fun ps z => by cases z) z)
    · exact .inr z
theorem tabs_lst {T : List (Addr × Str)} {H : Hp} {l : Addr} {xs ys : List V} (t : Tabs T H) (h : H l = some (.lst xs)) : Tabs T (upd H l (.lst ys)) := fun p hp => by
  obtain ⟨ps, g1, g2, g3⟩ := t p hp
  have ne : ∀ {b : Addr} {o : HO}, H b = some o → (∀ v, o ≠ .lst v) → upd H l (.lst ys) b = some o := fun {b o} e n => by
    rw [upd_ne (fun w => n xs (by rw [w, h] at e; exact (Option.some.inj e).symm))]; exact e
  refine ⟨ps, ne g1 (fun v z => by cases z), g2, fun pos cv hc => ?_⟩
  obtain ⟨c, e1, e2⟩ := g3 pos cv hc
  exact ⟨c, e1, ne e2 (fun v z => by unfold CodeO at z; cases z)⟩
def spLawC (K : PySem.W.Frag) (cs : List (Addr × Addr)) : Sp := fun vs H Q _ => ∃ (a : Addr) (ns : List Int), vs = [.ref a] ∧ SqL K H a (ns.map V.int) ∧ (∀ p ∈ cs, H p.2 = some (.tbl #[])) ∧ ∀ H', Q (.bl true) H'
theorem poly_ext {CP : Addr} {H H' : Hp} {x : Addr} {n : Nat} {m : PM} (h : PolyAt CP H x n m) (e : ExtN H H') : PolyAt CP H' x n m := let ⟨dx, T, ts, h1, h2, h3⟩ := h; ⟨dx, T, ts, e _ _ h1 (fun _ z => nomatch z), e _ _ h2 (fun _ z => nomatch z), paired_mono h3 fun _ _ z => z.tups fun b ys w => e _ _ w (fun _ z => nomatch z)⟩
def lq (f : Str) : Str := (f ++ ".<locals>.") ++ "<lambda>"
def T9 (P3 : Addr) : List (Addr × Str) := [(P3, lq "law")]
theorem tt9 (P3 : Addr) : (P3, lq "law") ∈ T9 P3 ∧ ∀ p ∈ T9 P3, p.1 = P3 → p.2 = lq "law" := by
  refine ⟨by simp [T9], fun p hp e => ?_⟩
  simp only [T9, List.mem_cons, List.not_mem_nil, or_false] at hp
  rw [hp]

theorem quo_ext {CP CQ : Addr} {H H' : Hp} {y : Addr} {n : Nat} {t u : PM} (h : QuoAt CP CQ H y n t u) (e : ExtN H H') : QuoAt CP CQ H' y n t u := let ⟨dx, x, z, h1, h2, h3⟩ := h; ⟨dx, x, z, e _ _ h1 (fun _ w => nomatch w), poly_ext h2 e, poly_ext h3 e⟩
theorem lamZ {K : PySem.W.Frag} {T : List (Addr × Str)} {BZ : Addr} {tl : XK → Hp → VK → Prop} {H : Hp} {Q : VK} (h : ∀ E H1 Q', ExtN H H1 → (∀ d H2, H2 d = none → Same H1 H2 → E (.ref BZ) (some d) (upd H2 d errZ)) → tl E H1 Q')
    (k : ∀ t3 H3, ExtN H H3 → Tabs T H3 → H3 t3 = some (.lst [.str "zero", .int 0]) → Q (.ref t3) H3) : ∀ H1, ExtN H H1 → Tabs T H1 → TWhy K BZ tl H1 Q := by
  intro H1 e1 T1
  refine h _ _ _ e1 ?_
  intro d H2 hd s2
  have n2 := AL.Same.new (o := errZ) hd
  refine ⟨rfl, d, rfl, upd_same, fun t3 ht3 => ?_⟩
  have all := (s2.trans n2).trans (AL.Same.new (o := .lst [.str "zero", .int 0]) ht3)
  exact k t3 _ (e1.trans (Same.ext all)) (tabs_same T1 all) upd_same
theorem dp_zeroL {K : PySem.W.Frag} {H : Hp} {t : Addr} (h : H t = some (.lst [.str "zero", .int 0])) : Dp K H (.ref t) (.list [.str "zero", .int 0]) := .lst (SqL.of h) (.cons (.str _) (.cons (.int _) .nil))
theorem PairZ.keep {H H' : Hp} {p c pr : Addr} {m n E C k1 k2 : Nat} {z1 z2 : ZM} (h : PairZ H p pr n E C k1 k2 z1 z2) (P : Pen H p c m) (k : Keep p H H') : PairZ H' p pr n E C k1 k2 z1 z2 := by
  obtain ⟨⟨d1, d2, h1, h2, h3⟩, b1, b2, l1, l2, ne⟩ := h
  have nd : ∀ {d : Addr} {z : ZM}, DicZ H d z → d ≠ p := fun {d z} hz e => by
    obtain ⟨l, hh⟩ := P.dict
    rw [e] at hz
    rw [show H p = _ from hz] at hh; cases hh
  exact ⟨⟨d1, d2, k.at P h1 (fun _ z => nomatch z), k _ _ (nd h2) h2, k _ _ (nd h3) h3⟩, b1, b2, l1, l2, ne⟩
theorem PairZ.mono {H : Hp} {p pr : Addr} {n E C k1 k2 E' C' l1 l2 : Nat} {z1 z2 : ZM} (h : PairZ H p pr n E C k1 k2 z1 z2) (hE : E ≤ E') (hC : C ≤ C') (h1 : k1 ≤ l1) (h2 : k2 ≤ l2) : PairZ H p pr n E' C' l1 l2 z1 z2 :=
  ⟨h.ex, h.b1.mono hE hC, h.b2.mono hE hC, Nat.le_trans h.l1 h1, Nat.le_trans h.l2 h2, h.ne⟩
theorem zN_snoc (js : List Nat) (j : Nat) : zN (js ++ [j]) = zN js ++ [(j : Int)] := by unfold zN; rw [List.map_append]; rfl
theorem eqv_nilL (l : List Int) : PyData.eqv (.list (l.map PyData.int)) (.list []) = decide (l = []) := by
  have := eqv_lst l []
  rw [List.map_nil] at this
  exact this
theorem shaped_nil : SeqAt.shaped (.list []) = true := by decide +kernel
theorem zN_nil {js : List Nat} : zN js = [] ↔ js = [] := by unfold zN; exact List.map_eq_nil_iff
/-- what holds through a turn -/
structure BK (CP CQ : Addr) (T : List (Addr × Str)) (p c y l pa : Addr) (m n : Nat) (t u : PM) (js ks : List Nat) (H : Hp) : Prop where
  P : Pen H p c m
  tb : Tabs T H
  Q : QuoAt CP CQ H y n t u
  hl : H l = some (.lst ((zN js).map V.int))
  LA : LetA H pa n ks
theorem BK.same {CP CQ : Addr} {T : List (Addr × Str)} {p c y l pa : Addr} {m n : Nat} {t u : PM} {js ks : List Nat} {H H' : Hp} (b : BK CP CQ T p c y l pa m n t u js ks H) (s : Same H H') : BK CP CQ T p c y l pa m n t u js ks H' := ⟨b.P.same s, tabs_same b.tb s, b.Q.same s, s _ _ b.hl, b.LA.same s⟩
theorem LetA.ext {H H' : Hp} {a : Addr} {n : Nat} {js : List Nat} (h : LetA H a n js) (e : ExtN H H') : LetA H' a n js := ⟨h.at_.imp (fun w => e _ _ w fun _ z => nomatch z) (fun w => e _ _ w fun _ z => nomatch z), h.nd, h.lt, h.few⟩
theorem atI_0 (x : V) (xs : List V) : atI (x :: xs) 0 = some x := by
  unfold atI ixN
  rw [if_pos (by omega), if_pos (by rw [List.length_cons]; omega)]; rfl
/-- letters' own row -/
def unitE (n j0 : Nat) : Ex := (List.range n).map fun j => if j = j0 then 1 else 0
theorem unitE_len (n j0 : Nat) : (unitE n j0).length = n := by unfold unitE; rw [List.length_map, List.length_range]
theorem unitE_ne {n j0 : Nat} (h : j0 < n) : unitE n j0 ≠ List.replicate n 0 := fun e => by
  have := congrArg (fun l => l[j0]?) e
  unfold unitE at this
  simp only [List.getElem?_map, List.getElem?_replicate, List.getElem?_range h, if_pos h] at this
  simp at this

abbrev stlaw : Stmt := top 58
theorem sclaw : FnScope ["_law_script", "_law_pen_here", "_law_lap", "_law_size", "_law_f", "_law_letters", "_law_j", "_law_one", "_law_made_here", "_law_passed", "_law_own", "_law_kept", "_law_due", "_law_told"] ["_law_script"] (defScope stlaw) := ⟨rfl, rfl, rfl, by decide +kernel, rfl, by decide +kernel, by decide +kernel⟩
theorem oklaw (B : Blt mg) {CPoly CQuotient BZ BN BM UL fZ fN : Addr} {fdZ fdN : FuncData} (Es : ErP K mg CPoly CQuotient BZ BN BM UL fZ fN fdZ fdN) {c3 P3 ge : Addr} {cde : Value} (TB3 : TabB base mg c3 P3) (De : LamFn K mg "_law_error" st_law_error "_law_call" ge cde) {fP_eq : Addr} {fdP_eq : FuncData} (DP_eq : MetA K "__eq__" "Poly.__eq__" stP_eq ["self", "other"] CPoly fP_eq fdP_eq) {fQ_eq : Addr} {fdQ_eq : FuncData} (DQ_eq : MetA K "__eq__" "Quotient.__eq__" stQ_eq ["self", "other"] CQuotient fQ_eq fdQ_eq) {f_law_draw : Addr} {fd_law_draw : FuncData} (D_law_draw : DefAt K mg "_law_draw" st_law_draw ["_law_pen_here", "_law_many"] f_law_draw fd_law_draw) {f_law_left_out : Addr} {fd_law_left_out : FuncData} (D_law_left_out : DefAt K mg "_law_left_out" st_law_left_out ["_law_poly", "_law_letters"] f_law_left_out fd_law_left_out) {flowest : Addr} {fdlowest : FuncData} (Dlowest : DefAt K mg "lowest" stlowest ["top", "bottom"] flowest fdlowest) {fas_ratio : Addr} {fdas_ratio : FuncData} (Das_ratio : DefAt K mg "as_ratio" stas_ratio ["value"] fas_ratio fdas_ratio) {fis_whole : Addr} {fdis_whole : FuncData} (Dis_whole : DefAt K mg "is_whole" stis_whole ["value"] fis_whole fdis_whole) {fare_integers : Addr} {fdare_integers : FuncData} (Dare_integers : DefAt K mg "are_integers" stare_integers ["items"] fare_integers fdare_integers) {fis_ratio : Addr} {fdis_ratio : FuncData} (Dis_ratio : DefAt K mg "is_ratio" stis_ratio ["value"] fis_ratio fdis_ratio) {fis_term : Addr} {fdis_term : FuncData} (Dis_term : DefAt K mg "is_term" stis_term ["term", "size"] fis_term fdis_term) {fratio_sum : Addr} {fdratio_sum : FuncData} (Dratio_sum : DefAt K mg "ratio_sum" stratio_sum ["one", "other"] fratio_sum fdratio_sum) {fP_init : Addr} {fdP_init : FuncData} (DP_init : IniA K "__init__" "Poly.__init__" stP_init ["self", "size", "terms"] CPoly fP_init fdP_init) {flowered : Addr} {fdlowered : FuncData} (Dlowered : DefAt K mg "lowered" stlowered ["terms", "least"] flowered fdlowered) {fbrought : Addr} {fdbrought : FuncData} (Dbrought : DefAt K mg "brought" stbrought ["poly", "scale", "least"] fbrought fdbrought) {fcommon_bottom : Addr} {fdcommon_bottom : FuncData} (Dcommon_bottom : DefAt K mg "common_bottom" stcommon_bottom ["ratios"] fcommon_bottom fdcommon_bottom) {fform_scale : Addr} {fdform_scale : FuncData} (Dform_scale : DefAt K mg "form_scale" stform_scale ["terms", "first"] fform_scale fdform_scale) {fleast_exponents : Addr} {fdleast_exponents : FuncData} (Dleast_exponents : DefAt K mg "least_exponents" stleast_exponents ["terms"] fleast_exponents fdleast_exponents) {fnumber_poly : Addr} {fdnumber_poly : FuncData} (Dnumber_poly : DefAt K mg "number_poly" stnumber_poly ["size", "ratio"] fnumber_poly fdnumber_poly) {fQ_init : Addr} {fdQ_init : FuncData} (DQ_init : IniA K "__init__" "Quotient.__init__" stQ_init ["self", "top", "bottom"] CQuotient fQ_init fdQ_init) {f_law_made : Addr} {fd_law_made : FuncData} (D_law_made : DefAt K mg "_law_made" st_law_made ["_law_f", "_law_size"] f_law_made fd_law_made) {f_law_pen : Addr} {fd_law_pen : FuncData} (D_law_pen : DefAt K mg "_law_pen" st_law_pen ["_law_script"] f_law_pen fd_law_pen) {f_law_pick : Addr} {fd_law_pick : FuncData} (D_law_pick : DefAt K mg "_law_pick" st_law_pick ["_law_pen_here", "_law_some"] f_law_pick fd_law_pick) {f_law_poly_times : Addr} {fd_law_poly_times : FuncData} (D_law_poly_times : DefAt K mg "_law_poly_times" st_law_poly_times ["_law_one", "_law_two"] f_law_poly_times fd_law_poly_times) {f_law_box : Addr} {fd_law_box : FuncData} (D_law_box : DefAt K mg "_law_box" st_law_box ["_law_size", "_law_most"] f_law_box fd_law_box) {f_law_inner : Addr} {fd_law_inner : FuncData} (D_law_inner : DefAt K mg "_law_inner" st_law_inner ["_law_row", "_law_column"] f_law_inner fd_law_inner) {f_law_like : Addr} {fd_law_like : FuncData} (D_law_like : DefAt K mg "_law_like" st_law_like ["_law_pen_here", "_law_size", "_law_weights_here", "_law_many"] f_law_like fd_law_like) {f_law_poly_drawn : Addr} {fd_law_poly_drawn : FuncData} (D_law_poly_drawn : DefAt K mg "_law_poly_drawn" st_law_poly_drawn ["_law_pen_here", "_law_size", "_law_many", "_law_most"] f_law_poly_drawn fd_law_poly_drawn) {f_law_weights : Addr} {fd_law_weights : FuncData} (D_law_weights : DefAt K mg "_law_weights" st_law_weights ["_law_pen_here", "_law_size"] f_law_weights fd_law_weights) {f_law_quotient : Addr} {fd_law_quotient : FuncData} (D_law_quotient : DefAt K mg "_law_quotient" st_law_quotient ["_law_pen_here", "_law_size"] f_law_quotient fd_law_quotient) {f_law_gcd : Addr} {fd_law_gcd : FuncData} (D_law_gcd : DefAt K mg "_law_gcd" st_law_gcd ["_law_one", "_law_two"] f_law_gcd fd_law_gcd) {f_law_is_whole : Addr} {fd_law_is_whole : FuncData} (D_law_is_whole : DefAt K mg "_law_is_whole" st_law_is_whole ["_law_value"] f_law_is_whole fd_law_is_whole) {f_law_is_matrix : Addr} {fd_law_is_matrix : FuncData} (D_law_is_matrix : DefAt K mg "_law_is_matrix" st_law_is_matrix ["_law_value", "_law_many", "_law_wide"] f_law_is_matrix fd_law_is_matrix) {f_law_is_ratio : Addr} {fd_law_is_ratio : FuncData} (D_law_is_ratio : DefAt K mg "_law_is_ratio" st_law_is_ratio ["_law_value"] f_law_is_ratio fd_law_is_ratio) {f_law_told_poly : Addr} {fd_law_told_poly : FuncData} (D_law_told_poly : DefAt K mg "_law_told_poly" st_law_told_poly ["_law_poly", "_law_size"] f_law_told_poly fd_law_told_poly) {f_law_told_quotient : Addr} {fd_law_told_quotient : FuncData} (D_law_told_quotient : DefAt K mg "_law_told_quotient" st_law_told_quotient ["_law_f", "_law_size"] f_law_told_quotient fd_law_told_quotient) {fis_index : Addr} {fdis_index : FuncData} (Dis_index : DefAt K mg "is_index" stis_index ["value", "many"] fis_index fdis_index) {fis_list : Addr} {fdis_list : FuncData} (Dis_list : DefAt K mg "is_list" stis_list ["value"] fis_list fdis_list) {fcheck_indices : Addr} {fdcheck_indices : FuncData} (Dcheck_indices : DefAt K mg "check_indices" stcheck_indices ["letters", "many"] fcheck_indices fdcheck_indices) {fwithout_letters : Addr} {fdwithout_letters : FuncData} (Dwithout_letters : DefAt K mg "without_letters" stwithout_letters ["poly", "letters"] fwithout_letters fdwithout_letters) {fcalled_one : Addr} {fdcalled_one : FuncData} (Dcalled_one : DefAt K mg "called_one" stcalled_one ["f", "letters"] fcalled_one fdcalled_one) {flaw : Addr} {fdlaw : FuncData} (Dlaw : DefC K mg "law" stlaw ["_law_script"] flaw c3 fdlaw) : FnG P w K mg base CX0 33 flaw fdlaw ["_law_script"] (spLawC K [(c3, P3)]) := by
  have OKQ_eq : FnOk P w K mg base CX0 2 fQ_eq fdQ_eq ["self", "other"] (spQEq K CPoly CQuotient) := okQ_eq B Es DP_eq DQ_eq
  have OK_law_draw : FnOk P w K mg base CX0 1 f_law_draw fd_law_draw ["_law_pen_here", "_law_many"] spDraw := ok_law_draw B  D_law_draw
  have OK_law_left_out : FnOk P w K mg base CX0 1 f_law_left_out fd_law_left_out ["_law_poly", "_law_letters"] spLo := ok_law_left_out B  D_law_left_out
  have OK_law_made : FnOk P w K mg base CX0 14 f_law_made fd_law_made ["_law_f", "_law_size"] (spMd CPoly CQuotient) := ok_law_made B Es Dlowest Das_ratio Dis_whole Dare_integers Dis_ratio Dis_term Dratio_sum DP_init Dlowered Dbrought Dcommon_bottom Dform_scale Dleast_exponents Dnumber_poly DQ_init D_law_made
  have OK_law_pen : FnOk P w K mg base CX0 1 f_law_pen fd_law_pen ["_law_script"] (spPen K) := ok_law_pen B  D_law_pen
  have OK_law_pick : FnOk P w K mg base CX0 2 f_law_pick fd_law_pick ["_law_pen_here", "_law_some"] (spPick K) := ok_law_pick B  D_law_draw D_law_pick
  have OK_law_poly_times : FnOk P w K mg base CX0 1 f_law_poly_times fd_law_poly_times ["_law_one", "_law_two"] spPt := ok_law_poly_times B  D_law_poly_times
  have OK_law_quotient : FnOk P w K mg base CX0 4 f_law_quotient fd_law_quotient ["_law_pen_here", "_law_size"] spQu := ok_law_quotient B  D_law_draw D_law_box D_law_inner D_law_pick D_law_like D_law_poly_drawn D_law_poly_times D_law_weights D_law_quotient
  have OK_law_told_quotient : FnOk P w K mg base CX0 4 f_law_told_quotient fd_law_told_quotient ["_law_f", "_law_size"] (spTq CPoly CQuotient) := ok_law_told_quotient B Es D_law_gcd D_law_is_whole D_law_is_matrix D_law_is_ratio D_law_told_poly D_law_told_quotient
  have OKcalled_one : FnOk P w K mg base (L2.CX P w) 14 fcalled_one fdcalled_one ["f", "letters"] (spCo CPoly CQuotient BZ) := okcalled_one B Es Dlowest Das_ratio Dis_whole Dare_integers Dis_ratio Dis_term Dratio_sum DP_init Dlowered Dbrought Dcommon_bottom Dform_scale Dleast_exponents Dnumber_poly DQ_init Dis_index Dis_list Dcheck_indices Dwithout_letters Dcalled_one
  refine okGC Dlaw sclaw (fun vs H Q E h => ?_) (fun A outer s H vs Q E gd hr h => ?_)
  · obtain ⟨a, ns, rfl, _⟩ := h; rfl
  · have hu := hu_of hr
    refine ⟨_, (pss_cons (ps_set (i := 1) sclaw.nd rfl (Or.inl rfl) (pe_call OK_law_pen (hr.mono (by decide)) rfl D_law_pen.m D_law_pen.F.kp D_law_pen.b .nil pass0 (pa_cons (pv 0) pa_nil)))
    (pss_cons (ps_for PassesOwn.never rfl (pi_range1 rfl B.range_ (pa_cons pe_int pa_nil)) (pg_name (i := 2) sclaw.nd rfl (Or.inl rfl))
      (pss_cons (ps_set (i := 3) sclaw.nd rfl (Or.inl rfl) (pe_op op_add pe_int (pe_call OK_law_draw (hr.mono (by decide)) rfl D_law_draw.m D_law_draw.F.kp D_law_draw.b .nil pass0 (pa_cons (pv 1) (pa_cons pe_int pa_nil)))))
    (pss_cons (ps_asg (pe_tup (pa_cons (pe_ix ix_tup (pe_call OK_law_quotient (hr.mono (by decide)) rfl D_law_quotient.m D_law_quotient.F.kp D_law_quotient.b .nil pass0 (pa_cons (pv 1) (pa_cons (pv 3) pa_nil))) pe_int (fun _ _ => rfl)) (pa_cons (pe_lst pa_nil) pa_nil))) (pg_tup rfl (pgs_cons (pg_name (i := 4) sclaw.nd rfl (Or.inl rfl)) (pgs_cons (pg_name (i := 5) sclaw.nd rfl (Or.inr rfl)) pgs_nil))))
    (pss_cons (ps_for PassesOwn.never rfl (pi_range1 rfl B.range_ (pa_cons (pv 3) pa_nil)) (pg_name (i := 6) sclaw.nd rfl (Or.inl rfl))
      (pss_one (ps_set (i := 5) sclaw.nd rfl (Or.inr rfl) (pe_op op_cat (pv 5) (pe_ifExp (pt_cmpR op_eq (pe_call OK_law_draw (hr.mono (by decide)) rfl D_law_draw.m D_law_draw.F.kp D_law_draw.b .nil pass0 (pa_cons (pv 1) (pa_cons pe_int pa_nil))) pe_int (nomark _)) (pe_lst (pa_cons (pv 6) pa_nil)) (pe_lst pa_nil))))))
    (Evl.pss_cut (ps_if (PW.pt (pw_and (pt_cmpR (op_neD hr.units) (pv 5) (pe_lst pa_nil) (nomark _)) (pw_and1 (pt_cmpR op_eq (pe_call OK_law_draw (hr.mono (by decide)) rfl D_law_draw.m D_law_draw.F.kp D_law_draw.b .nil pass0 (pa_cons (pv 1) (pa_cons pe_int pa_nil))) pe_int (nomark _))))) (pss_cons (ps_set (i := 7) sclaw.nd rfl (Or.inl rfl) (pe_callTy (call_tupK : CallR _ _ (rTup K)) (by rfl) B.tuple_ (by decide +kernel) (pa_cons (pe_lc (own := [("_law_j", 6)]) (g := gName 6) (tt := tYes) rfl sclaw.nd (pi_range1 rfl B.range_ (pa_cons (pv 3) pa_nil)) (blkOk_by (own := [("_law_j", 6)]) (N := ["_law_script", "_law_pen_here", "_law_lap", "_law_size", "_law_f", "_law_letters", "_law_j", "_law_one", "_law_made_here", "_law_passed", "_law_own", "_law_kept", "_law_due", "_law_told"]) (sc := defScope stlaw) (by decide +kernel)) (fun _ _ _ _ _ => pg_name (i := 6) sclaw.nd rfl (Or.inl rfl)) (fun _ _ _ _ _ => pts_nil) (fun _ _ _ _ _ => (pe_callTy call_int1 (by rfl) B.int_ (by decide +kernel) (pa_cons (pe_cmpR op_eq (pv 6) (pe_ix (ix_list : IxR _ (rIxL K)) (pv 5) pe_int (fun _ _ => rfl)) (nomark _)) pa_nil)))) pa_nil)))
    (pss_one (ps_set (i := 4) sclaw.nd rfl (Or.inl rfl) (pe_tup (pa_cons (pe_ix ix_tup (pv 4) pe_int (fun _ _ => rfl)) (pa_cons (pe_call OK_law_poly_times (hr.mono (by decide)) rfl D_law_poly_times.m D_law_poly_times.F.kp D_law_poly_times.b .nil pass0 (pa_cons (pe_ix ix_tup (pv 4) pe_int (fun _ _ => rfl)) (pa_cons (pe_disp2 hu (pv 7) pe_int (pe_op op_repZ (pe_tup (pa_cons pe_int pa_nil)) (pv 3)) (pe_un un_neg pe_int)) pa_nil))) pa_nil)))))) pss_nil)
    (pss_cons (ps_asg (pe_tup (pa_cons (pe_call OK_law_made (hr.mono (by decide)) rfl D_law_made.m D_law_made.F.kp D_law_made.b .nil pass0 (pa_cons (pv 4) (pa_cons (pv 3) pa_nil))) (pa_cons (pe_call OK_law_pick (hr.mono (by decide)) rfl D_law_pick.m D_law_pick.F.kp D_law_pick.b .nil pass0 (pa_cons (pv 1) (pa_cons (pe_lst (pa_cons (pv 5) (pa_cons (pe_callTy (call_tupK : CallR _ _ (rTup K)) (by rfl) B.tuple_ (by decide +kernel) (pa_cons (pe_revL (pv 5)) pa_nil)) pa_nil))) pa_nil))) pa_nil))) (pg_tup rfl (pgs_cons (pg_name (i := 8) sclaw.nd rfl (Or.inr rfl)) (pgs_cons (pg_name (i := 9) sclaw.nd rfl (Or.inr rfl)) pgs_nil))))
    (pss_cons (ps_set (i := 10) sclaw.nd rfl (Or.inl rfl) (pe_call OK_law_told_quotient (hr.mono (by decide)) rfl D_law_told_quotient.m D_law_told_quotient.F.kp D_law_told_quotient.b .nil pass0 (pa_cons (pv 8) (pa_cons (pv 3) pa_nil))))
    (pss_cons (ps_par (i := 11) (j := 12) (by rfl) sclaw.nd rfl rfl (by decide) rfl rfl (pa_cons (pe_callTy call_list_of (by rfl) B.list_ (by decide +kernel) (pa_cons (pv 9) pa_nil)) (pa_cons (pe_tup (pa_cons (pe_call OK_law_left_out (hr.mono (by decide)) rfl D_law_left_out.m D_law_left_out.F.kp D_law_left_out.b .nil pass0 (pa_cons (pe_ix ix_tup (pv 10) pe_int (fun _ _ => rfl)) (pa_cons (pv 5) pa_nil))) (pa_cons (pe_call OK_law_left_out (hr.mono (by decide)) rfl D_law_left_out.m D_law_left_out.F.kp D_law_left_out.b .nil pass0 (pa_cons (pe_ix ix_tup (pv 10) pe_int (fun _ _ => rfl)) (pa_cons (pv 5) pa_nil))) pa_nil))) pa_nil)) (by rfl))
    (pss_cons (ps_if (pt_cmpR (op_eqDT (units65 hr)) (pe_ix ix_tup (pv 12) pe_int (fun _ _ => rfl)) pe_dnewT (nomark _)) (pss_cons (ps_if (pt_cmpR (op_neD hr.units) (pe_lamW (T := T9 P3) (k := 15) (t := fun E => tCall (spCo CPoly CQuotient BZ) [] E (tCons (tVar 8) (tCons (tVar 9) tNil))) Es B gd De rfl TB3 rfl (tt9 P3) (hr.mono (by decide)) (lamS_by (by show lamSB (defScope stlaw) _ = true; decide +kernel)) rfl (fun _ _ _ _ _ => rfl) (fun A2 ol2 s2 H2 E2 f2 cx2 hr2 => (pe_call OKcalled_one (hr2.mono (by decide)) rfl Dcalled_one.m Dcalled_one.F.kp Dcalled_one.b .nil (passes_call (takes_of rfl rfl rfl rfl) (fun _ _ _ _ h => h)) (pa_cons (pv 8) (pa_cons (pv 9) pa_nil))))) (pe_lst (pa_cons pe_str (pa_cons pe_int pa_nil))) (nomark _)) (pss_one (ps_ret pe_bl)) pss_nil)
    (pss_one ps_continue)) pss_nil)
    (pss_cons (ps_set (i := 13) sclaw.nd rfl (Or.inl rfl) (pe_call OKcalled_one (hr.mono (by decide)) rfl Dcalled_one.m Dcalled_one.F.kp Dcalled_one.b .nil passL (pa_cons (pv 8) (pa_cons (pv 9) pa_nil))))
    (pss_cons (ps_if (PW.pt (pw_or (pt_cmpR (op_ownN DQ_eq.M Es.neQ Es.d4 OKQ_eq (hr.mono (by decide)) DQ_eq.b pass0) (pv 13) (pe_call OK_law_made (hr.mono (by decide)) rfl D_law_made.m D_law_made.F.kp D_law_made.b .nil pass0 (pa_cons (pv 12) (pa_cons (pv 3) pa_nil))) (nomark _)) (pw_or (pt_cmpR op_ne (pe_fld (pv 13) rfl) (pv 3) (nomark _)) (pw_or1 (pt_cmpR (op_neD hr.units) (pe_callTy call_list_of (by rfl) B.list_ (by decide +kernel) (pa_cons (pv 9) pa_nil)) (pv 11) (nomark _)))))) (pss_one (ps_ret pe_bl)) pss_nil)
    (pss_one (ps_if (PW.pt (pw_and (pt_cmpR (op_eqD hr.units) (pv 5) (pe_lst pa_nil) (nomark _)) (pw_and1 (pt_cmpR (op_ownN DQ_eq.M Es.neQ Es.d4 OKQ_eq (hr.mono (by decide)) DQ_eq.b pass0) (pv 13) (pv 8) (nomark _))))) (pss_one (ps_ret pe_bl)) pss_nil)))))))))))))
    (pss_one (ps_ret pe_bl)))), ?_⟩
    obtain ⟨a, ns, rfl, hS, tbs, q⟩ := h
    have tb0 : Tabs (T9 P3) H := by
      intro pp hp
      simp only [T9, List.mem_cons, List.not_mem_nil, or_false] at hp
      rcases hp with rfl
      exact TabS.nil (tbs (c3, P3) (by simp))
    refine ⟨_, rfl, a, ns, rfl, hS, fun p c H0 hp hc hpc P0 s0 => ?_⟩
    have tbH0 := tabs_same tb0 s0
    refine ⟨4, rfl, by decide, by decide, for_range (n := 4) (fun i σ H' => ∃ v2 v3 v4 v5 v6 v7 v8 v9 v10 v11 v12 v13 : Option V, σ = [some (.ref a), some (.ref p), v2, v3, v4, v5, v6, v7, v8, v9, v10, v11, v12, v13] ∧ Pen H' p c (i * 10000) ∧ Tabs (T9 P3) H') ⟨none, none, none, none, none, none, none, none, none, none, none, none, rfl, P0.mono (by omega), tbH0⟩ ?_ ?_⟩
    · rintro i σ H1 hi ⟨v2, v3, v4, v5, v6, v7, v8, v9, v10, v11, v12, v13, rfl, P1, tb1⟩
      refine ⟨_, rfl, p, c, _, 3, rfl, P1, by omega, by decide, by decide, fun r H2 r0 r1 P2 k2 => ⟨_, _, rfl, rfl, ?_⟩⟩
      obtain ⟨rn, rfl⟩ := Int.eq_ofNat_of_zero_le r0
      have tb2 := tabs_p tb1 (k2.p P1)
      dsimp only
      rw [show (1 : Int) + (rn : Int) = ((rn + 1 : Nat) : Int) by omega]
      obtain ⟨n, hn1, hn3, en⟩ : ∃ n, 1 ≤ n ∧ n ≤ 3 ∧ rn + 1 = n := ⟨rn + 1, by omega, by omega, rfl⟩
      rw [en]
      clear en r1 r0 rn
      refine ⟨_, rfl, _, rfl, p, c, _, n, rfl, P2, by omega, hn3, fun t0 pr w H3 z1 z2 P3_ k3 ht0 pz => ?_⟩
      have tb3 := tabs_p tb2 (k3.p P2)
      refine ⟨t0, _, _, _, rfl, rfl, SqT.of ht0, rfl, ?_⟩
      refine ⟨(by show 0 ≤ sizeLine; decide), fun l0 hl0 => ?_⟩
      have n1 := AL.Same.new (o := .lst []) hl0
      refine ⟨(by show 2 ≤ sizeLine; decide), fun tt htt => ?_⟩
      have n2 := AL.Same.new (o := .tup [.ref pr, .ref l0]) htt
      refine ⟨tt, _, rfl, SqT.of upd_same, rfl, _, _, rfl, _, _, rfl, rfl, ?_⟩
      have l0e : upd (upd H3 l0 (.lst [])) tt (.tup [.ref pr, .ref l0]) l0 = some (.lst ((zN []).map V.int)) := n2 _ _ upd_same
      have s4 := n1.trans n2
      replace pz := pz.keep P3_ (same_k7 s4)
      have P4 := P3_.same s4
      have tb4 := tabs_same tb3 s4
      generalize upd (upd H3 l0 (.lst [])) tt (.tup [.ref pr, .ref l0]) = H4 at l0e pz P4 tb4 ⊢
      clear n1 n2 htt hl0 s4 ht0 P3_ k3 P2 k2 P1 tb1 tb2 tb3
      refine ⟨_, rfl, _, rfl, by omega, by omega, for_range (lo := 0) (n := ((n : Int)).toNat) (fun j σ H' => ∃ (l : Addr) (v6 : Option V) (js : List Nat), σ = [some (.ref a), some (.ref p), some (.int (0 + (i : Int))), some (.int (n : Int)), some (.ref pr), some (.ref l), v6, v7, v8, v9, v10, v11, v12, v13] ∧ Pen H' p c (i * 10000 + 2100 + j) ∧ Tabs (T9 P3) H' ∧ PairZ H' p pr n 4 3000 6 6 z1 z2 ∧ H' l = some (.lst ((zN js).map V.int)) ∧ js.Nodup ∧ (∀ k ∈ js, k < j) ∧ js.length ≤ j) ⟨l0, v6, [], rfl, P4.mono (by omega), tb4, pz, l0e, List.nodup_nil, (fun k hk => nomatch hk), Nat.le_refl _⟩ ?_ ?_⟩
      · rintro j σ H5 hj ⟨l, v6, js, rfl, P5, tb5, pz5, hl, nd, lt, len⟩
        have hj3 : j < 3 := by omega
        refine ⟨_, rfl, _, rfl, p, c, _, 2, rfl, P5, by omega, by decide, by decide, fun r H6 r0 r1 P6 k6 => ⟨rfl, _, rfl, ?_⟩⟩
        have hl6 := k6.at P5 hl (fun _ z => nomatch z)
        have pz6 := pz5.keep P5 k6
        have tb6 := tabs_p tb5 (k6.p P5)
        by_cases hr : r = 0
        · rw [decide_eq_true (by rw [hr])]
          refine iteT ?_
          refine ⟨_, rfl, (by show 1 ≤ sizeLine; decide), fun lj hlj => ?_⟩
          have n1 := AL.Same.new (o := .lst [.int (0 + (j : Int))]) hlj
          refine ⟨l, lj, _, _, rfl, rfl, n1 _ _ hl6, upd_same, ?_, fun l' hl' => ?_⟩
          · rw [List.length_map, zN_len]; exact Nat.le_trans (by show js.length + 1 ≤ 100; omega) (by decide)
          have n2 := AL.Same.new (o := .lst ((zN js).map V.int ++ [.int (0 + (j : Int))])) hl'
          have s2 := n1.trans n2
          refine ⟨l', _, js ++ [j], rfl, (P6.same s2).mono (by omega), tabs_same tb6 s2, pz6.keep P6 (same_k7 s2), ?_, ?_, ?_, ?_⟩
          · rw [upd_same, zN_snoc, List.map_append, Int.zero_add]; rfl
          · rw [List.nodup_append]
            exact ⟨nd, by simp, fun x hx y hy => by rw [List.mem_singleton.mp hy]; have := lt x hx; omega⟩
          · intro k hk
            rcases List.mem_append.mp hk with w | w
            · have := lt k w; omega
            · rw [List.mem_singleton.mp w]; omega
          · rw [List.length_append]; exact Nat.add_le_add_right len 1
        · rw [decide_eq_false (fun z => hr (by cases z; rfl))]
          refine iteF ?_
          refine ⟨(by show 0 ≤ sizeLine; decide), fun lj hlj => ?_⟩
          have n1 := AL.Same.new (o := .lst []) hlj
          refine ⟨l, lj, _, _, rfl, rfl, n1 _ _ hl6, upd_same, ?_, fun l' hl' => ?_⟩
          · rw [List.length_map, zN_len]; exact Nat.le_trans (by show js.length + 0 ≤ 100; omega) (by decide)
          have n2 := AL.Same.new (o := .lst ((zN js).map V.int ++ [])) hl'
          have s2 := n1.trans n2
          refine ⟨l', _, js, rfl, (P6.same s2).mono (by omega), tabs_same tb6 s2, pz6.keep P6 (same_k7 s2), ?_, nd, (fun k hk => by have := lt k hk; omega), by omega⟩
          rw [upd_same, List.append_nil]
      rintro σ H5 ⟨l, v6, js, rfl, P5, tb5, pz5, hl, nd, lt, len⟩
      rw [Int.toNat_natCast] at P5 lt len
      clear l0e pz P4 tb4
      refine ⟨fun σ' H' => ∃ (pr : Addr) (z1 z2 : ZM) (v7 : Option V), σ' = [some (.ref a), some (.ref p), some (.int (0 + (i : Int))), some (.int (n : Int)), some (.ref pr), some (.ref l), v6, v7, v8, v9, v10, v11, v12, v13] ∧ Pen H' p c (i * 10000 + 2200) ∧ Tabs (T9 P3) H' ∧ PairZ H' p pr n 5 40000 6 12 z1 z2 ∧ H' l = some (.lst ((zN js).map V.int)), ?_, ?_⟩
      · refine ⟨_, rfl, (by show 0 ≤ sizeLine; decide), fun e0 he0 => ?_⟩
        have n0 := AL.Same.new (o := .lst []) he0
        refine ⟨_, _, dpAll_lst (n0 _ _ hl), dpAll_lst (es := []) upd_same, shaped_lst _, shaped_lst _, _, rfl, ?_⟩
        rw [eqv_lst]
        have P6 := P5.same n0
        have tb6 := tabs_same tb5 n0
        have hl6 := n0 _ _ hl
        have pz6 := pz5.keep P5 (same_k7 n0)
        generalize upd H5 e0 (.lst []) = H6 at P6 tb6 hl6 pz6 ⊢
        have same : ∀ {H7 : Hp} {m : Nat}, m ≤ i * 10000 + 2200 → Pen H7 p c m → Tabs (T9 P3) H7 → PairZ H7 p pr n 4 3000 6 6 z1 z2 → H7 l = some (.lst ((zN js).map V.int)) → _ := fun {H7 m} hm P tb pz hl => (⟨pr, z1, z2, v7, rfl, P.mono hm, tb, pz.mono (by decide) (by decide) (by decide) (by decide), hl⟩ : ∃ (pr' : Addr) (z1' z2' : ZM) (v7' : Option V), [some (.ref a), some (.ref p), some (.int (0 + (i : Int))), some (.int (n : Int)), some (.ref pr), some (.ref l), v6, v7, v8, v9, v10, v11, v12, v13] = [some (.ref a), some (.ref p), some (.int (0 + (i : Int))), some (.int (n : Int)), some (.ref pr'), some (.ref l), v6, v7', v8, v9, v10, v11, v12, v13] ∧ Pen H7 p c (i * 10000 + 2200) ∧ Tabs (T9 P3) H7 ∧ PairZ H7 p pr' n 5 40000 6 12 z1' z2' ∧ H7 l = some (.lst ((zN js).map V.int)))
        by_cases hjs : zN js = []
        · rw [decide_eq_true hjs]
          refine iteF ?_
          exact same (by omega) P6 tb6 pz6 hl6
        rw [decide_eq_false hjs]
        refine iteT ?_
        refine ⟨_, rfl, p, c, _, 4, rfl, P6, by omega, by decide, by decide, fun r H7 r0 r1 P7 k7 => ⟨rfl, _, rfl, ?_⟩⟩
        have hl7 := k7.at P6 hl6 (fun _ z => nomatch z)
        have pz7 := pz6.keep P6 k7
        have tb7 := tabs_p tb6 (k7.p P6)
        by_cases hr : r = 0
        · rw [decide_eq_true (by rw [hr])]
          refine iteT ?_
          obtain ⟨j0, js', rfl⟩ : ∃ j0 js', js = j0 :: js' := by
            cases js with
            | nil => exact absurd rfl hjs
            | cons j0 js' => exact ⟨j0, js', rfl⟩
          have j0n := lt j0 (List.mem_cons_self ..)
          refine ⟨_, rfl, _, rfl, by omega, by omega, fun D hD => ?_⟩
          refine lc_range (lo := 0) (n := ((n : Int)).toNat) (fun i2 H' => Same H7 H' ∧ H' D = some (.lst ((ki ((unitE n j0).take i2)).map V.int))) ⟨AL.Same.new hD, upd_same⟩ ?_ ?_
          · rintro i2 H8 hi2 ⟨s8, hd8⟩
            rw [Int.toNat_natCast] at hi2
            refine ⟨rfl, ?_⟩
            refine ⟨_, rfl, _, rfl, l, _, _, V.int (j0 : Int), rfl, rfl, SqL.of (s8 _ _ hl7), atI_0 _ _, rfl, .inr ⟨_, rfl, _, hd8, ?_, AL.Same.updn s8 hD, ?_⟩⟩
            · rw [List.length_map, len_ki, List.length_take]; exact Nat.lt_of_le_of_lt (by omega : _ ≤ 100) (by decide)
            · have g : (unitE n j0)[i2]? = some (if i2 = j0 then 1 else 0) := by
                unfold unitE
                rw [List.getElem?_map, List.getElem?_range hi2]; rfl
              rw [upd_same, List.take_add_one, g]
              have e : (if decide (V.int (0 + (i2 : Int)) = V.int (j0 : Int)) = true then (1 : Int) else 0) = (((if i2 = j0 then 1 else 0 : Nat)) : Int) := by
                by_cases w : i2 = j0
                · rw [if_pos w, if_pos (decide_eq_true (by rw [w, Int.zero_add]))]; rfl
                · rw [if_neg w, if_neg (by rw [decide_eq_true_iff]; intro z; injection z with z; omega)]; rfl
              have e' : V.int (if decide (V.int (0 + (i2 : Int)) = V.int (j0 : Int)) = true then (1 : Int) else 0) = V.int (((if i2 = j0 then 1 else 0 : Nat)) : Int) := congrArg V.int e
              unfold ki
              rw [List.map_append, List.map_append]
              exact congrArg (fun v => some (HO.lst (_ ++ [v]))) e'
          rintro H8 ⟨s8, hd8⟩
          rw [List.take_of_length_le (by rw [unitE_len, Int.toNat_natCast]; exact Nat.le_refl _)] at hd8
          refine ⟨D, _, rfl, .inl ⟨SqL.of hd8, fun kk hkk => ?_⟩⟩
          have nk := AL.Same.new (o := .tup ((ki (unitE n j0)).map V.int)) hkk
          have s9 := s8.trans nk
          have hk9 : KeyAt (upd H8 kk (.tup ((ki (unitE n j0)).map V.int))) kk (unitE n j0) := upd_same
          generalize upd H8 kk (.tup ((ki (unitE n j0)).map V.int)) = H9 at s9 hk9 ⊢
          replace hl7 := s9 _ _ hl7
          replace tb7 := tabs_same tb7 s9
          replace pz7 := pz7.keep P7 (same_k7 s9)
          replace P7 := P7.same s9
          clear nk hkk s8 hd8 s9 hD
          obtain ⟨⟨d1, d2, hpr, hd1, hd2⟩, zb1, zb2, zl1, zl2, zne⟩ := pz7
          refine ⟨_, rfl, pr, _, _, _, rfl, rfl, SqT.of hpr, rfl, _, rfl, pr, _, _, _, rfl, rfl, SqT.of hpr, rfl, fun d hd => ?_⟩
          have nd0 := AL.Same.new (o := .dT []) hd
          refine ⟨_, rfl, (by show 1 ≤ sizeLine; decide), fun t1 ht1 => ?_⟩
          have nt1 := AL.Same.new (o := .tup [.int 0]) ht1
          refine ⟨_, rfl, repZ_one upd_same (by omega) fun z HA sA hz => ?_⟩
          have sAll := (nd0.trans nt1).trans sA
          have hdA : HA d = some (.dT []) := (nt1.trans sA) _ _ upd_same
          have kz : KeyAt HA z (List.replicate n 0) := by
            unfold KeyAt ki
            rw [hz, List.map_replicate, List.map_replicate]; rfl
          have ke := sAll _ _ hk9
          refine ⟨_, rfl, keyL (unitE n j0), kk, keyL (List.replicate n 0), z, rfl, rfl, hdA, keyAt_L ke, keyAt_L kz, ?_⟩
          have pe : putK [(keyL (unitE n j0), V.int 1)] (keyL (List.replicate n 0)) (V.int (-1)) = ([(unitE n j0, 1), (List.replicate n 0, -1)] : ZM).map entZ := by
            have w := putK_Z [(unitE n j0, 1)] (List.replicate n 0) (-1)
            rw [putZ_new (by rw [List.map_cons, List.map_nil, List.mem_singleton]; exact fun e => unitE_ne j0n e.symm)] at w
            exact w
          have gb : DicZ (upd HA d (.dT (putK [(keyL (unitE n j0), V.int 1)] (keyL (List.replicate n 0)) (V.int (-1))))) d [(unitE n j0, 1), (List.replicate n 0, -1)] := by
            rw [pe]; exact upd_same
          have sB : Same H9 (upd HA d (.dT (putK [(keyL (unitE n j0), V.int 1)] (keyL (List.replicate n 0)) (V.int (-1))))) := AL.Same.updn sAll hd
          generalize upd HA d (.dT (putK [(keyL (unitE n j0), V.int 1)] (keyL (List.replicate n 0)) (V.int (-1)))) = HB at gb sB ⊢
          have bb : ZB n 1 1 [(unitE n j0, 1), (List.replicate n 0, -1)] := by
            refine ⟨?_, by show 2 < 64; decide, fun q hq => ?_, fun q hq => ?_⟩
            · rw [List.map_cons, List.map_cons, List.map_nil, List.nodup_cons]
              exact ⟨by rw [List.mem_singleton]; exact unitE_ne j0n, List.nodup_cons.mpr ⟨List.not_mem_nil, List.nodup_nil⟩⟩
            · rcases List.mem_cons.mp hq with rfl | hq
              · refine ⟨unitE_len n j0, fun k hk => ?_⟩
                obtain ⟨x, _, rfl⟩ := List.mem_map.mp hk
                split <;> decide
              · rw [List.mem_singleton.mp hq]
                exact ⟨List.length_replicate .., fun k hk => by rw [List.eq_of_mem_replicate hk]; decide⟩
            · rcases List.mem_cons.mp hq with rfl | hq
              · show (1 : Int).natAbs ≤ 1; decide
              · rw [List.mem_singleton.mp hq]; show (-1 : Int).natAbs ≤ 1; decide
          have bn : ¬ Eqp [] (toQ [(unitE n j0, 1), (List.replicate n 0, -1)]) := ne_of_nz bb.nd (fun q hq => by
            rcases List.mem_cons.mp hq with rfl | hq
            · show (1 : Int) ≠ 0; decide
            · rw [List.mem_singleton.mp hq]; show (-1 : Int) ≠ 0; decide) (fun z => nomatch z)
          generalize hbz : ([(unitE n j0, 1), (List.replicate n 0, -1)] : ZM) = bz at gb bb bn
          have lbz : bz.length = 2 := by rw [← hbz]; rfl
          have n2d : d2 ≠ d := fun e => by rw [← e, show H9 d2 = _ from hd2] at hd; cases hd
          have f2 : z2.length * bz.length ≤ 12 := by rw [lbz]; omega
          refine ⟨d2, d, z2, bz, n, 4, 1, 3000, 1, rfl, n2d, sB _ _ hd2, gb, zb2, bb, by omega, by omega, by decide, by decide, fun e1 HC he1 sC q1 => ?_⟩
          refine ⟨(by show 2 ≤ sizeLine; decide), fun pr' hpr' => ?_⟩
          have np := AL.Same.new (o := .tup [.ref d1, .ref e1]) hpr'
          have sD := (sB.trans sC).trans np
          have x1 := nzZ_len (joinZ [] (mulZ z2 bz))
          have x2 := joinZ_len (mulZ z2 bz) []
          rw [mulZ_len, List.length_nil] at x2
          exact ⟨pr', z1, nzZ (joinZ [] (mulZ z2 bz)), _, rfl, (P7.same sD).mono (by omega), tabs_same tb7 sD, ⟨⟨d1, e1, upd_same, hd1.same sD, q1.same np⟩, zb1.mono (by decide) (by decide), (times_zb zb2 bb (by omega)).mono (by decide) (Nat.le_trans (Nat.mul_le_mul_left _ f2) (by decide)), by omega, by omega, times_ne zb2 bb (by decide) (by decide) zne bn⟩, sD _ _ hl7⟩
        · rw [decide_eq_false (fun z => hr (by cases z; rfl))]
          refine iteF ?_
          exact same (by omega) P7 tb7 pz7 hl7
      rintro σ H6 ⟨pr, z1, z2, v7, rfl, P6, tb6, pz, hl⟩
      clear pz5 tb5 P5
      obtain ⟨⟨d1, d2, hpr, hd1, hd2⟩, zb1, zb2, zl1, zl2, zne⟩ := pz
      refine ⟨_, rfl, _, rfl, pr, d1, d2, n, 5, 40000, z1, z2, rfl, hpr, hd1, hd2, zb1, zb2, by omega, by decide, by decide, zne, fun y H7 t u a0 b0 s7 Q7 ct cu lt' lu' ca cb _ _ bne FO => ?_⟩
      refine ⟨_, rfl, _, rfl, _, rfl, l, _, rfl, SqL.of (s7 _ _ hl), fun lr hlr => ?_⟩
      have n1 := AL.Same.new (o := .lst ((zN js).map V.int).reverse) hlr
      refine ⟨lr, _, rfl, .inl ⟨SqL.of upd_same, fun T hT => ?_⟩⟩
      have n2 := AL.Same.new (o := .tup ((zN js).map V.int).reverse) hT
      refine ⟨(by show 2 ≤ sizeLine; decide), fun lp hlp => ?_⟩
      have n3 := AL.Same.new (o := .lst [.ref l, .ref T]) hlp
      have s10 := (s7.trans n1).trans (n2.trans n3)
      have P10 := P6.same s10
      refine ⟨p, c, lp, _, _, rfl, P10, by omega, SqL.of upd_same, (by show 0 < 2; decide), (by show 2 < 1000000000; decide), fun jx x H8 hx P8 k8 => ?_⟩
      have tb8 := tabs_p (tabs_same tb6 s10) (k8.p P10)
      have hT8 := k8.at P10 (n3 _ _ (upd_same : upd _ T (.tup ((zN js).map V.int).reverse) T = _)) (fun _ z => nomatch z)
      have hl8 := k8.at P10 (s10 _ _ hl) (fun _ z => nomatch z)
      have Q8 : QuoAt CPoly CQuotient H8 y n t u := by
        have w := ((Q7.same n1).same n2).same n3
        obtain ⟨dq, xx, yy, e1, ⟨dx, T1, ts1, X1, X2, X3⟩, ⟨dy, T2, ts2, Y1, Y2, Y3⟩⟩ := w
        exact ⟨dq, xx, yy, k8.at P10 e1 (fun _ z => nomatch z), ⟨dx, T1, ts1, k8.at P10 X1 (fun _ z => nomatch z), k8.at P10 X2 (fun _ z => nomatch z), paired_mono X3 fun _ _ w => w.tups (fun c ys z => k8.at P10 z (fun _ z => nomatch z))⟩, ⟨dy, T2, ts2, k8.at P10 Y1 (fun _ z => nomatch z), k8.at P10 Y2 (fun _ z => nomatch z), paired_mono Y3 fun _ _ w => w.tups (fun c ys z => k8.at P10 z (fun _ z => nomatch z))⟩⟩
      obtain ⟨pa, ks, rfl, LA, mem⟩ : ∃ pa ks, x = .ref pa ∧ LetA H8 pa n ks ∧ (∀ j, j ∈ js ↔ j ∈ ks) := by
        have hx' : x = .ref l ∨ x = .ref T := by
          refine pick_of (P := fun y => y = .ref l ∨ y = .ref T) (fun z hz => ?_) hx
          simpa only [List.mem_cons, List.not_mem_nil, or_false] using hz
        rcases hx' with rfl | rfl
        · exact ⟨l, js, rfl, ⟨.inl hl8, nd, lt, by omega⟩, fun j => Iff.rfl⟩
        · refine ⟨T, js.reverse, rfl, ⟨.inr ?_, (List.reverse_perm js).nodup_iff.mpr nd, fun j hj => lt j (List.mem_reverse.mp hj), by rw [List.length_reverse]; omega⟩, fun j => List.mem_reverse.symm⟩
          rw [hT8, ← List.map_reverse]
          unfold zN
          rw [← List.map_reverse]
      refine ⟨(by show 2 ≤ sizeLine; decide), fun tt htt => ?_⟩
      have n4 := AL.Same.new (o := .tup [.ref y, .ref pa]) htt
      refine ⟨tt, _, rfl, SqT.of upd_same, rfl, _, _, rfl, _, _, rfl, rfl, ?_⟩
      have bk : BK CPoly CQuotient (T9 P3) p c y l pa (i * 10000 + 2300) n t u js ks (upd H8 tt (.tup [.ref y, .ref pa])) := BK.same ⟨P8.mono (by omega), tb8, Q8, hl8, LA⟩ n4
      generalize upd H8 tt (.tup [.ref y, .ref pa]) = H9 at bk ⊢
      clear n4 htt hx hT8 hl8 Q8 LA tb8 P8 k8 P10 s10 n3 n2 n1 hlp hT hlr Q7 s7 hpr hd1 hd2 P6 tb6 hl
      have FC := formOf_C ca cb ⟨ct.asc, ct.nz, ct.pb⟩ ⟨cu.asc, cu.nz, cu.pb⟩ (by decide) bne FO
      have une : u ≠ [] := by
        rcases FC with ⟨_, e⟩ | ⟨_, e, _⟩
        · intro z
          rw [z] at e
          have w := (eqp_mem (a := []) (b := [(List.replicate n 0, 1)]) List.nodup_nil (List.nodup_cons.mpr ⟨List.not_mem_nil, List.nodup_nil⟩) (fun p hp => by cases hp) (fun p hp => by rw [List.mem_singleton.mp hp]; show (1 : Rat) ≠ 0; decide +kernel) e (List.replicate n 0, 1)).mpr (List.mem_singleton.mpr rfl)
          cases w
        · exact e
      have BBl : (40000 * 64 * 64 + 1 : Nat) < 2 ^ 1000 := by decide +kernel
      have zbt := numZ_zb ct (by omega : t.length < 64)
      have zbu := numZ_zb cu (by omega : u.length < 64)
      refine ⟨_, rfl, _, rfl, y, n, 5, 40000 * 64 * 64 + 1, t, u, rfl, bk.Q, ct, cu, une, by omega, by omega, by omega, BBl, fun pr2 g1 g2 H10 s10 hpr2 D1 D2 => ?_⟩
      replace bk := bk.same s10
      refine ⟨_, rfl, pa, _, rfl, bk.LA.seq, fun lk hlk => ?_⟩
      have n5 := AL.Same.new (o := .lst ((zN ks).map V.int)) hlk
      have hlk5 : upd H10 lk (.lst ((zN ks).map V.int)) lk = some (.lst ((zN ks).map V.int)) := upd_same
      replace bk := bk.same n5
      replace hpr2 := n5 _ _ hpr2
      replace D1 := D1.same n5
      replace D2 := D2.same n5
      generalize upd H10 lk (.lst ((zN ks).map V.int)) = H11 at bk hpr2 D1 D2 hlk5 ⊢
      clear n5 hlk
      refine ⟨_, rfl, pr2, _, _, _, rfl, rfl, SqT.of hpr2, rfl, _, rfl, g1, l, numZ t, n, 5, _, js, rfl, D1, zbt, bk.hl, by omega, by omega, fun e1 H12 he1 s12 E1 => ?_⟩
      replace bk := bk.same s12
      refine ⟨_, rfl, pr2, _, _, _, rfl, rfl, SqT.of (s12 _ _ hpr2), rfl, _, rfl, g2, l, numZ u, n, 5, _, js, rfl, D2.same s12, zbu, bk.hl, by omega, by omega, fun e2 H13 he2 s13 E2 => ?_⟩
      replace bk := bk.same s13
      replace E1 := E1.same s13
      replace hlk5 := s13 _ _ (s12 _ _ hlk5)
      refine ⟨(by show 2 ≤ sizeLine; decide), fun td htd => ?_⟩
      have n6 := AL.Same.new (o := .tup [.ref e1, .ref e2]) htd
      have htd6 : upd H13 td (.tup [.ref e1, .ref e2]) td = some (.tup [.ref e1, .ref e2]) := upd_same
      replace bk := bk.same n6
      replace E1 := E1.same n6
      replace E2 := E2.same n6
      replace hlk5 := n6 _ _ hlk5
      generalize upd H13 td (.tup [.ref e1, .ref e2]) = H14 at bk E1 E2 htd6 hlk5 ⊢
      clear n6 htd he1 he2 s12 s13 s10 hpr2 D1 D2
      refine ⟨_, _, rfl, ?_⟩
      generalize hZ1 : nzZ (joinZ [] (leftZ js (numZ t))) = Z1 at E1
      generalize hZ2 : nzZ (joinZ [] (leftZ js (numZ u))) = Z2 at E2
      have bZ : ∀ {m : PM}, ZB n 5 (40000 * 64 * 64 + 1) (numZ m) → m.length ≤ 13 → ZB n 5 (10 ^ 12) (nzZ (joinZ [] (leftZ js (numZ m)))) := fun {m} z lm => by
        have w := ZB.join (n := n) (E := 5) (C := 40000 * 64 * 64 + 1) (l := leftZ js (numZ m)) (fun q hq => by
          obtain ⟨p, hp, rfl⟩ := List.mem_map.mp hq
          exact ⟨by show (zeroE js p.1).length = n; rw [zeroE_len]; exact (z.key p hp).1, zeroE_le js (z.key p hp).2⟩) (fun q hq => by
          obtain ⟨p, hp, rfl⟩ := List.mem_map.mp hq
          exact z.sz p hp) (by rw [leftZ_len]; exact z.len)
        refine w.mono (Nat.le_refl _) ?_
        rw [leftZ_len]
        have : (numZ m).length ≤ 13 := by unfold numZ; rw [List.length_map]; exact lm
        exact Nat.le_trans (Nat.mul_le_mul_left _ this) (by decide)
      have zz1 : ZB n 5 (10 ^ 12) Z1 := hZ1 ▸ bZ zbt (by omega)
      have zz2 : ZB n 5 (10 ^ 12) Z2 := hZ2 ▸ bZ zbu (by omega)
      have q1 : Eqp (toQ Z1) (outL ks t) := by
        rw [← hZ1, ← outL_congr mem]
        refine (nzj_eqp _).trans ?_
        rw [toQ_left, toQ_num ct.pb]
        exact Eqp.rfl'
      have q2 : Eqp (toQ Z2) (outL ks u) := by
        rw [← hZ2, ← outL_congr mem]
        refine (nzj_eqp _).trans ?_
        rw [toQ_left, toQ_num cu.pb]
        exact Eqp.rfl'
      have Z2nz : NZ (toQ Z2) := hZ2 ▸ nzZ_NZ _
      have Z2ne : Z2 ≠ [] → ¬ Eqp [] (toQ Z2) := fun h => ne_of_nz zz2.nd (fun q hq z => Z2nz (q.1, ((q.2 : Int) : Rat)) (List.mem_map.mpr ⟨q, hq, rfl⟩) (by rw [z]; rfl)) h
      clear bZ hZ1 hZ2
      refine ⟨_, rfl, td, _, _, _, rfl, rfl, SqT.of htd6, rfl, fun en hen => ?_⟩
      have n7 := AL.Same.new (o := .dT []) hen
      obtain ⟨F, et, ev⟩ := eqZ_nil (K := K) (E2.same n7) (show upd H14 en (.dT []) en = some (.dT []) from upd_same)
      refine ⟨e2, en, _, [], F, rfl, rfl, et, _, rfl, ?_⟩
      rw [ev]
      clear ev et
      replace bk := bk.same n7
      replace E1 := E1.same n7
      replace E2 := E2.same n7
      replace htd6 := n7 _ _ htd6
      replace hlk5 := n7 _ _ hlk5
      generalize upd H14 en (.dT []) = H15 at bk E1 E2 htd6 hlk5 ⊢
      clear n7 hen
      have big1 : (40000 * 64 * 64 + 1) * 64 * 1 < 2 ^ 5900 := by decide +kernel
      have big2 : (40000 * 64 * 64 + 1) * 64 * 1 * 1 < 2 ^ 5990 := by decide +kernel
      have big0 : (1 : Nat) < 2 ^ 1400 := by decide +kernel
      by_cases hz2 : Z2 = []
      · rw [decide_eq_true hz2]
        refine iteT ?_
        refine ⟨bk.tb, lamZ (fun E H1 Q' x1 th => ?_) (fun t3 H3 x3 T3 ht3 => ?_)⟩
        · refine ⟨_, rfl, _, rfl, y, pa, n, 5, 1, 40000 * 64 * 64 + 1, t, u, ks, rfl, quo_ext bk.Q x1, ct, cu, bk.LA.ext x1, by omega, by decide, by omega, by omega, big0, big1, big2, fun a' b' ca' cb' ea' eb' => ⟨fun _ => th, fun hb => absurd (asc_nil cb'.asc cb'.nz ?_) hb⟩⟩
          refine eb'.trans (q2.symm.trans ?_)
          rw [hz2]; exact Eqp.rfl'
        refine ⟨(by show 2 ≤ sizeLine; decide), fun u0 hu0 => ?_⟩
        have nu := AL.Same.new (o := .lst [.str "zero", .int 0]) hu0
        refine ⟨_, _, dp_zeroL (nu _ _ ht3), dp_zeroL upd_same, by decide +kernel, by decide +kernel, _, rfl, ?_⟩
        rw [SeqAt.eqv_refl _ (SeqAt.canLay_of_shaped (by decide +kernel))]
        refine iteF ?_
        exact ⟨_, _, _, _, _, _, _, _, _, _, _, _, rfl, ((pen_ext bk.P x3).same nu).mono (by omega), tabs_same T3 nu⟩
      rw [decide_eq_false hz2]
      refine iteF ?_
      refine ⟨_, rfl, _, rfl, y, pa, n, 5, 1, 40000 * 64 * 64 + 1, t, u, ks, rfl, bk.Q, ct, cu, bk.LA, by omega, by decide, by omega, by omega, big0, big1, big2, fun a' b' ca' cb' ea' eb' => ⟨fun hb => absurd ?_ (Z2ne hz2), fun hb z H16 t2 u2 s16 Q2 ct2 cu2 lt2 lu2 FO2 => ?_⟩⟩
      · rw [hb] at eb'
        exact eb'.trans q2.symm
      replace bk := bk.same s16
      replace E1 := E1.same s16
      replace E2 := E2.same s16
      replace htd6 := s16 _ _ htd6
      replace hlk5 := s16 _ _ hlk5
      clear s16
      refine ⟨_, rfl, _, rfl, _, rfl, td, e1, e2, n, 5, 10 ^ 12, Z1, Z2, rfl, htd6, E1, E2, zz1, zz2, by omega, by decide, by decide, Z2ne hz2, fun y3 H17 t3 u3 a3 b3 s17 Q3 ct3 cu3 _ _ ca3 cb3 ea3 eb3 bne3 FO3 => ?_⟩
      replace bk := bk.same s17
      replace Q2 := Q2.same s17
      replace hlk5 := s17 _ _ hlk5
      clear s17
      have ea : a' = a3 := uniq ca'.asc ca3.asc ca'.nz ca3.nz (ea'.trans (q1.symm.trans ea3.symm))
      have eb : b' = b3 := uniq cb'.asc cb3.asc cb'.nz cb3.nz (eb'.trans (q2.symm.trans eb3.symm))
      subst ea eb
      obtain ⟨et, eu⟩ := form_det FO2 FO3
      have et' : t2 = t3 := uniq ct2.asc ct3.asc ct2.nz ct3.nz et
      have eu' : u2 = u3 := uniq cu2.asc cu3.asc cu2.nz cu3.nz eu
      subst et' eu'
      have tyQ : ∀ {HH : Hp} {yy : Addr} {tt uu : PM}, QuoAt CPoly CQuotient HH yy n tt uu → InsAt HH yy CQuotient ∧ TyX K HH (.ref yy) (.ref CQuotient) := fun h => by
        obtain ⟨dx, _, _, h1, _⟩ := h
        exact ⟨⟨dx, _, h1⟩, TyX.base (.ins h1 Es.clQ Es.d1 Es.c2 Es.c3 Es.d4)⟩
      refine ⟨z, _, rfl, (tyQ Q2).1, (tyQ Q3).2, Es.nQ, z, .ref y3, n, t2, u2, rfl, Q2, .inl ⟨y3, n, t2, u2, rfl, Q3, _, rfl, ?_⟩⟩
      rw [decide_eq_true rfl, decide_eq_true rfl, decide_eq_true rfl]
      refine ⟨_, rfl, ?_⟩
      refine iteF ?_
      obtain ⟨dq, x2, y2, eq2, X2, Y2⟩ := id Q2
      refine ⟨_, rfl, z, _, dq, _, _, rfl, eq2, Es.clQ, Es.qS, flQ_s _ _ _, _, rfl, rfl, _, rfl, ?_⟩
      rw [decide_eq_true rfl]
      refine iteF ?_
      refine ⟨_, rfl, pa, _, rfl, bk.LA.seq, fun lk2 hlk2 => ?_⟩
      have n8 := AL.Same.new (o := .lst ((zN ks).map V.int)) hlk2
      refine ⟨_, rfl, _, _, dpAll_lst upd_same, dpAll_lst (n8 _ _ hlk5), shaped_lst _, shaped_lst _, _, rfl, ?_⟩
      rw [eqv_lst, decide_eq_true rfl]
      refine iteF ?_
      replace bk := bk.same n8
      replace Q2 := Q2.same n8
      generalize upd H17 lk2 (.lst ((zN ks).map V.int)) = H18 at bk Q2 ⊢
      clear n8 hlk2 Q3 eq2 X2 Y2 hlk5
      refine ⟨_, rfl, (by show 0 ≤ sizeLine; decide), fun e0 he0 => ?_⟩
      have n9 := AL.Same.new (o := .lst []) he0
      replace bk := bk.same n9
      replace Q2 := Q2.same n9
      refine ⟨_, _, dpAll_lst bk.hl, dpAll_lst (es := []) upd_same, shaped_lst _, shaped_lst _, _, rfl, ?_⟩
      rw [eqv_lst]
      generalize upd H18 e0 (.lst []) = H19 at bk Q2 ⊢
      by_cases hjs : zN js = []
      · rw [decide_eq_true hjs]
        refine iteT ?_
        have ks0 : ks = [] := by
          cases ks with
          | nil => rfl
          | cons k r =>
            have := (mem k).mpr (List.mem_cons_self ..)
            rw [zN_nil.mp hjs] at this; cases this
        subst ks0
        rw [outL_nil] at ea' eb'
        have a1 : a' = t := uniq ca'.asc ct.asc ca'.nz ct.nz ea'
        have b1 : b' = u := uniq cb'.asc cu.asc cb'.nz cu.nz eb'
        subst a1 b1
        obtain ⟨f1, f2⟩ := form_idem ⟨ct.asc, ct.nz, ct.pb⟩ ⟨cu.asc, cu.nz, cu.pb⟩ (by decide) FC FO2
        have t1 : t2 = a' := uniq ct2.asc ct.asc ct2.nz ct.nz f1
        have u1 : u2 = b' := uniq cu2.asc cu.asc cu2.nz cu.nz f2
        subst t1 u1
        refine ⟨_, rfl, _, rfl, z, _, rfl, (tyQ Q2).1, (tyQ bk.Q).2, Es.nQ, z, .ref y, n, t2, u2, rfl, Q2, .inl ⟨y, n, t2, u2, rfl, bk.Q, _, rfl, ?_⟩⟩
        rw [decide_eq_true rfl, decide_eq_true rfl, decide_eq_true rfl]
        refine ⟨_, rfl, ?_⟩
        refine iteF ?_
        exact ⟨_, _, _, _, _, _, _, _, _, _, _, _, rfl, bk.P.mono (by omega), bk.tb⟩
      · rw [decide_eq_false hjs]
        refine iteF ?_
        exact ⟨_, _, _, _, _, _, _, _, _, _, _, _, rfl, bk.P.mono (by omega), bk.tb⟩
    · rintro σ H1 ⟨v2, v3, v4, v5, v6, v7, v8, v9, v10, v11, v12, v13, rfl, P1, tb1⟩
      exact q H1
end
end AL
set_option Elab.async false
set_option maxRecDepth 100000
set_option maxHeartbeats 2000000
/-! The end of a law that makes lambdas, and whose defs ask repr. -/
namespace AL
open PySem PySem.Spec PyProof.Rows L2 LamX
/-- the heap at the entry: the script, locked, and the empty tables of the defs that make lambdas -/
def tabH (K : PySem.W.Frag) (a : Addr) (us : List Value) (ns : List Int) (Ts : List Addr) : Hp := fun b => if b ∈ Ts then some (.tbl #[]) else scrH K a us ns b
theorem tabH_in {K : PySem.W.Frag} {a b : Addr} {us : List Value} {ns : List Int} {Ts : List Addr} (h : b ∈ Ts) : tabH K a us ns Ts b = some (.tbl #[]) := if_pos h
theorem tabH_out {K : PySem.W.Frag} {a b : Addr} {us : List Value} {ns : List Int} {Ts : List Addr} (h : b ∉ Ts) : tabH K a us ns Ts b = scrH K a us ns b := if_neg h
theorem lawGT {P : Program} {w : World} {K : PySem.W.Frag} {mg mb : Str → Option Value} {CX : CXT} {k : Nat} {fa a : Addr} {cs : List (Addr × Addr)} {fd : FuncData} {x : Str} {sp : Sp} {t : Shared} {us : List Value} {ns : List Int}
    (kin : K.In t.heap) (glb : t.heap.Ns mainGlobals mg) (blt : t.heap.Ns builtinsNs mb) (boot : ∀ y : Str, y ≠ "__name__" → mb y = bootBuiltins y) (free : t.heap.NoLimit) (noG : t.gens = #[])
    (tb : ∀ p ∈ cs, t.heap.get? p.2 = some (PySem.W.tabObj #[])) (nk : ∀ p ∈ cs, K.lookup p.2 = none) (ch : ∀ p ∈ cs, PySem.W.CodeHd t.heap p.1 p.2)
    (bmn : ∃ (bm : Addr) (ob : Obj), mg "__builtins__" = some (.ref bm) ∧ bm ≠ builtinsNs ∧ t.heap.get? bm = some ob ∧ ob.cls = .type "module" ∧ ob.dict = some builtinsNs ∧ ob.data = .plain)
    (at_a : t.heap.get? a = some (scrO us)) (isI : IntsAre us ns) (short : ns.length ≤ sizeLine) (room : Room k callerA)
    (F : ∀ base : Heap, K.In base → base.Ns mainGlobals mg → (∀ p ∈ cs, TabB base mg p.1 p.2) → FnG P w K mg base CX k fa fd [x] sp) (bind : ∀ (s : Shared) (u : Value), BindsTo s fd ⟨[u], []⟩ [(x, u)])
    (wish : ∀ H : Hp, (∀ p ∈ cs, H p.2 = some (.tbl #[])) → SqL K H a (ns.map V.int) → sp [.ref a] H (fun v _ => v = .bl true) fun _ _ _ => False)
    (noX : ∀ H e s', CX [] H t (fun _ _ _ => False) e s' → False) :
    codeAny (model P w) callerA (.call (.ref fa) ⟨[.ref a], []⟩) (fun r s' => r = .ok (.ret (.bool true)) ∧ OldK t.heap s'.heap ∧ s'.os = t.os ∧ AllBare s'.gens) t := by
  have vals := vals_ints isI
  have many := isI.length
  have tabs : ∀ b : Addr, b ∈ cs.map Prod.snd → t.heap.get? b = some (PySem.W.tabObj #[]) ∧ K.lookup b = none := fun b hb => by
    obtain ⟨p, hp, rfl⟩ := List.mem_map.mp hb
    exact ⟨tb p hp, nk p hp⟩
  have here : ∀ p ∈ cs, p.2 ∈ cs.map Prod.snd := fun p hp => List.mem_map.mpr ⟨p, hp, rfl⟩
  have aOut : a ∉ cs.map Prod.snd := fun z => by
    have e := (tabs a z).1
    rw [at_a] at e
    have e2 := congrArg Obj.cls (Option.some.inj e)
    cases e2
  have isA : ∀ {b : Addr}, b = a → b ∉ cs.map Prod.snd := fun e => by rw [e]; exact aOut
  have inT : ∀ p ∈ cs, tabH K a us ns (cs.map Prod.snd) p.2 = some (.tbl #[]) := fun p hp => tabH_in (here p hp)
  have seq : SqL K (tabH K a us ns (cs.map Prod.snd)) a (ns.map V.int) := by
    cases e : K.lookup a with
    | none => exact .inl (.inr ⟨scrO us, (tabH_out aOut).trans (if_pos ⟨rfl, e⟩)⟩)
    | some o =>
      have z := kin a o e
      rw [at_a] at z
      cases z
      exact .inr ⟨_, us.toArray, _, e, rfl, rfl, rfl, by rw [List.size_toArray, many]; exact short, vals⟩
  have held : HOk P w (tabH K a us ns (cs.map Prod.snd)) t.heap := fun b u e => by
    by_cases m : b ∈ cs.map Prod.snd
    · rw [tabH_in m] at e
      cases e
      exact (tabs b m).1
    · rw [tabH_out m] at e
      obtain ⟨rfl, _, rfl⟩ := scrH_some e
      exact ⟨at_a, by rw [List.length_map]; exact short, us, _, vals, at_a⟩
  -- what is neither the script nor a table is not tracked
  have bare0 : ∀ {b : Addr} {o : Obj}, t.heap.get? b = some o → (∀ vs n, o.data ≠ .seq vs n) → o.data ≠ .fields #[] → tabH K a us ns (cs.map Prod.snd) b = none := by
    intro b o e1 e2 e3
    by_cases m : b ∈ cs.map Prod.snd
    · rw [(tabs b m).1] at e1
      cases e1
      exact (e3 rfl).elim
    · rw [tabH_out m]
      cases e : scrH K a us ns b with
      | none => rfl
      | some u =>
        obtain ⟨rfl, _, _⟩ := scrH_some e
        rw [at_a] at e1
        cases e1
        exact (e2 _ _ rfl).elim
  have dict0 : ∀ {b : Addr} {o : Obj} {es : Array DictEntry} {n : Nat}, t.heap.get? b = some o → o.data = .dict es n → tabH K a us ns (cs.map Prod.snd) b = none := fun {b o es n} e1 e2 =>
    bare0 e1 (fun vs m z => by rw [e2] at z; cases z) fun z => by rw [e2] at z; cases z
  have ns_of : ∀ {b : Addr} {m : Str → Option Value}, t.heap.Ns b m → (hidT t.heap (tabH K a us ns (cs.map Prod.snd))).Ns b m := by
    rintro b m ⟨o, es, n, e1, e2, r⟩
    exact ⟨o, es, n, hidT_get e1 (dict0 e1 e2), e2, r⟩
  have kin' : K.In (hidT t.heap (tabH K a us ns (cs.map Prod.snd))) := fun b o e => hidT_get (kin b o e) (by
    by_cases m : b ∈ cs.map Prod.snd
    · rw [(tabs b m).2] at e; cases e
    · rw [tabH_out m]
      cases z : scrH K a us ns b with
      | none => rfl
      | some u =>
        obtain ⟨rfl, n, _⟩ := scrH_some z
        rw [n] at e
        cases e)
  have modl : Mod K mg (hidT t.heap (tabH K a us ns (cs.map Prod.snd))) := by
    obtain ⟨mc, f1, f2⟩ := free
    exact ⟨kin', ns_of glb, ⟨mb, ns_of blt, boot⟩, ⟨mc, ns_of f1, f2⟩⟩
  have apart : ∀ p ∈ cs, ∀ {b : Addr} {o : Obj}, t.heap.get? b = some o → o.cls ≠ .none → b ≠ p.2 := fun p hp b o e c z => by
    rw [z, tb p hp] at e
    cases e
    exact c rfl
  have tabB : ∀ p ∈ cs, TabB (hidT t.heap (tabH K a us ns (cs.map Prod.snd))) mg p.1 p.2 := fun p hp => by
    refine ⟨?_, ?_, ?_⟩
    · obtain ⟨o, vs, file, tf, flags, tg, inF, text, tt, g1, g2, g3, g4, g5⟩ := ch p hp
      refine ⟨o, vs, file, tf, flags, tg, inF, text, tt, hidT_get g1 (bare0 g1 (fun w n z => by rw [g3] at z; cases z) fun z => ?_), g2, g3, g4, g5⟩
      rw [g3] at z
      injection z with z
      rw [z] at g4
      simp at g4
    · obtain ⟨bm, ob, m1, m2, m3, m4, m5, m6⟩ := bmn
      refine ⟨bm, ob, m1, m2, fun z => ?_, apart p hp m3 (by rw [m4]; intro z; cases z), hidT_get m3 (bare0 m3 (fun w n z => by rw [m6] at z; cases z) fun z => by rw [m6] at z; cases z), m4, m5, m6⟩
      obtain ⟨o, es, n, e1, e2, _⟩ := glb
      rw [z, e1] at m3
      cases m3
      rw [e2] at m6
      cases m6
    · obtain ⟨o, es, n, e1, e2, _⟩ := glb
      intro z
      rw [z, tb p hp] at e1
      cases e1
      cases e2
  have env0 : Env0 P w K mg (hidT t.heap (tabH K a us ns (cs.map Prod.snd))) callerA [] t (tabH K a us ns (cs.map Prod.snd)) :=
    ⟨rfl, modl, fun b o z => of_hidT z, Nat.le_of_eq (hidT_size _ _), trivial, fun b z => absurd (show b ∈ ([] : List Addr) from z) (by simp), held, .of_eq noG⟩
  refine codeAny_mono ((F _ kin' (ns_of glb) tabB).run callerA [] t _ ⟨[.ref a], []⟩ [.ref a] [.ref a] _ _ rfl room env0 (bind t (.ref a)) (.cons rfl .nil) (wish _ inT seq)) fun r s' z => ?_
  cases r with
  | error e => exact (noX _ e s' z).elim
  | ok fl =>
    cases fl with
    | next => exact z.elim
    | brk => exact z.elim
    | cont => exact z.elim
    | ret u =>
      obtain ⟨v, H', os, bare, un, held', rv, q⟩ := z
      cases (show v = .bl true from q)
      cases (show u = Value.bool true from rv)
      have kept : ∀ b o, b ∉ cs.map Prod.snd → t.heap.get? b = some o → s'.heap.get? b = some o := fun b o nb e => by
        cases c : scrH K a us ns b with
        | none => exact un.keep b o e ((tabH_out nb).trans c) (fun z => absurd (show b ∈ ([] : List Addr) from z) (by simp)) (by simp)
        | some u2 =>
          obtain ⟨rfl, _, rfl⟩ := scrH_some c
          obtain ⟨e2, _⟩ := held' _ _ (un.frzs _ _ _ ((tabH_out nb).trans c))
          rw [at_a] at e
          cases e
          exact e2
      have more : ∀ p ∈ cs, ∃ ps : Array Value, s'.heap.get? p.2 = some (PySem.W.tabObj (#[] ++ ps)) := fun p hp => by
        obtain ⟨ps, z⟩ := un.tbls p.2 #[] (inT p hp)
        exact ⟨ps, held' p.2 _ z⟩
      refine ⟨rfl, ⟨fun b o e => ?_, fun b o e => ?_⟩, os, bare⟩
      · by_cases m : b ∈ cs.map Prod.snd
        · obtain ⟨p, hp, rfl⟩ := List.mem_map.mp m
          obtain ⟨ps, hps⟩ := more p hp
          rw [tb p hp] at e
          cases e
          exact .inr (.inl ⟨((ch p hp).tab (tb p hp)).isCodeTable, rfl, #[], ps, rfl, hps⟩)
        · exact .inl (kept b o m e)
      · by_cases m : b ∈ cs.map Prod.snd
        · obtain ⟨p, hp, rfl⟩ := List.mem_map.mp m
          obtain ⟨ps, hps⟩ := more p hp
          exact ⟨_, hps⟩
        · exact ⟨o, kept b o m e⟩
/-- a law's promise, its code objects and tables told by numbers -/
theorem walkGT {l : PySem.W.OpenLaw} {n k : Nat} {q : Program} {loose : List Str} {XP : (Str → Option Value) → Heap → Prop} {YP : World → Heap → Prop} {d : DefRec} {K : Params → PySem.W.Frag} {sp : PySem.W.Frag → List (Addr × Addr) → Sp} {x : Str}
    (most : l.most = some n) (few : n ≤ sizeLine) (plain : d.params.defaults = []) (room : Room k callerA) (ky : ∀ (w : World) (h : Heap), YP w h → (K w.params).In h)
    (F : ∀ (w : World) (mg : Str → Option Value) (fa : Addr) (h : Heap), YP w h → (K w.params).In h → h.Ns mainGlobals mg → mg d.name = some (.ref fa) → ∃ (fd : FuncData) (cs : List (Addr × Addr)), (∀ p ∈ cs, h.get? p.2 = some (PySem.W.tabObj #[])) ∧ (∀ p ∈ cs, (K w.params).lookup p.2 = none) ∧ (∀ p ∈ cs, PySem.W.CodeHd h p.1 p.2) ∧ (∀ (s : Shared) (u : Value), BindsTo s fd ⟨[u], []⟩ [(x, u)]) ∧
      ∀ base : Heap, (K w.params).In base → base.Ns mainGlobals mg → (∀ p ∈ cs, TabB base mg p.1 p.2) → FnG l.prog w (K w.params) mg base CX0 k fa fd [x] (sp (K w.params) cs))
    (wish : ∀ (K : PySem.W.Frag) (cs : List (Addr × Addr)) (H : Hp) (a : Addr) (ns : List Int), ns.length ≤ n → (∀ p ∈ cs, H p.2 = some (.tbl #[])) → SqL K H a (ns.map V.int) → sp K cs [.ref a] H (fun v _ => v = .bl true) fun _ _ _ => False) :
    PySem.W.WalkO q loose XP YP l.row.toRowW d [] (fun f vs => PySem.call f vs) := by
  refine Att.attach_callB most plain ?_
  intro w s0 t mg mb fa o pm cd doc a us ns G Y ho hd hcd hmg at_a isI many _ noG
  obtain ⟨fd, cs, t1, t2, t3, bind, ok⟩ := F w mg fa _ Y (ky w _ Y) G.T.g hmg
  exact lawGT (ky w _ Y) G.T.g G.T.b G.T.builtins G.T.nolimit noG t1 t2 t3 G.T.bmain at_a isI (Nat.le_trans many few) room ok bind (fun H o1 o2 => wish (K w.params) cs H a ns many o1 o2) fun _ _ _ z => z.elim
end AL
set_option Elab.async false
set_option maxRecDepth 100000
set_option exponentiation.threshold 70000
set_option maxHeartbeats 2000000
namespace AL
open PySem PySem.Spec PyProof.Rows L2 RZ LamX
theorem all_mk {l : PySem.W.OpenLaw} {w : World} {K : PySem.W.Frag} {h : Heap} {mg : Str → Option Value} {CPoly CQuotient f_law_pen f_law_draw f_law_pick fis_whole fare_integers fis_ratio flowest fas_ratio fratio_sum fis_term fP_init fnumber_poly fleast_exponents fcommon_bottom fform_scale flowered fbrought fQ_init fP_eq fQ_eq fis_nothing fis_list fis_index fcheck_indices fwithout_letters fcalled_one f_law_poly_drawn f_law_weights f_law_inner f_law_box f_law_made f_law_gcd f_law_is_whole f_law_is_ratio f_law_is_matrix f_law_poly_times f_law_left_out f_law_told_poly f_law_told_quotient f_law_like f_law_quotient flaw c3 P3 f_law_error CBadNumber fIBadNumber CByZero fIByZero CBadMatrix fa : Addr} (X : K.In h) (G : h.Ns mainGlobals mg) (hfa : mg "law" = some (.ref fa))
    {oc_law_pen kV_law_pen dc_law_pen pm_law_pen ct_law_pen cd_law_pen : Value} {od_law_pen an_law_pen : Option Addr} {sl_law_pen : Array (Option Value)}
    {oc_law_draw kV_law_draw dc_law_draw pm_law_draw ct_law_draw cd_law_draw : Value} {od_law_draw an_law_draw : Option Addr} {sl_law_draw : Array (Option Value)}
    {oc_law_pick kV_law_pick dc_law_pick pm_law_pick ct_law_pick cd_law_pick : Value} {od_law_pick an_law_pick : Option Addr} {sl_law_pick : Array (Option Value)}
    {ocis_whole kVis_whole dcis_whole pmis_whole ctis_whole cdis_whole : Value} {odis_whole anis_whole : Option Addr} {slis_whole : Array (Option Value)}
    {ocare_integers kVare_integers dcare_integers pmare_integers ctare_integers cdare_integers : Value} {odare_integers anare_integers : Option Addr} {slare_integers : Array (Option Value)}
    {ocis_ratio kVis_ratio dcis_ratio pmis_ratio ctis_ratio cdis_ratio : Value} {odis_ratio anis_ratio : Option Addr} {slis_ratio : Array (Option Value)}
    {oclowest kVlowest dclowest pmlowest ctlowest cdlowest : Value} {odlowest anlowest : Option Addr} {sllowest : Array (Option Value)}
    {ocas_ratio kVas_ratio dcas_ratio pmas_ratio ctas_ratio cdas_ratio : Value} {odas_ratio anas_ratio : Option Addr} {slas_ratio : Array (Option Value)}
    {ocratio_sum kVratio_sum dcratio_sum pmratio_sum ctratio_sum cdratio_sum : Value} {odratio_sum anratio_sum : Option Addr} {slratio_sum : Array (Option Value)}
    {ocis_term kVis_term dcis_term pmis_term ctis_term cdis_term : Value} {odis_term anis_term : Option Addr} {slis_term : Array (Option Value)}
    {ocP_init kVP_init dcP_init pmP_init ctP_init cdP_init : Value} {odP_init anP_init : Option Addr} {slP_init : Array (Option Value)}
    {ocnumber_poly kVnumber_poly dcnumber_poly pmnumber_poly ctnumber_poly cdnumber_poly : Value} {odnumber_poly annumber_poly : Option Addr} {slnumber_poly : Array (Option Value)}
    {ocleast_exponents kVleast_exponents dcleast_exponents pmleast_exponents ctleast_exponents cdleast_exponents : Value} {odleast_exponents anleast_exponents : Option Addr} {slleast_exponents : Array (Option Value)}
    {occommon_bottom kVcommon_bottom dccommon_bottom pmcommon_bottom ctcommon_bottom cdcommon_bottom : Value} {odcommon_bottom ancommon_bottom : Option Addr} {slcommon_bottom : Array (Option Value)}
    {ocform_scale kVform_scale dcform_scale pmform_scale ctform_scale cdform_scale : Value} {odform_scale anform_scale : Option Addr} {slform_scale : Array (Option Value)}
    {oclowered kVlowered dclowered pmlowered ctlowered cdlowered : Value} {odlowered anlowered : Option Addr} {sllowered : Array (Option Value)}
    {ocbrought kVbrought dcbrought pmbrought ctbrought cdbrought : Value} {odbrought anbrought : Option Addr} {slbrought : Array (Option Value)}
    {ocQ_init kVQ_init dcQ_init pmQ_init ctQ_init cdQ_init : Value} {odQ_init anQ_init : Option Addr} {slQ_init : Array (Option Value)}
    {ocP_eq kVP_eq dcP_eq pmP_eq ctP_eq cdP_eq : Value} {odP_eq anP_eq : Option Addr} {slP_eq : Array (Option Value)}
    {ocQ_eq kVQ_eq dcQ_eq pmQ_eq ctQ_eq cdQ_eq : Value} {odQ_eq anQ_eq : Option Addr} {slQ_eq : Array (Option Value)}
    {ocis_nothing kVis_nothing dcis_nothing pmis_nothing ctis_nothing cdis_nothing : Value} {odis_nothing anis_nothing : Option Addr} {slis_nothing : Array (Option Value)}
    {ocis_list kVis_list dcis_list pmis_list ctis_list cdis_list : Value} {odis_list anis_list : Option Addr} {slis_list : Array (Option Value)}
    {ocis_index kVis_index dcis_index pmis_index ctis_index cdis_index : Value} {odis_index anis_index : Option Addr} {slis_index : Array (Option Value)}
    {occheck_indices kVcheck_indices dccheck_indices pmcheck_indices ctcheck_indices cdcheck_indices : Value} {odcheck_indices ancheck_indices : Option Addr} {slcheck_indices : Array (Option Value)}
    {ocwithout_letters kVwithout_letters dcwithout_letters pmwithout_letters ctwithout_letters cdwithout_letters : Value} {odwithout_letters anwithout_letters : Option Addr} {slwithout_letters : Array (Option Value)}
    {occalled_one kVcalled_one dccalled_one pmcalled_one ctcalled_one cdcalled_one : Value} {odcalled_one ancalled_one : Option Addr} {slcalled_one : Array (Option Value)}
    {oc_law_poly_drawn kV_law_poly_drawn dc_law_poly_drawn pm_law_poly_drawn ct_law_poly_drawn cd_law_poly_drawn : Value} {od_law_poly_drawn an_law_poly_drawn : Option Addr} {sl_law_poly_drawn : Array (Option Value)}
    {oc_law_weights kV_law_weights dc_law_weights pm_law_weights ct_law_weights cd_law_weights : Value} {od_law_weights an_law_weights : Option Addr} {sl_law_weights : Array (Option Value)}
    {oc_law_inner kV_law_inner dc_law_inner pm_law_inner ct_law_inner cd_law_inner : Value} {od_law_inner an_law_inner : Option Addr} {sl_law_inner : Array (Option Value)}
    {oc_law_box kV_law_box dc_law_box pm_law_box ct_law_box cd_law_box : Value} {od_law_box an_law_box : Option Addr} {sl_law_box : Array (Option Value)}
    {oc_law_made kV_law_made dc_law_made pm_law_made ct_law_made cd_law_made : Value} {od_law_made an_law_made : Option Addr} {sl_law_made : Array (Option Value)}
    {oc_law_gcd kV_law_gcd dc_law_gcd pm_law_gcd ct_law_gcd cd_law_gcd : Value} {od_law_gcd an_law_gcd : Option Addr} {sl_law_gcd : Array (Option Value)}
    {oc_law_is_whole kV_law_is_whole dc_law_is_whole pm_law_is_whole ct_law_is_whole cd_law_is_whole : Value} {od_law_is_whole an_law_is_whole : Option Addr} {sl_law_is_whole : Array (Option Value)}
    {oc_law_is_ratio kV_law_is_ratio dc_law_is_ratio pm_law_is_ratio ct_law_is_ratio cd_law_is_ratio : Value} {od_law_is_ratio an_law_is_ratio : Option Addr} {sl_law_is_ratio : Array (Option Value)}
    {oc_law_is_matrix kV_law_is_matrix dc_law_is_matrix pm_law_is_matrix ct_law_is_matrix cd_law_is_matrix : Value} {od_law_is_matrix an_law_is_matrix : Option Addr} {sl_law_is_matrix : Array (Option Value)}
    {oc_law_poly_times kV_law_poly_times dc_law_poly_times pm_law_poly_times ct_law_poly_times cd_law_poly_times : Value} {od_law_poly_times an_law_poly_times : Option Addr} {sl_law_poly_times : Array (Option Value)}
    {oc_law_left_out kV_law_left_out dc_law_left_out pm_law_left_out ct_law_left_out cd_law_left_out : Value} {od_law_left_out an_law_left_out : Option Addr} {sl_law_left_out : Array (Option Value)}
    {oc_law_told_poly kV_law_told_poly dc_law_told_poly pm_law_told_poly ct_law_told_poly cd_law_told_poly : Value} {od_law_told_poly an_law_told_poly : Option Addr} {sl_law_told_poly : Array (Option Value)}
    {oc_law_told_quotient kV_law_told_quotient dc_law_told_quotient pm_law_told_quotient ct_law_told_quotient cd_law_told_quotient : Value} {od_law_told_quotient an_law_told_quotient : Option Addr} {sl_law_told_quotient : Array (Option Value)}
    {oc_law_like kV_law_like dc_law_like pm_law_like ct_law_like cd_law_like : Value} {od_law_like an_law_like : Option Addr} {sl_law_like : Array (Option Value)}
    {oc_law_quotient kV_law_quotient dc_law_quotient pm_law_quotient ct_law_quotient cd_law_quotient : Value} {od_law_quotient an_law_quotient : Option Addr} {sl_law_quotient : Array (Option Value)}
    {oclaw kVlaw dclaw pmlaw ctlaw : Value} {odlaw anlaw : Option Addr} {sllaw : Array (Option Value)}
    {orrlaw : Value} {odrlaw : Option Addr} {vsrlaw : Array Value} {slrlaw : Array (Option Value)}
    {oc_law_error kV_law_error dc_law_error pm_law_error ct_law_error cd_law_error : Value} {od_law_error an_law_error : Option Addr} {sl_law_error : Array (Option Value)}
    {nmBadNumber qnBadNumber : Str} {NBadNumber : Addr} {bsBadNumber bmBadNumber : List Value} {snBadNumber : List Str} {subBadNumber : List Value} {abBadNumber : Bool} {colBadNumber : Option Bool} {ddBadNumber : Option Addr} {m0BadNumber m1BadNumber m2BadNumber m3BadNumber m5BadNumber : Option Value}
    {ocIBadNumber kVIBadNumber dcIBadNumber pmIBadNumber ctIBadNumber cdIBadNumber : Value} {odIBadNumber anIBadNumber : Option Addr} {slIBadNumber : Array (Option Value)}
    {nmByZero qnByZero : Str} {NByZero : Addr} {bsByZero bmByZero : List Value} {snByZero : List Str} {subByZero : List Value} {abByZero : Bool} {colByZero : Option Bool} {ddByZero : Option Addr} {m0ByZero m1ByZero m2ByZero m3ByZero m5ByZero : Option Value}
    {ocIByZero kVIByZero dcIByZero pmIByZero ctIByZero cdIByZero : Value} {odIByZero anIByZero : Option Addr} {slIByZero : Array (Option Value)}
    {nmBadMatrix qnBadMatrix : Str} {NBadMatrix : Addr} {bsBadMatrix bmBadMatrix : List Value} {snBadMatrix : List Str} {subBadMatrix : List Value} {abBadMatrix : Bool} {colBadMatrix : Option Bool} {ddBadMatrix : Option Addr} {m0BadMatrix m1BadMatrix m2BadMatrix m3BadMatrix m5BadMatrix : Option Value}
    (aCPoly : PySem.W.nsIn K mainGlobals "Poly" = some (some (.ref CPoly)))
    (pgPoly : PySem.W.plainGet K CPoly Str.empty = true)
    (hdPoly : PySem.W.hasDictIn K CPoly = true)
    (poPoly : PySem.W.plainOver K CPoly = true)
    (saPoly : PySem.W.findIn K (.ref CPoly) "__setattr__" = some (some (.builtin "object.__setattr__")))
    (mkPoly : PySem.W.makesIn K CPoly = true)
    (kcPoly : PySem.W.keepIn K (.ref CPoly) = true)
    (sfPoly : PySem.W.selfFirst K CPoly = true)
    (q1Poly : PySem.W.findIn K (.ref CPoly) "__class__" = some (some (.builtin "object.__class__")))
    (q2Poly : PySem.W.specialIn K (.builtin "object.__class__") "__get__" = some (some (.builtin "getset_descriptor.__get__")))
    (q3Poly : PySem.W.takesIn K (.builtin "object.__class__") = some true)
    (q4Poly : PySem.W.mroIn K CPoly (.type "object") = some true)
    (nPolysize : PySem.W.findIn K (.ref CPoly) "size" = some none)
    (nPolyterms : PySem.W.findIn K (.ref CPoly) "terms" = some none)
    (aCQuotient : PySem.W.nsIn K mainGlobals "Quotient" = some (some (.ref CQuotient)))
    (pgQuotient : PySem.W.plainGet K CQuotient Str.empty = true)
    (hdQuotient : PySem.W.hasDictIn K CQuotient = true)
    (poQuotient : PySem.W.plainOver K CQuotient = true)
    (saQuotient : PySem.W.findIn K (.ref CQuotient) "__setattr__" = some (some (.builtin "object.__setattr__")))
    (mkQuotient : PySem.W.makesIn K CQuotient = true)
    (kcQuotient : PySem.W.keepIn K (.ref CQuotient) = true)
    (sfQuotient : PySem.W.selfFirst K CQuotient = true)
    (q1Quotient : PySem.W.findIn K (.ref CQuotient) "__class__" = some (some (.builtin "object.__class__")))
    (q2Quotient : PySem.W.specialIn K (.builtin "object.__class__") "__get__" = some (some (.builtin "getset_descriptor.__get__")))
    (q3Quotient : PySem.W.takesIn K (.builtin "object.__class__") = some true)
    (q4Quotient : PySem.W.mroIn K CQuotient (.type "object") = some true)
    (nQuotientsize : PySem.W.findIn K (.ref CQuotient) "size" = some none)
    (nQuotienttop : PySem.W.findIn K (.ref CQuotient) "top" = some none)
    (nQuotientbottom : PySem.W.findIn K (.ref CQuotient) "bottom" = some none)
    (a_law_pen : PySem.W.nsIn K mainGlobals "_law_pen" = some (some (.ref f_law_pen)))
    (l_law_pen : K.lookup f_law_pen = some ⟨oc_law_pen, od_law_pen, .func (PySem.W.fnOf "_law_pen" "_law_pen" (defArgs st_law_pen) (defBody st_law_pen) (defScope st_law_pen) .none kV_law_pen dc_law_pen pm_law_pen an_law_pen cd_law_pen ct_law_pen), sl_law_pen⟩)
    (c_law_pen : PySem.W.codeIn K cd_law_pen "_law_pen" = true)
    (k_law_pen : PySem.W.keepIn K (.ref f_law_pen) = true)
    (a_law_draw : PySem.W.nsIn K mainGlobals "_law_draw" = some (some (.ref f_law_draw)))
    (l_law_draw : K.lookup f_law_draw = some ⟨oc_law_draw, od_law_draw, .func (PySem.W.fnOf "_law_draw" "_law_draw" (defArgs st_law_draw) (defBody st_law_draw) (defScope st_law_draw) .none kV_law_draw dc_law_draw pm_law_draw an_law_draw cd_law_draw ct_law_draw), sl_law_draw⟩)
    (c_law_draw : PySem.W.codeIn K cd_law_draw "_law_draw" = true)
    (k_law_draw : PySem.W.keepIn K (.ref f_law_draw) = true)
    (a_law_pick : PySem.W.nsIn K mainGlobals "_law_pick" = some (some (.ref f_law_pick)))
    (l_law_pick : K.lookup f_law_pick = some ⟨oc_law_pick, od_law_pick, .func (PySem.W.fnOf "_law_pick" "_law_pick" (defArgs st_law_pick) (defBody st_law_pick) (defScope st_law_pick) .none kV_law_pick dc_law_pick pm_law_pick an_law_pick cd_law_pick ct_law_pick), sl_law_pick⟩)
    (c_law_pick : PySem.W.codeIn K cd_law_pick "_law_pick" = true)
    (k_law_pick : PySem.W.keepIn K (.ref f_law_pick) = true)
    (ais_whole : PySem.W.nsIn K mainGlobals "is_whole" = some (some (.ref fis_whole)))
    (lis_whole : K.lookup fis_whole = some ⟨ocis_whole, odis_whole, .func (PySem.W.fnOf "is_whole" "is_whole" (defArgs stis_whole) (defBody stis_whole) (defScope stis_whole) .none kVis_whole dcis_whole pmis_whole anis_whole cdis_whole ctis_whole), slis_whole⟩)
    (cis_whole : PySem.W.codeIn K cdis_whole "is_whole" = true)
    (kis_whole : PySem.W.keepIn K (.ref fis_whole) = true)
    (aare_integers : PySem.W.nsIn K mainGlobals "are_integers" = some (some (.ref fare_integers)))
    (lare_integers : K.lookup fare_integers = some ⟨ocare_integers, odare_integers, .func (PySem.W.fnOf "are_integers" "are_integers" (defArgs stare_integers) (defBody stare_integers) (defScope stare_integers) .none kVare_integers dcare_integers pmare_integers anare_integers cdare_integers ctare_integers), slare_integers⟩)
    (care_integers : PySem.W.codeIn K cdare_integers "are_integers" = true)
    (kare_integers : PySem.W.keepIn K (.ref fare_integers) = true)
    (ais_ratio : PySem.W.nsIn K mainGlobals "is_ratio" = some (some (.ref fis_ratio)))
    (lis_ratio : K.lookup fis_ratio = some ⟨ocis_ratio, odis_ratio, .func (PySem.W.fnOf "is_ratio" "is_ratio" (defArgs stis_ratio) (defBody stis_ratio) (defScope stis_ratio) .none kVis_ratio dcis_ratio pmis_ratio anis_ratio cdis_ratio ctis_ratio), slis_ratio⟩)
    (cis_ratio : PySem.W.codeIn K cdis_ratio "is_ratio" = true)
    (kis_ratio : PySem.W.keepIn K (.ref fis_ratio) = true)
    (alowest : PySem.W.nsIn K mainGlobals "lowest" = some (some (.ref flowest)))
    (llowest : K.lookup flowest = some ⟨oclowest, odlowest, .func (PySem.W.fnOf "lowest" "lowest" (defArgs stlowest) (defBody stlowest) (defScope stlowest) .none kVlowest dclowest pmlowest anlowest cdlowest ctlowest), sllowest⟩)
    (clowest : PySem.W.codeIn K cdlowest "lowest" = true)
    (klowest : PySem.W.keepIn K (.ref flowest) = true)
    (aas_ratio : PySem.W.nsIn K mainGlobals "as_ratio" = some (some (.ref fas_ratio)))
    (las_ratio : K.lookup fas_ratio = some ⟨ocas_ratio, odas_ratio, .func (PySem.W.fnOf "as_ratio" "as_ratio" (defArgs stas_ratio) (defBody stas_ratio) (defScope stas_ratio) .none kVas_ratio dcas_ratio pmas_ratio anas_ratio cdas_ratio ctas_ratio), slas_ratio⟩)
    (cas_ratio : PySem.W.codeIn K cdas_ratio "as_ratio" = true)
    (kas_ratio : PySem.W.keepIn K (.ref fas_ratio) = true)
    (aratio_sum : PySem.W.nsIn K mainGlobals "ratio_sum" = some (some (.ref fratio_sum)))
    (lratio_sum : K.lookup fratio_sum = some ⟨ocratio_sum, odratio_sum, .func (PySem.W.fnOf "ratio_sum" "ratio_sum" (defArgs stratio_sum) (defBody stratio_sum) (defScope stratio_sum) .none kVratio_sum dcratio_sum pmratio_sum anratio_sum cdratio_sum ctratio_sum), slratio_sum⟩)
    (cratio_sum : PySem.W.codeIn K cdratio_sum "ratio_sum" = true)
    (kratio_sum : PySem.W.keepIn K (.ref fratio_sum) = true)
    (ais_term : PySem.W.nsIn K mainGlobals "is_term" = some (some (.ref fis_term)))
    (lis_term : K.lookup fis_term = some ⟨ocis_term, odis_term, .func (PySem.W.fnOf "is_term" "is_term" (defArgs stis_term) (defBody stis_term) (defScope stis_term) .none kVis_term dcis_term pmis_term anis_term cdis_term ctis_term), slis_term⟩)
    (cis_term : PySem.W.codeIn K cdis_term "is_term" = true)
    (kis_term : PySem.W.keepIn K (.ref fis_term) = true)
    (aP_init : PySem.W.findIn K (.ref CPoly) "__init__" = some (some (.ref fP_init)))
    (iP_init : PySem.W.isFn K (.ref fP_init) = true)
    (lP_init : K.lookup fP_init = some ⟨ocP_init, odP_init, .func (PySem.W.fnOf "__init__" "Poly.__init__" (defArgs stP_init) (defBody stP_init) (defScope stP_init) .none kVP_init dcP_init pmP_init anP_init cdP_init ctP_init), slP_init⟩)
    (cP_init : PySem.W.codeIn K cdP_init "Poly.__init__" = true)
    (kP_init : PySem.W.keepIn K (.ref fP_init) = true)
    (anumber_poly : PySem.W.nsIn K mainGlobals "number_poly" = some (some (.ref fnumber_poly)))
    (lnumber_poly : K.lookup fnumber_poly = some ⟨ocnumber_poly, odnumber_poly, .func (PySem.W.fnOf "number_poly" "number_poly" (defArgs stnumber_poly) (defBody stnumber_poly) (defScope stnumber_poly) .none kVnumber_poly dcnumber_poly pmnumber_poly annumber_poly cdnumber_poly ctnumber_poly), slnumber_poly⟩)
    (cnumber_poly : PySem.W.codeIn K cdnumber_poly "number_poly" = true)
    (knumber_poly : PySem.W.keepIn K (.ref fnumber_poly) = true)
    (aleast_exponents : PySem.W.nsIn K mainGlobals "least_exponents" = some (some (.ref fleast_exponents)))
    (lleast_exponents : K.lookup fleast_exponents = some ⟨ocleast_exponents, odleast_exponents, .func (PySem.W.fnOf "least_exponents" "least_exponents" (defArgs stleast_exponents) (defBody stleast_exponents) (defScope stleast_exponents) .none kVleast_exponents dcleast_exponents pmleast_exponents anleast_exponents cdleast_exponents ctleast_exponents), slleast_exponents⟩)
    (cleast_exponents : PySem.W.codeIn K cdleast_exponents "least_exponents" = true)
    (kleast_exponents : PySem.W.keepIn K (.ref fleast_exponents) = true)
    (acommon_bottom : PySem.W.nsIn K mainGlobals "common_bottom" = some (some (.ref fcommon_bottom)))
    (lcommon_bottom : K.lookup fcommon_bottom = some ⟨occommon_bottom, odcommon_bottom, .func (PySem.W.fnOf "common_bottom" "common_bottom" (defArgs stcommon_bottom) (defBody stcommon_bottom) (defScope stcommon_bottom) .none kVcommon_bottom dccommon_bottom pmcommon_bottom ancommon_bottom cdcommon_bottom ctcommon_bottom), slcommon_bottom⟩)
    (ccommon_bottom : PySem.W.codeIn K cdcommon_bottom "common_bottom" = true)
    (kcommon_bottom : PySem.W.keepIn K (.ref fcommon_bottom) = true)
    (aform_scale : PySem.W.nsIn K mainGlobals "form_scale" = some (some (.ref fform_scale)))
    (lform_scale : K.lookup fform_scale = some ⟨ocform_scale, odform_scale, .func (PySem.W.fnOf "form_scale" "form_scale" (defArgs stform_scale) (defBody stform_scale) (defScope stform_scale) .none kVform_scale dcform_scale pmform_scale anform_scale cdform_scale ctform_scale), slform_scale⟩)
    (cform_scale : PySem.W.codeIn K cdform_scale "form_scale" = true)
    (kform_scale : PySem.W.keepIn K (.ref fform_scale) = true)
    (alowered : PySem.W.nsIn K mainGlobals "lowered" = some (some (.ref flowered)))
    (llowered : K.lookup flowered = some ⟨oclowered, odlowered, .func (PySem.W.fnOf "lowered" "lowered" (defArgs stlowered) (defBody stlowered) (defScope stlowered) .none kVlowered dclowered pmlowered anlowered cdlowered ctlowered), sllowered⟩)
    (clowered : PySem.W.codeIn K cdlowered "lowered" = true)
    (klowered : PySem.W.keepIn K (.ref flowered) = true)
    (abrought : PySem.W.nsIn K mainGlobals "brought" = some (some (.ref fbrought)))
    (lbrought : K.lookup fbrought = some ⟨ocbrought, odbrought, .func (PySem.W.fnOf "brought" "brought" (defArgs stbrought) (defBody stbrought) (defScope stbrought) .none kVbrought dcbrought pmbrought anbrought cdbrought ctbrought), slbrought⟩)
    (cbrought : PySem.W.codeIn K cdbrought "brought" = true)
    (kbrought : PySem.W.keepIn K (.ref fbrought) = true)
    (aQ_init : PySem.W.findIn K (.ref CQuotient) "__init__" = some (some (.ref fQ_init)))
    (iQ_init : PySem.W.isFn K (.ref fQ_init) = true)
    (lQ_init : K.lookup fQ_init = some ⟨ocQ_init, odQ_init, .func (PySem.W.fnOf "__init__" "Quotient.__init__" (defArgs stQ_init) (defBody stQ_init) (defScope stQ_init) .none kVQ_init dcQ_init pmQ_init anQ_init cdQ_init ctQ_init), slQ_init⟩)
    (cQ_init : PySem.W.codeIn K cdQ_init "Quotient.__init__" = true)
    (kQ_init : PySem.W.keepIn K (.ref fQ_init) = true)
    (aP_eq : PySem.W.findIn K (.ref CPoly) "__eq__" = some (some (.ref fP_eq)))
    (iP_eq : PySem.W.isFn K (.ref fP_eq) = true)
    (lP_eq : K.lookup fP_eq = some ⟨ocP_eq, odP_eq, .func (PySem.W.fnOf "__eq__" "Poly.__eq__" (defArgs stP_eq) (defBody stP_eq) (defScope stP_eq) .none kVP_eq dcP_eq pmP_eq anP_eq cdP_eq ctP_eq), slP_eq⟩)
    (cP_eq : PySem.W.codeIn K cdP_eq "Poly.__eq__" = true)
    (kP_eq : PySem.W.keepIn K (.ref fP_eq) = true)
    (aQ_eq : PySem.W.findIn K (.ref CQuotient) "__eq__" = some (some (.ref fQ_eq)))
    (iQ_eq : PySem.W.isFn K (.ref fQ_eq) = true)
    (lQ_eq : K.lookup fQ_eq = some ⟨ocQ_eq, odQ_eq, .func (PySem.W.fnOf "__eq__" "Quotient.__eq__" (defArgs stQ_eq) (defBody stQ_eq) (defScope stQ_eq) .none kVQ_eq dcQ_eq pmQ_eq anQ_eq cdQ_eq ctQ_eq), slQ_eq⟩)
    (cQ_eq : PySem.W.codeIn K cdQ_eq "Quotient.__eq__" = true)
    (kQ_eq : PySem.W.keepIn K (.ref fQ_eq) = true)
    (ais_nothing : PySem.W.nsIn K mainGlobals "is_nothing" = some (some (.ref fis_nothing)))
    (lis_nothing : K.lookup fis_nothing = some ⟨ocis_nothing, odis_nothing, .func (PySem.W.fnOf "is_nothing" "is_nothing" (defArgs stis_nothing) (defBody stis_nothing) (defScope stis_nothing) .none kVis_nothing dcis_nothing pmis_nothing anis_nothing cdis_nothing ctis_nothing), slis_nothing⟩)
    (cis_nothing : PySem.W.codeIn K cdis_nothing "is_nothing" = true)
    (kis_nothing : PySem.W.keepIn K (.ref fis_nothing) = true)
    (ais_list : PySem.W.nsIn K mainGlobals "is_list" = some (some (.ref fis_list)))
    (lis_list : K.lookup fis_list = some ⟨ocis_list, odis_list, .func (PySem.W.fnOf "is_list" "is_list" (defArgs stis_list) (defBody stis_list) (defScope stis_list) .none kVis_list dcis_list pmis_list anis_list cdis_list ctis_list), slis_list⟩)
    (cis_list : PySem.W.codeIn K cdis_list "is_list" = true)
    (kis_list : PySem.W.keepIn K (.ref fis_list) = true)
    (ais_index : PySem.W.nsIn K mainGlobals "is_index" = some (some (.ref fis_index)))
    (lis_index : K.lookup fis_index = some ⟨ocis_index, odis_index, .func (PySem.W.fnOf "is_index" "is_index" (defArgs stis_index) (defBody stis_index) (defScope stis_index) .none kVis_index dcis_index pmis_index anis_index cdis_index ctis_index), slis_index⟩)
    (cis_index : PySem.W.codeIn K cdis_index "is_index" = true)
    (kis_index : PySem.W.keepIn K (.ref fis_index) = true)
    (acheck_indices : PySem.W.nsIn K mainGlobals "check_indices" = some (some (.ref fcheck_indices)))
    (lcheck_indices : K.lookup fcheck_indices = some ⟨occheck_indices, odcheck_indices, .func (PySem.W.fnOf "check_indices" "check_indices" (defArgs stcheck_indices) (defBody stcheck_indices) (defScope stcheck_indices) .none kVcheck_indices dccheck_indices pmcheck_indices ancheck_indices cdcheck_indices ctcheck_indices), slcheck_indices⟩)
    (ccheck_indices : PySem.W.codeIn K cdcheck_indices "check_indices" = true)
    (kcheck_indices : PySem.W.keepIn K (.ref fcheck_indices) = true)
    (awithout_letters : PySem.W.nsIn K mainGlobals "without_letters" = some (some (.ref fwithout_letters)))
    (lwithout_letters : K.lookup fwithout_letters = some ⟨ocwithout_letters, odwithout_letters, .func (PySem.W.fnOf "without_letters" "without_letters" (defArgs stwithout_letters) (defBody stwithout_letters) (defScope stwithout_letters) .none kVwithout_letters dcwithout_letters pmwithout_letters anwithout_letters cdwithout_letters ctwithout_letters), slwithout_letters⟩)
    (cwithout_letters : PySem.W.codeIn K cdwithout_letters "without_letters" = true)
    (kwithout_letters : PySem.W.keepIn K (.ref fwithout_letters) = true)
    (acalled_one : PySem.W.nsIn K mainGlobals "called_one" = some (some (.ref fcalled_one)))
    (lcalled_one : K.lookup fcalled_one = some ⟨occalled_one, odcalled_one, .func (PySem.W.fnOf "called_one" "called_one" (defArgs stcalled_one) (defBody stcalled_one) (defScope stcalled_one) .none kVcalled_one dccalled_one pmcalled_one ancalled_one cdcalled_one ctcalled_one), slcalled_one⟩)
    (ccalled_one : PySem.W.codeIn K cdcalled_one "called_one" = true)
    (kcalled_one : PySem.W.keepIn K (.ref fcalled_one) = true)
    (a_law_poly_drawn : PySem.W.nsIn K mainGlobals "_law_poly_drawn" = some (some (.ref f_law_poly_drawn)))
    (l_law_poly_drawn : K.lookup f_law_poly_drawn = some ⟨oc_law_poly_drawn, od_law_poly_drawn, .func (PySem.W.fnOf "_law_poly_drawn" "_law_poly_drawn" (defArgs st_law_poly_drawn) (defBody st_law_poly_drawn) (defScope st_law_poly_drawn) .none kV_law_poly_drawn dc_law_poly_drawn pm_law_poly_drawn an_law_poly_drawn cd_law_poly_drawn ct_law_poly_drawn), sl_law_poly_drawn⟩)
    (c_law_poly_drawn : PySem.W.codeIn K cd_law_poly_drawn "_law_poly_drawn" = true)
    (k_law_poly_drawn : PySem.W.keepIn K (.ref f_law_poly_drawn) = true)
    (a_law_weights : PySem.W.nsIn K mainGlobals "_law_weights" = some (some (.ref f_law_weights)))
    (l_law_weights : K.lookup f_law_weights = some ⟨oc_law_weights, od_law_weights, .func (PySem.W.fnOf "_law_weights" "_law_weights" (defArgs st_law_weights) (defBody st_law_weights) (defScope st_law_weights) .none kV_law_weights dc_law_weights pm_law_weights an_law_weights cd_law_weights ct_law_weights), sl_law_weights⟩)
    (c_law_weights : PySem.W.codeIn K cd_law_weights "_law_weights" = true)
    (k_law_weights : PySem.W.keepIn K (.ref f_law_weights) = true)
    (a_law_inner : PySem.W.nsIn K mainGlobals "_law_inner" = some (some (.ref f_law_inner)))
    (l_law_inner : K.lookup f_law_inner = some ⟨oc_law_inner, od_law_inner, .func (PySem.W.fnOf "_law_inner" "_law_inner" (defArgs st_law_inner) (defBody st_law_inner) (defScope st_law_inner) .none kV_law_inner dc_law_inner pm_law_inner an_law_inner cd_law_inner ct_law_inner), sl_law_inner⟩)
    (c_law_inner : PySem.W.codeIn K cd_law_inner "_law_inner" = true)
    (k_law_inner : PySem.W.keepIn K (.ref f_law_inner) = true)
    (a_law_box : PySem.W.nsIn K mainGlobals "_law_box" = some (some (.ref f_law_box)))
    (l_law_box : K.lookup f_law_box = some ⟨oc_law_box, od_law_box, .func (PySem.W.fnOf "_law_box" "_law_box" (defArgs st_law_box) (defBody st_law_box) (defScope st_law_box) .none kV_law_box dc_law_box pm_law_box an_law_box cd_law_box ct_law_box), sl_law_box⟩)
    (c_law_box : PySem.W.codeIn K cd_law_box "_law_box" = true)
    (k_law_box : PySem.W.keepIn K (.ref f_law_box) = true)
    (a_law_made : PySem.W.nsIn K mainGlobals "_law_made" = some (some (.ref f_law_made)))
    (l_law_made : K.lookup f_law_made = some ⟨oc_law_made, od_law_made, .func (PySem.W.fnOf "_law_made" "_law_made" (defArgs st_law_made) (defBody st_law_made) (defScope st_law_made) .none kV_law_made dc_law_made pm_law_made an_law_made cd_law_made ct_law_made), sl_law_made⟩)
    (c_law_made : PySem.W.codeIn K cd_law_made "_law_made" = true)
    (k_law_made : PySem.W.keepIn K (.ref f_law_made) = true)
    (a_law_gcd : PySem.W.nsIn K mainGlobals "_law_gcd" = some (some (.ref f_law_gcd)))
    (l_law_gcd : K.lookup f_law_gcd = some ⟨oc_law_gcd, od_law_gcd, .func (PySem.W.fnOf "_law_gcd" "_law_gcd" (defArgs st_law_gcd) (defBody st_law_gcd) (defScope st_law_gcd) .none kV_law_gcd dc_law_gcd pm_law_gcd an_law_gcd cd_law_gcd ct_law_gcd), sl_law_gcd⟩)
    (c_law_gcd : PySem.W.codeIn K cd_law_gcd "_law_gcd" = true)
    (k_law_gcd : PySem.W.keepIn K (.ref f_law_gcd) = true)
    (a_law_is_whole : PySem.W.nsIn K mainGlobals "_law_is_whole" = some (some (.ref f_law_is_whole)))
    (l_law_is_whole : K.lookup f_law_is_whole = some ⟨oc_law_is_whole, od_law_is_whole, .func (PySem.W.fnOf "_law_is_whole" "_law_is_whole" (defArgs st_law_is_whole) (defBody st_law_is_whole) (defScope st_law_is_whole) .none kV_law_is_whole dc_law_is_whole pm_law_is_whole an_law_is_whole cd_law_is_whole ct_law_is_whole), sl_law_is_whole⟩)
    (c_law_is_whole : PySem.W.codeIn K cd_law_is_whole "_law_is_whole" = true)
    (k_law_is_whole : PySem.W.keepIn K (.ref f_law_is_whole) = true)
    (a_law_is_ratio : PySem.W.nsIn K mainGlobals "_law_is_ratio" = some (some (.ref f_law_is_ratio)))
    (l_law_is_ratio : K.lookup f_law_is_ratio = some ⟨oc_law_is_ratio, od_law_is_ratio, .func (PySem.W.fnOf "_law_is_ratio" "_law_is_ratio" (defArgs st_law_is_ratio) (defBody st_law_is_ratio) (defScope st_law_is_ratio) .none kV_law_is_ratio dc_law_is_ratio pm_law_is_ratio an_law_is_ratio cd_law_is_ratio ct_law_is_ratio), sl_law_is_ratio⟩)
    (c_law_is_ratio : PySem.W.codeIn K cd_law_is_ratio "_law_is_ratio" = true)
    (k_law_is_ratio : PySem.W.keepIn K (.ref f_law_is_ratio) = true)
    (a_law_is_matrix : PySem.W.nsIn K mainGlobals "_law_is_matrix" = some (some (.ref f_law_is_matrix)))
    (l_law_is_matrix : K.lookup f_law_is_matrix = some ⟨oc_law_is_matrix, od_law_is_matrix, .func (PySem.W.fnOf "_law_is_matrix" "_law_is_matrix" (defArgs st_law_is_matrix) (defBody st_law_is_matrix) (defScope st_law_is_matrix) .none kV_law_is_matrix dc_law_is_matrix pm_law_is_matrix an_law_is_matrix cd_law_is_matrix ct_law_is_matrix), sl_law_is_matrix⟩)
    (c_law_is_matrix : PySem.W.codeIn K cd_law_is_matrix "_law_is_matrix" = true)
    (k_law_is_matrix : PySem.W.keepIn K (.ref f_law_is_matrix) = true)
    (a_law_poly_times : PySem.W.nsIn K mainGlobals "_law_poly_times" = some (some (.ref f_law_poly_times)))
    (l_law_poly_times : K.lookup f_law_poly_times = some ⟨oc_law_poly_times, od_law_poly_times, .func (PySem.W.fnOf "_law_poly_times" "_law_poly_times" (defArgs st_law_poly_times) (defBody st_law_poly_times) (defScope st_law_poly_times) .none kV_law_poly_times dc_law_poly_times pm_law_poly_times an_law_poly_times cd_law_poly_times ct_law_poly_times), sl_law_poly_times⟩)
    (c_law_poly_times : PySem.W.codeIn K cd_law_poly_times "_law_poly_times" = true)
    (k_law_poly_times : PySem.W.keepIn K (.ref f_law_poly_times) = true)
    (a_law_left_out : PySem.W.nsIn K mainGlobals "_law_left_out" = some (some (.ref f_law_left_out)))
    (l_law_left_out : K.lookup f_law_left_out = some ⟨oc_law_left_out, od_law_left_out, .func (PySem.W.fnOf "_law_left_out" "_law_left_out" (defArgs st_law_left_out) (defBody st_law_left_out) (defScope st_law_left_out) .none kV_law_left_out dc_law_left_out pm_law_left_out an_law_left_out cd_law_left_out ct_law_left_out), sl_law_left_out⟩)
    (c_law_left_out : PySem.W.codeIn K cd_law_left_out "_law_left_out" = true)
    (k_law_left_out : PySem.W.keepIn K (.ref f_law_left_out) = true)
    (a_law_told_poly : PySem.W.nsIn K mainGlobals "_law_told_poly" = some (some (.ref f_law_told_poly)))
    (l_law_told_poly : K.lookup f_law_told_poly = some ⟨oc_law_told_poly, od_law_told_poly, .func (PySem.W.fnOf "_law_told_poly" "_law_told_poly" (defArgs st_law_told_poly) (defBody st_law_told_poly) (defScope st_law_told_poly) .none kV_law_told_poly dc_law_told_poly pm_law_told_poly an_law_told_poly cd_law_told_poly ct_law_told_poly), sl_law_told_poly⟩)
    (c_law_told_poly : PySem.W.codeIn K cd_law_told_poly "_law_told_poly" = true)
    (k_law_told_poly : PySem.W.keepIn K (.ref f_law_told_poly) = true)
    (a_law_told_quotient : PySem.W.nsIn K mainGlobals "_law_told_quotient" = some (some (.ref f_law_told_quotient)))
    (l_law_told_quotient : K.lookup f_law_told_quotient = some ⟨oc_law_told_quotient, od_law_told_quotient, .func (PySem.W.fnOf "_law_told_quotient" "_law_told_quotient" (defArgs st_law_told_quotient) (defBody st_law_told_quotient) (defScope st_law_told_quotient) .none kV_law_told_quotient dc_law_told_quotient pm_law_told_quotient an_law_told_quotient cd_law_told_quotient ct_law_told_quotient), sl_law_told_quotient⟩)
    (c_law_told_quotient : PySem.W.codeIn K cd_law_told_quotient "_law_told_quotient" = true)
    (k_law_told_quotient : PySem.W.keepIn K (.ref f_law_told_quotient) = true)
    (a_law_like : PySem.W.nsIn K mainGlobals "_law_like" = some (some (.ref f_law_like)))
    (l_law_like : K.lookup f_law_like = some ⟨oc_law_like, od_law_like, .func (PySem.W.fnOf "_law_like" "_law_like" (defArgs st_law_like) (defBody st_law_like) (defScope st_law_like) .none kV_law_like dc_law_like pm_law_like an_law_like cd_law_like ct_law_like), sl_law_like⟩)
    (c_law_like : PySem.W.codeIn K cd_law_like "_law_like" = true)
    (k_law_like : PySem.W.keepIn K (.ref f_law_like) = true)
    (a_law_quotient : PySem.W.nsIn K mainGlobals "_law_quotient" = some (some (.ref f_law_quotient)))
    (l_law_quotient : K.lookup f_law_quotient = some ⟨oc_law_quotient, od_law_quotient, .func (PySem.W.fnOf "_law_quotient" "_law_quotient" (defArgs st_law_quotient) (defBody st_law_quotient) (defScope st_law_quotient) .none kV_law_quotient dc_law_quotient pm_law_quotient an_law_quotient cd_law_quotient ct_law_quotient), sl_law_quotient⟩)
    (c_law_quotient : PySem.W.codeIn K cd_law_quotient "_law_quotient" = true)
    (k_law_quotient : PySem.W.keepIn K (.ref f_law_quotient) = true)
    (alaw : PySem.W.nsIn K mainGlobals "law" = some (some (.ref flaw)))
    (llaw : K.lookup flaw = some ⟨oclaw, odlaw, .func (PySem.W.fnOf "law" "law" (defArgs stlaw) (defBody stlaw) (defScope stlaw) .none kVlaw dclaw pmlaw anlaw (.ref c3) ctlaw), sllaw⟩)
    (claw : PySem.W.codeIn K (.ref c3) "law" = true)
    (klaw : PySem.W.keepIn K (.ref flaw) = true)
    (rlaw : K.lookup c3 = some ⟨orrlaw, odrlaw, .fields vsrlaw, slrlaw⟩)
    (vlaw : (vsrlaw[11]? : Option Value) = some (.ref P3))
    (hlaw : PySem.W.codeHdIn K c3 P3 = true)
    (nlaw : K.lookup P3 = none)
    (elaw : h.get? P3 = some (PySem.W.tabObj #[]))
    (aE : PySem.W.nsIn K mainGlobals "_law_error" = some (some (.ref f_law_error)))
    (l_law_error : K.lookup f_law_error = some ⟨oc_law_error, od_law_error, .func (PySem.W.fnOf "_law_error" "_law_error" (defArgs st_law_error) (defBody st_law_error) (defScope st_law_error) .none kV_law_error dc_law_error pm_law_error an_law_error cd_law_error ct_law_error), sl_law_error⟩)
    (c_law_error : PySem.W.codeIn K cd_law_error "_law_error" = true)
    (k_law_error : PySem.W.keepIn K (.ref f_law_error) = true)
    (ABadNumber : PySem.W.nsIn K mainGlobals "BadNumber" = some (some (.ref CBadNumber)))
    (RBadNumber : K.lookup CBadNumber = some (excClassObj nmBadNumber qnBadNumber CBadNumber NBadNumber bsBadNumber bmBadNumber true snBadNumber subBadNumber abBadNumber colBadNumber ddBadNumber m0BadNumber m1BadNumber m2BadNumber m3BadNumber m5BadNumber "ValueError.__new__"))
    (MBadNumber : PySem.HandSPX.refsVE bmBadNumber = true)
    (BBadNumber : errB K CBadNumber ["what", "number"] = true)
    (aIBadNumber : PySem.W.findIn K (.ref CBadNumber) "__init__" = some (some (.ref fIBadNumber)))
    (lIBadNumber : K.lookup fIBadNumber = some ⟨ocIBadNumber, odIBadNumber, .func (PySem.W.fnOf "__init__" "BadNumber.__init__" (defArgs si_BadNumber) (defBody si_BadNumber) (defScope si_BadNumber) .none kVIBadNumber dcIBadNumber pmIBadNumber anIBadNumber cdIBadNumber ctIBadNumber), slIBadNumber⟩)
    (cIBadNumber : PySem.W.codeIn K cdIBadNumber "BadNumber.__init__" = true)
    (kIBadNumber : PySem.W.keepIn K (.ref fIBadNumber) = true)
    (tIBadNumber : PySem.W.typeIn K (.ref fIBadNumber) = some (.type "function"))
    (AByZero : PySem.W.nsIn K mainGlobals "ByZero" = some (some (.ref CByZero)))
    (RByZero : K.lookup CByZero = some (excClassObj nmByZero qnByZero CByZero NByZero bsByZero bmByZero true snByZero subByZero abByZero colByZero ddByZero m0ByZero m1ByZero m2ByZero m3ByZero m5ByZero "ValueError.__new__"))
    (MByZero : PySem.HandSPX.refsVE bmByZero = true)
    (BByZero : errB K CByZero ["place"] = true)
    (aIByZero : PySem.W.findIn K (.ref CByZero) "__init__" = some (some (.ref fIByZero)))
    (lIByZero : K.lookup fIByZero = some ⟨ocIByZero, odIByZero, .func (PySem.W.fnOf "__init__" "ByZero.__init__" (defArgs si_ByZero) (defBody si_ByZero) (defScope si_ByZero) .none kVIByZero dcIByZero pmIByZero anIByZero cdIByZero ctIByZero), slIByZero⟩)
    (cIByZero : PySem.W.codeIn K cdIByZero "ByZero.__init__" = true)
    (kIByZero : PySem.W.keepIn K (.ref fIByZero) = true)
    (tIByZero : PySem.W.typeIn K (.ref fIByZero) = some (.type "function"))
    (ABadMatrix : PySem.W.nsIn K mainGlobals "BadMatrix" = some (some (.ref CBadMatrix)))
    (RBadMatrix : K.lookup CBadMatrix = some (excClassObj nmBadMatrix qnBadMatrix CBadMatrix NBadMatrix bsBadMatrix bmBadMatrix true snBadMatrix subBadMatrix abBadMatrix colBadMatrix ddBadMatrix m0BadMatrix m1BadMatrix m2BadMatrix m3BadMatrix m5BadMatrix "ValueError.__new__"))
    (MBadMatrix : PySem.HandSPX.refsVE bmBadMatrix = true)
    (BBadMatrix : errB K CBadMatrix ["what"] = true)
    (x1 : PySem.W.exmOne K (.ref CByZero) (.ref CBadNumber) = some false)
    (x2 : PySem.W.exmOne K (.ref CByZero) (.ref CByZero) = some true)
    (x3 : PySem.W.exmOne K (.ref CBadNumber) (.ref CBadNumber) = some true)
    (GGg : PySem.W.nsIn K mainGlobals "gcd" = some (some (.builtin "math.gcd")))
    (GGl : PySem.W.nsIn K mainGlobals "lcm" = some (some (.builtin "math.lcm")))
    (z1 : PySem.W.kitOne K (.ref CPoly) (.ref CPoly) = some true)
    (z2 : PySem.W.kitOne K (.ref CQuotient) (.ref CQuotient) = some true)
    (z3 : PySem.W.kitOne K (.ref CPoly) (.ref CQuotient) = some false)
    (z4 : PySem.W.kitOne K (.type "NoneType") (.ref CQuotient) = some false)
    (zf : PySem.W.notFirst K CPoly (.ref CPoly) = true)
    (zq : PySem.W.notFirst K CQuotient (.ref CQuotient) = true)
    (zp : PySem.W.notFirst K CQuotient (.ref CPoly) = true)
    (zn : PySem.W.notFirst K CQuotient (.type "NoneType") = true)
    (x4 : PySem.W.exmOne K (.ref CByZero) (.ref CBadMatrix) = some false)
    (zne : PySem.W.findIn K (.ref CQuotient) "__ne__" = some (some (.builtin "object.__ne__")))
    (BT0 : bltB K = true) :
    ∃ (fd : FuncData) (cs : List (Addr × Addr)), (∀ p ∈ cs, h.get? p.2 = some (PySem.W.tabObj #[])) ∧ (∀ p ∈ cs, K.lookup p.2 = none) ∧ (∀ p ∈ cs, PySem.W.CodeHd h p.1 p.2) ∧ (∀ (s : Shared) (v : Value), BindsTo s fd ⟨[v], []⟩ [("_law_script", v)]) ∧ ∀ base : Heap, K.In base → base.Ns mainGlobals mg → (∀ p ∈ cs, TabB base mg p.1 p.2) → FnG l.prog w K mg base CX0 33 fa fd ["_law_script"] (spLawC K cs) := by
  have e := hfa.symm.trans (PySem.W.mg_of X G alaw)
  cases e
  have F_law_pen := fun_mk (st := st_law_pen) l_law_pen c_law_pen k_law_pen
  have D_law_pen : DefAt K mg "_law_pen" st_law_pen ["_law_script"] f_law_pen _ := ⟨F_law_pen, PySem.W.mg_of X G a_law_pen, F_law_pen.binds (ps := ["_law_script"]) fun _ _ _ _ _ _ us hl => match us, hl with | [_], _ => rfl⟩
  have F_law_draw := fun_mk (st := st_law_draw) l_law_draw c_law_draw k_law_draw
  have D_law_draw : DefAt K mg "_law_draw" st_law_draw ["_law_pen_here", "_law_many"] f_law_draw _ := ⟨F_law_draw, PySem.W.mg_of X G a_law_draw, F_law_draw.binds (ps := ["_law_pen_here", "_law_many"]) fun _ _ _ _ _ _ us hl => match us, hl with | [_, _], _ => rfl⟩
  have F_law_pick := fun_mk (st := st_law_pick) l_law_pick c_law_pick k_law_pick
  have D_law_pick : DefAt K mg "_law_pick" st_law_pick ["_law_pen_here", "_law_some"] f_law_pick _ := ⟨F_law_pick, PySem.W.mg_of X G a_law_pick, F_law_pick.binds (ps := ["_law_pen_here", "_law_some"]) fun _ _ _ _ _ _ us hl => match us, hl with | [_, _], _ => rfl⟩
  have Fis_whole := fun_mk (st := stis_whole) lis_whole cis_whole kis_whole
  have Dis_whole : DefAt K mg "is_whole" stis_whole ["value"] fis_whole _ := ⟨Fis_whole, PySem.W.mg_of X G ais_whole, Fis_whole.binds (ps := ["value"]) fun _ _ _ _ _ _ us hl => match us, hl with | [_], _ => rfl⟩
  have Fare_integers := fun_mk (st := stare_integers) lare_integers care_integers kare_integers
  have Dare_integers : DefAt K mg "are_integers" stare_integers ["items"] fare_integers _ := ⟨Fare_integers, PySem.W.mg_of X G aare_integers, Fare_integers.binds (ps := ["items"]) fun _ _ _ _ _ _ us hl => match us, hl with | [_], _ => rfl⟩
  have Fis_ratio := fun_mk (st := stis_ratio) lis_ratio cis_ratio kis_ratio
  have Dis_ratio : DefAt K mg "is_ratio" stis_ratio ["value"] fis_ratio _ := ⟨Fis_ratio, PySem.W.mg_of X G ais_ratio, Fis_ratio.binds (ps := ["value"]) fun _ _ _ _ _ _ us hl => match us, hl with | [_], _ => rfl⟩
  have Flowest := fun_mk (st := stlowest) llowest clowest klowest
  have Dlowest : DefAt K mg "lowest" stlowest ["top", "bottom"] flowest _ := ⟨Flowest, PySem.W.mg_of X G alowest, Flowest.binds (ps := ["top", "bottom"]) fun _ _ _ _ _ _ us hl => match us, hl with | [_, _], _ => rfl⟩
  have Fas_ratio := fun_mk (st := stas_ratio) las_ratio cas_ratio kas_ratio
  have Das_ratio : DefAt K mg "as_ratio" stas_ratio ["value"] fas_ratio _ := ⟨Fas_ratio, PySem.W.mg_of X G aas_ratio, Fas_ratio.binds (ps := ["value"]) fun _ _ _ _ _ _ us hl => match us, hl with | [_], _ => rfl⟩
  have Fratio_sum := fun_mk (st := stratio_sum) lratio_sum cratio_sum kratio_sum
  have Dratio_sum : DefAt K mg "ratio_sum" stratio_sum ["one", "other"] fratio_sum _ := ⟨Fratio_sum, PySem.W.mg_of X G aratio_sum, Fratio_sum.binds (ps := ["one", "other"]) fun _ _ _ _ _ _ us hl => match us, hl with | [_, _], _ => rfl⟩
  have Fis_term := fun_mk (st := stis_term) lis_term cis_term kis_term
  have Dis_term : DefAt K mg "is_term" stis_term ["term", "size"] fis_term _ := ⟨Fis_term, PySem.W.mg_of X G ais_term, Fis_term.binds (ps := ["term", "size"]) fun _ _ _ _ _ _ us hl => match us, hl with | [_, _], _ => rfl⟩
  have FP_init := fun_mk (st := stP_init) lP_init cP_init kP_init
  have DP_init : IniA K "__init__" "Poly.__init__" stP_init ["self", "size", "terms"] CPoly fP_init _ := ⟨FP_init, FP_init.binds (ps := ["self", "size", "terms"]) fun _ _ _ _ _ _ us hl => match us, hl with | [_, _, _], _ => rfl, ⟨mkPoly, aP_init, iP_init, kcPoly⟩⟩
  have Fnumber_poly := fun_mk (st := stnumber_poly) lnumber_poly cnumber_poly knumber_poly
  have Dnumber_poly : DefAt K mg "number_poly" stnumber_poly ["size", "ratio"] fnumber_poly _ := ⟨Fnumber_poly, PySem.W.mg_of X G anumber_poly, Fnumber_poly.binds (ps := ["size", "ratio"]) fun _ _ _ _ _ _ us hl => match us, hl with | [_, _], _ => rfl⟩
  have Fleast_exponents := fun_mk (st := stleast_exponents) lleast_exponents cleast_exponents kleast_exponents
  have Dleast_exponents : DefAt K mg "least_exponents" stleast_exponents ["terms"] fleast_exponents _ := ⟨Fleast_exponents, PySem.W.mg_of X G aleast_exponents, Fleast_exponents.binds (ps := ["terms"]) fun _ _ _ _ _ _ us hl => match us, hl with | [_], _ => rfl⟩
  have Fcommon_bottom := fun_mk (st := stcommon_bottom) lcommon_bottom ccommon_bottom kcommon_bottom
  have Dcommon_bottom : DefAt K mg "common_bottom" stcommon_bottom ["ratios"] fcommon_bottom _ := ⟨Fcommon_bottom, PySem.W.mg_of X G acommon_bottom, Fcommon_bottom.binds (ps := ["ratios"]) fun _ _ _ _ _ _ us hl => match us, hl with | [_], _ => rfl⟩
  have Fform_scale := fun_mk (st := stform_scale) lform_scale cform_scale kform_scale
  have Dform_scale : DefAt K mg "form_scale" stform_scale ["terms", "first"] fform_scale _ := ⟨Fform_scale, PySem.W.mg_of X G aform_scale, Fform_scale.binds (ps := ["terms", "first"]) fun _ _ _ _ _ _ us hl => match us, hl with | [_, _], _ => rfl⟩
  have Flowered := fun_mk (st := stlowered) llowered clowered klowered
  have Dlowered : DefAt K mg "lowered" stlowered ["terms", "least"] flowered _ := ⟨Flowered, PySem.W.mg_of X G alowered, Flowered.binds (ps := ["terms", "least"]) fun _ _ _ _ _ _ us hl => match us, hl with | [_, _], _ => rfl⟩
  have Fbrought := fun_mk (st := stbrought) lbrought cbrought kbrought
  have Dbrought : DefAt K mg "brought" stbrought ["poly", "scale", "least"] fbrought _ := ⟨Fbrought, PySem.W.mg_of X G abrought, Fbrought.binds (ps := ["poly", "scale", "least"]) fun _ _ _ _ _ _ us hl => match us, hl with | [_, _, _], _ => rfl⟩
  have FQ_init := fun_mk (st := stQ_init) lQ_init cQ_init kQ_init
  have DQ_init : IniA K "__init__" "Quotient.__init__" stQ_init ["self", "top", "bottom"] CQuotient fQ_init _ := ⟨FQ_init, FQ_init.binds (ps := ["self", "top", "bottom"]) fun _ _ _ _ _ _ us hl => match us, hl with | [_, _, _], _ => rfl, ⟨mkQuotient, aQ_init, iQ_init, kcQuotient⟩⟩
  have FP_eq := fun_mk (st := stP_eq) lP_eq cP_eq kP_eq
  have DP_eq : MetA K "__eq__" "Poly.__eq__" stP_eq ["self", "other"] CPoly fP_eq _ := ⟨FP_eq, FP_eq.binds (ps := ["self", "other"]) fun _ _ _ _ _ _ us hl => match us, hl with | [_, _], _ => rfl, ⟨aP_eq, iP_eq, kP_eq⟩⟩
  have FQ_eq := fun_mk (st := stQ_eq) lQ_eq cQ_eq kQ_eq
  have DQ_eq : MetA K "__eq__" "Quotient.__eq__" stQ_eq ["self", "other"] CQuotient fQ_eq _ := ⟨FQ_eq, FQ_eq.binds (ps := ["self", "other"]) fun _ _ _ _ _ _ us hl => match us, hl with | [_, _], _ => rfl, ⟨aQ_eq, iQ_eq, kQ_eq⟩⟩
  have Fis_nothing := fun_mk (st := stis_nothing) lis_nothing cis_nothing kis_nothing
  have Dis_nothing : DefAt K mg "is_nothing" stis_nothing ["f"] fis_nothing _ := ⟨Fis_nothing, PySem.W.mg_of X G ais_nothing, Fis_nothing.binds (ps := ["f"]) fun _ _ _ _ _ _ us hl => match us, hl with | [_], _ => rfl⟩
  have Fis_list := fun_mk (st := stis_list) lis_list cis_list kis_list
  have Dis_list : DefAt K mg "is_list" stis_list ["value"] fis_list _ := ⟨Fis_list, PySem.W.mg_of X G ais_list, Fis_list.binds (ps := ["value"]) fun _ _ _ _ _ _ us hl => match us, hl with | [_], _ => rfl⟩
  have Fis_index := fun_mk (st := stis_index) lis_index cis_index kis_index
  have Dis_index : DefAt K mg "is_index" stis_index ["value", "many"] fis_index _ := ⟨Fis_index, PySem.W.mg_of X G ais_index, Fis_index.binds (ps := ["value", "many"]) fun _ _ _ _ _ _ us hl => match us, hl with | [_, _], _ => rfl⟩
  have Fcheck_indices := fun_mk (st := stcheck_indices) lcheck_indices ccheck_indices kcheck_indices
  have Dcheck_indices : DefAt K mg "check_indices" stcheck_indices ["letters", "many"] fcheck_indices _ := ⟨Fcheck_indices, PySem.W.mg_of X G acheck_indices, Fcheck_indices.binds (ps := ["letters", "many"]) fun _ _ _ _ _ _ us hl => match us, hl with | [_, _], _ => rfl⟩
  have Fwithout_letters := fun_mk (st := stwithout_letters) lwithout_letters cwithout_letters kwithout_letters
  have Dwithout_letters : DefAt K mg "without_letters" stwithout_letters ["poly", "letters"] fwithout_letters _ := ⟨Fwithout_letters, PySem.W.mg_of X G awithout_letters, Fwithout_letters.binds (ps := ["poly", "letters"]) fun _ _ _ _ _ _ us hl => match us, hl with | [_, _], _ => rfl⟩
  have Fcalled_one := fun_mk (st := stcalled_one) lcalled_one ccalled_one kcalled_one
  have Dcalled_one : DefAt K mg "called_one" stcalled_one ["f", "letters"] fcalled_one _ := ⟨Fcalled_one, PySem.W.mg_of X G acalled_one, Fcalled_one.binds (ps := ["f", "letters"]) fun _ _ _ _ _ _ us hl => match us, hl with | [_, _], _ => rfl⟩
  have F_law_poly_drawn := fun_mk (st := st_law_poly_drawn) l_law_poly_drawn c_law_poly_drawn k_law_poly_drawn
  have D_law_poly_drawn : DefAt K mg "_law_poly_drawn" st_law_poly_drawn ["_law_pen_here", "_law_size", "_law_many", "_law_most"] f_law_poly_drawn _ := ⟨F_law_poly_drawn, PySem.W.mg_of X G a_law_poly_drawn, F_law_poly_drawn.binds (ps := ["_law_pen_here", "_law_size", "_law_many", "_law_most"]) fun _ _ _ _ _ _ us hl => match us, hl with | [_, _, _, _], _ => rfl⟩
  have F_law_weights := fun_mk (st := st_law_weights) l_law_weights c_law_weights k_law_weights
  have D_law_weights : DefAt K mg "_law_weights" st_law_weights ["_law_pen_here", "_law_size"] f_law_weights _ := ⟨F_law_weights, PySem.W.mg_of X G a_law_weights, F_law_weights.binds (ps := ["_law_pen_here", "_law_size"]) fun _ _ _ _ _ _ us hl => match us, hl with | [_, _], _ => rfl⟩
  have F_law_inner := fun_mk (st := st_law_inner) l_law_inner c_law_inner k_law_inner
  have D_law_inner : DefAt K mg "_law_inner" st_law_inner ["_law_row", "_law_column"] f_law_inner _ := ⟨F_law_inner, PySem.W.mg_of X G a_law_inner, F_law_inner.binds (ps := ["_law_row", "_law_column"]) fun _ _ _ _ _ _ us hl => match us, hl with | [_, _], _ => rfl⟩
  have F_law_box := fun_mk (st := st_law_box) l_law_box c_law_box k_law_box
  have D_law_box : DefAt K mg "_law_box" st_law_box ["_law_size", "_law_most"] f_law_box _ := ⟨F_law_box, PySem.W.mg_of X G a_law_box, F_law_box.binds (ps := ["_law_size", "_law_most"]) fun _ _ _ _ _ _ us hl => match us, hl with | [_, _], _ => rfl⟩
  have F_law_made := fun_mk (st := st_law_made) l_law_made c_law_made k_law_made
  have D_law_made : DefAt K mg "_law_made" st_law_made ["_law_f", "_law_size"] f_law_made _ := ⟨F_law_made, PySem.W.mg_of X G a_law_made, F_law_made.binds (ps := ["_law_f", "_law_size"]) fun _ _ _ _ _ _ us hl => match us, hl with | [_, _], _ => rfl⟩
  have F_law_gcd := fun_mk (st := st_law_gcd) l_law_gcd c_law_gcd k_law_gcd
  have D_law_gcd : DefAt K mg "_law_gcd" st_law_gcd ["_law_one", "_law_two"] f_law_gcd _ := ⟨F_law_gcd, PySem.W.mg_of X G a_law_gcd, F_law_gcd.binds (ps := ["_law_one", "_law_two"]) fun _ _ _ _ _ _ us hl => match us, hl with | [_, _], _ => rfl⟩
  have F_law_is_whole := fun_mk (st := st_law_is_whole) l_law_is_whole c_law_is_whole k_law_is_whole
  have D_law_is_whole : DefAt K mg "_law_is_whole" st_law_is_whole ["_law_value"] f_law_is_whole _ := ⟨F_law_is_whole, PySem.W.mg_of X G a_law_is_whole, F_law_is_whole.binds (ps := ["_law_value"]) fun _ _ _ _ _ _ us hl => match us, hl with | [_], _ => rfl⟩
  have F_law_is_ratio := fun_mk (st := st_law_is_ratio) l_law_is_ratio c_law_is_ratio k_law_is_ratio
  have D_law_is_ratio : DefAt K mg "_law_is_ratio" st_law_is_ratio ["_law_value"] f_law_is_ratio _ := ⟨F_law_is_ratio, PySem.W.mg_of X G a_law_is_ratio, F_law_is_ratio.binds (ps := ["_law_value"]) fun _ _ _ _ _ _ us hl => match us, hl with | [_], _ => rfl⟩
  have F_law_is_matrix := fun_mk (st := st_law_is_matrix) l_law_is_matrix c_law_is_matrix k_law_is_matrix
  have D_law_is_matrix : DefAt K mg "_law_is_matrix" st_law_is_matrix ["_law_value", "_law_many", "_law_wide"] f_law_is_matrix _ := ⟨F_law_is_matrix, PySem.W.mg_of X G a_law_is_matrix, F_law_is_matrix.binds (ps := ["_law_value", "_law_many", "_law_wide"]) fun _ _ _ _ _ _ us hl => match us, hl with | [_, _, _], _ => rfl⟩
  have F_law_poly_times := fun_mk (st := st_law_poly_times) l_law_poly_times c_law_poly_times k_law_poly_times
  have D_law_poly_times : DefAt K mg "_law_poly_times" st_law_poly_times ["_law_one", "_law_two"] f_law_poly_times _ := ⟨F_law_poly_times, PySem.W.mg_of X G a_law_poly_times, F_law_poly_times.binds (ps := ["_law_one", "_law_two"]) fun _ _ _ _ _ _ us hl => match us, hl with | [_, _], _ => rfl⟩
  have F_law_left_out := fun_mk (st := st_law_left_out) l_law_left_out c_law_left_out k_law_left_out
  have D_law_left_out : DefAt K mg "_law_left_out" st_law_left_out ["_law_poly", "_law_letters"] f_law_left_out _ := ⟨F_law_left_out, PySem.W.mg_of X G a_law_left_out, F_law_left_out.binds (ps := ["_law_poly", "_law_letters"]) fun _ _ _ _ _ _ us hl => match us, hl with | [_, _], _ => rfl⟩
  have F_law_told_poly := fun_mk (st := st_law_told_poly) l_law_told_poly c_law_told_poly k_law_told_poly
  have D_law_told_poly : DefAt K mg "_law_told_poly" st_law_told_poly ["_law_poly", "_law_size"] f_law_told_poly _ := ⟨F_law_told_poly, PySem.W.mg_of X G a_law_told_poly, F_law_told_poly.binds (ps := ["_law_poly", "_law_size"]) fun _ _ _ _ _ _ us hl => match us, hl with | [_, _], _ => rfl⟩
  have F_law_told_quotient := fun_mk (st := st_law_told_quotient) l_law_told_quotient c_law_told_quotient k_law_told_quotient
  have D_law_told_quotient : DefAt K mg "_law_told_quotient" st_law_told_quotient ["_law_f", "_law_size"] f_law_told_quotient _ := ⟨F_law_told_quotient, PySem.W.mg_of X G a_law_told_quotient, F_law_told_quotient.binds (ps := ["_law_f", "_law_size"]) fun _ _ _ _ _ _ us hl => match us, hl with | [_, _], _ => rfl⟩
  have F_law_like := fun_mk (st := st_law_like) l_law_like c_law_like k_law_like
  have D_law_like : DefAt K mg "_law_like" st_law_like ["_law_pen_here", "_law_size", "_law_weights_here", "_law_many"] f_law_like _ := ⟨F_law_like, PySem.W.mg_of X G a_law_like, F_law_like.binds (ps := ["_law_pen_here", "_law_size", "_law_weights_here", "_law_many"]) fun _ _ _ _ _ _ us hl => match us, hl with | [_, _, _, _], _ => rfl⟩
  have F_law_quotient := fun_mk (st := st_law_quotient) l_law_quotient c_law_quotient k_law_quotient
  have D_law_quotient : DefAt K mg "_law_quotient" st_law_quotient ["_law_pen_here", "_law_size"] f_law_quotient _ := ⟨F_law_quotient, PySem.W.mg_of X G a_law_quotient, F_law_quotient.binds (ps := ["_law_pen_here", "_law_size"]) fun _ _ _ _ _ _ us hl => match us, hl with | [_, _], _ => rfl⟩
  have Dlaw : DefC K mg "law" stlaw ["_law_script"] flaw c3 _ := ⟨⟨_, _, _, _, _, _, _, _, rfl, llaw, claw⟩, klaw, PySem.W.mg_of X G alaw, .all fun us hl => match us, hl with | [_], _ => rfl⟩
  have De : LamFn K mg "_law_error" st_law_error "_law_call" f_law_error cd_law_error := ⟨⟨_, _, _, _, _, _, _, _, l_law_error, .all fun us hl => match us, hl with | [_], _ => rfl⟩, c_law_error, k_law_error, PySem.W.mg_of X G aE⟩
  have EBadNumber := errT_of RBadNumber MBadNumber (PySem.W.mg_of X G ABadNumber) BBadNumber
  have FIBadNumber := fun_mk (st := si_BadNumber) lIBadNumber cIBadNumber kIBadNumber
  have IBadNumber : IniT K "BadNumber.__init__" si_BadNumber ["self", "what", "number"] CBadNumber fIBadNumber _ := ⟨FIBadNumber, FIBadNumber.binds (ps := ["self", "what", "number"]) fun _ _ _ _ _ _ us hl => match us, hl with | [_, _, _], _ => rfl, aIBadNumber, tIBadNumber⟩
  have EByZero := errT_of RByZero MByZero (PySem.W.mg_of X G AByZero) BByZero
  have FIByZero := fun_mk (st := si_ByZero) lIByZero cIByZero kIByZero
  have IByZero : IniT K "ByZero.__init__" si_ByZero ["self", "place"] CByZero fIByZero _ := ⟨FIByZero, FIByZero.binds (ps := ["self", "place"]) fun _ _ _ _ _ _ us hl => match us, hl with | [_, _], _ => rfl, aIByZero, tIByZero⟩
  have EBadMatrix := errT_of RBadMatrix MBadMatrix (PySem.W.mg_of X G ABadMatrix) BBadMatrix
  have Es : ErP K mg CPoly CQuotient CByZero CBadNumber CBadMatrix 0 fIByZero fIBadNumber _ _ := ⟨PySem.W.mg_of X G GGg, PySem.W.mg_of X G GGl, ⟨pgPoly, hdPoly, poPoly, saPoly⟩, nPolysize, nPolyterms, PySem.W.mg_of X G aCPoly, sfPoly, q1Poly, q2Poly, q3Poly, q4Poly, z1, EBadNumber, EBadMatrix, x1, x4, x2, EByZero, IByZero, ⟨pgQuotient, hdQuotient, poQuotient, saQuotient⟩, nQuotientsize, nQuotienttop, nQuotientbottom, PySem.W.mg_of X G aCQuotient, sfQuotient, q1Quotient, q4Quotient, z2, z3, z4, zf, zq, zp, zn, zne, x3, IBadNumber⟩
  refine ⟨_, [(c3, P3)], ?_, ?_, ?_, fun s v => .of_eq rfl, fun base _ _ tbs => oklaw (blt_of X G BT0) Es (tbs (c3, P3) (by simp)) De DP_eq DQ_eq D_law_draw D_law_left_out Dlowest Das_ratio Dis_whole Dare_integers Dis_ratio Dis_term Dratio_sum DP_init Dlowered Dbrought Dcommon_bottom Dform_scale Dleast_exponents Dnumber_poly DQ_init D_law_made D_law_pen D_law_pick D_law_poly_times D_law_box D_law_inner D_law_like D_law_poly_drawn D_law_weights D_law_quotient D_law_gcd D_law_is_whole D_law_is_matrix D_law_is_ratio D_law_told_poly D_law_told_quotient Dis_index Dis_list Dcheck_indices Dwithout_letters Dcalled_one Dlaw⟩
  · intro p hp
    simp only [List.mem_cons, List.not_mem_nil, or_false] at hp
    rcases hp with rfl
    · exact elaw
  · intro p hp
    simp only [List.mem_cons, List.not_mem_nil, or_false] at hp
    rcases hp with rfl
    · exact nlaw
  · intro p hp
    simp only [List.mem_cons, List.not_mem_nil, or_false] at hp
    rcases hp with rfl
    · exact PySem.W.codeHd_of_K X hlaw
end AL
open PySem PySem.W PyProof.Rows
set_option maxRecDepth 100000 in
set_option maxHeartbeats 0 in
theorem PySem.Challenge.cw_allscales_k77_whole_letters_become_one_holds : PySem.Challenge.rw_allscales_k77_whole_letters_become_one.Holds := by
  w_on; o_law; k_head; (case hw => w_witness2)
  k_fill
  refine AL.walkGT (l := PySem.Challenge.rw_allscales_k77_whole_letters_become_one) (n := 63) (k := 33) (x := "_law_script") (sp := AL.spLawC) rfl (by decide) rfl ⟨rfl, by decide, by decide⟩ (fun w h Y => PySem.W.km_in_of Y) ?F (fun K cs H a ns _ ht hS => ⟨a, ns, rfl, hS, ht, fun _ => rfl⟩)
  case F =>
    intro w mg fa h Y KX G hmg
    have tabs := PySem.W.km_tabs_of Y
    refine' AL.all_mk KX G hmg ?aCPoly ?pgPoly ?hdPoly ?poPoly ?saPoly ?mkPoly ?kcPoly ?sfPoly ?q1Poly ?q2Poly ?q3Poly ?q4Poly ?nPolysize ?nPolyterms ?aCQuotient ?pgQuotient ?hdQuotient ?poQuotient ?saQuotient ?mkQuotient ?kcQuotient ?sfQuotient ?q1Quotient ?q2Quotient ?q3Quotient ?q4Quotient ?nQuotientsize ?nQuotienttop ?nQuotientbottom ?a_law_pen ?l_law_pen ?c_law_pen ?k_law_pen ?a_law_draw ?l_law_draw ?c_law_draw ?k_law_draw ?a_law_pick ?l_law_pick ?c_law_pick ?k_law_pick ?ais_whole ?lis_whole ?cis_whole ?kis_whole ?aare_integers ?lare_integers ?care_integers ?kare_integers ?ais_ratio ?lis_ratio ?cis_ratio ?kis_ratio ?alowest ?llowest ?clowest ?klowest ?aas_ratio ?las_ratio ?cas_ratio ?kas_ratio ?aratio_sum ?lratio_sum ?cratio_sum ?kratio_sum ?ais_term ?lis_term ?cis_term ?kis_term ?aP_init ?iP_init ?lP_init ?cP_init ?kP_init ?anumber_poly ?lnumber_poly ?cnumber_poly ?knumber_poly ?aleast_exponents ?lleast_exponents ?cleast_exponents ?kleast_exponents ?acommon_bottom ?lcommon_bottom ?ccommon_bottom ?kcommon_bottom ?aform_scale ?lform_scale ?cform_scale ?kform_scale ?alowered ?llowered ?clowered ?klowered ?abrought ?lbrought ?cbrought ?kbrought ?aQ_init ?iQ_init ?lQ_init ?cQ_init ?kQ_init ?aP_eq ?iP_eq ?lP_eq ?cP_eq ?kP_eq ?aQ_eq ?iQ_eq ?lQ_eq ?cQ_eq ?kQ_eq ?ais_nothing ?lis_nothing ?cis_nothing ?kis_nothing ?ais_list ?lis_list ?cis_list ?kis_list ?ais_index ?lis_index ?cis_index ?kis_index ?acheck_indices ?lcheck_indices ?ccheck_indices ?kcheck_indices ?awithout_letters ?lwithout_letters ?cwithout_letters ?kwithout_letters ?acalled_one ?lcalled_one ?ccalled_one ?kcalled_one ?a_law_poly_drawn ?l_law_poly_drawn ?c_law_poly_drawn ?k_law_poly_drawn ?a_law_weights ?l_law_weights ?c_law_weights ?k_law_weights ?a_law_inner ?l_law_inner ?c_law_inner ?k_law_inner ?a_law_box ?l_law_box ?c_law_box ?k_law_box ?a_law_made ?l_law_made ?c_law_made ?k_law_made ?a_law_gcd ?l_law_gcd ?c_law_gcd ?k_law_gcd ?a_law_is_whole ?l_law_is_whole ?c_law_is_whole ?k_law_is_whole ?a_law_is_ratio ?l_law_is_ratio ?c_law_is_ratio ?k_law_is_ratio ?a_law_is_matrix ?l_law_is_matrix ?c_law_is_matrix ?k_law_is_matrix ?a_law_poly_times ?l_law_poly_times ?c_law_poly_times ?k_law_poly_times ?a_law_left_out ?l_law_left_out ?c_law_left_out ?k_law_left_out ?a_law_told_poly ?l_law_told_poly ?c_law_told_poly ?k_law_told_poly ?a_law_told_quotient ?l_law_told_quotient ?c_law_told_quotient ?k_law_told_quotient ?a_law_like ?l_law_like ?c_law_like ?k_law_like ?a_law_quotient ?l_law_quotient ?c_law_quotient ?k_law_quotient ?alaw ?llaw ?claw ?klaw ?rlaw ?vlaw ?hlaw ?nlaw ?elaw ?aE ?l_law_error ?c_law_error ?k_law_error ?ABadNumber ?RBadNumber ?MBadNumber ?BBadNumber ?aIBadNumber ?lIBadNumber ?cIBadNumber ?kIBadNumber ?tIBadNumber ?AByZero ?RByZero ?MByZero ?BByZero ?aIByZero ?lIByZero ?cIByZero ?kIByZero ?tIByZero ?ABadMatrix ?RBadMatrix ?MBadMatrix ?BBadMatrix ?x1 ?x2 ?x3 ?GGg ?GGl ?z1 ?z2 ?z3 ?z4 ?zf ?zq ?zp ?zn ?x4 ?zne ?BT0
    (case aCPoly => k_is)
    (case pgPoly => k_is)
    (case hdPoly => k_is)
    (case poPoly => k_is)
    (case saPoly => k_is)
    (case mkPoly => k_is)
    (case kcPoly => k_is)
    (case sfPoly => kernel_rfl)
    (case q1Poly => k_is)
    (case q2Poly => k_is)
    (case q3Poly => k_is)
    (case q4Poly => k_is)
    (case nPolysize => k_is)
    (case nPolyterms => k_is)
    (case aCQuotient => k_is)
    (case pgQuotient => k_is)
    (case hdQuotient => k_is)
    (case poQuotient => k_is)
    (case saQuotient => k_is)
    (case mkQuotient => k_is)
    (case kcQuotient => k_is)
    (case sfQuotient => kernel_rfl)
    (case q1Quotient => k_is)
    (case q2Quotient => k_is)
    (case q3Quotient => k_is)
    (case q4Quotient => k_is)
    (case nQuotientsize => k_is)
    (case nQuotienttop => k_is)
    (case nQuotientbottom => k_is)
    (case a_law_pen => k_is)
    (case l_law_pen => k_is)
    (case c_law_pen => k_is)
    (case k_law_pen => k_is)
    (case a_law_draw => k_is)
    (case l_law_draw => k_is)
    (case c_law_draw => k_is)
    (case k_law_draw => k_is)
    (case a_law_pick => k_is)
    (case l_law_pick => k_is)
    (case c_law_pick => k_is)
    (case k_law_pick => k_is)
    (case ais_whole => k_is)
    (case lis_whole => k_is)
    (case cis_whole => k_is)
    (case kis_whole => k_is)
    (case aare_integers => k_is)
    (case lare_integers => k_is)
    (case care_integers => k_is)
    (case kare_integers => k_is)
    (case ais_ratio => k_is)
    (case lis_ratio => k_is)
    (case cis_ratio => k_is)
    (case kis_ratio => k_is)
    (case alowest => k_is)
    (case llowest => k_is)
    (case clowest => k_is)
    (case klowest => k_is)
    (case aas_ratio => k_is)
    (case las_ratio => k_is)
    (case cas_ratio => k_is)
    (case kas_ratio => k_is)
    (case aratio_sum => k_is)
    (case lratio_sum => k_is)
    (case cratio_sum => k_is)
    (case kratio_sum => k_is)
    (case ais_term => k_is)
    (case lis_term => k_is)
    (case cis_term => k_is)
    (case kis_term => k_is)
    (case aP_init => k_is)
    (case iP_init => k_is)
    (case lP_init => k_is)
    (case cP_init => k_is)
    (case kP_init => k_is)
    (case anumber_poly => k_is)
    (case lnumber_poly => k_is)
    (case cnumber_poly => k_is)
    (case knumber_poly => k_is)
    (case aleast_exponents => k_is)
    (case lleast_exponents => k_is)
    (case cleast_exponents => k_is)
    (case kleast_exponents => k_is)
    (case acommon_bottom => k_is)
    (case lcommon_bottom => k_is)
    (case ccommon_bottom => k_is)
    (case kcommon_bottom => k_is)
    (case aform_scale => k_is)
    (case lform_scale => k_is)
    (case cform_scale => k_is)
    (case kform_scale => k_is)
    (case alowered => k_is)
    (case llowered => k_is)
    (case clowered => k_is)
    (case klowered => k_is)
    (case abrought => k_is)
    (case lbrought => k_is)
    (case cbrought => k_is)
    (case kbrought => k_is)
    (case aQ_init => k_is)
    (case iQ_init => k_is)
    (case lQ_init => k_is)
    (case cQ_init => k_is)
    (case kQ_init => k_is)
    (case aP_eq => k_is)
    (case iP_eq => k_is)
    (case lP_eq => k_is)
    (case cP_eq => k_is)
    (case kP_eq => k_is)
    (case aQ_eq => k_is)
    (case iQ_eq => k_is)
    (case lQ_eq => k_is)
    (case cQ_eq => k_is)
    (case kQ_eq => k_is)
    (case ais_nothing => k_is)
    (case lis_nothing => k_is)
    (case cis_nothing => k_is)
    (case kis_nothing => k_is)
    (case ais_list => k_is)
    (case lis_list => k_is)
    (case cis_list => k_is)
    (case kis_list => k_is)
    (case ais_index => k_is)
    (case lis_index => k_is)
    (case cis_index => k_is)
    (case kis_index => k_is)
    (case acheck_indices => k_is)
    (case lcheck_indices => k_is)
    (case ccheck_indices => k_is)
    (case kcheck_indices => k_is)
    (case awithout_letters => k_is)
    (case lwithout_letters => k_is)
    (case cwithout_letters => k_is)
    (case kwithout_letters => k_is)
    (case acalled_one => k_is)
    (case lcalled_one => k_is)
    (case ccalled_one => k_is)
    (case kcalled_one => k_is)
    (case a_law_poly_drawn => k_is)
    (case l_law_poly_drawn => k_is)
    (case c_law_poly_drawn => k_is)
    (case k_law_poly_drawn => k_is)
    (case a_law_weights => k_is)
    (case l_law_weights => k_is)
    (case c_law_weights => k_is)
    (case k_law_weights => k_is)
    (case a_law_inner => k_is)
    (case l_law_inner => k_is)
    (case c_law_inner => k_is)
    (case k_law_inner => k_is)
    (case a_law_box => k_is)
    (case l_law_box => k_is)
    (case c_law_box => k_is)
    (case k_law_box => k_is)
    (case a_law_made => k_is)
    (case l_law_made => k_is)
    (case c_law_made => k_is)
    (case k_law_made => k_is)
    (case a_law_gcd => k_is)
    (case l_law_gcd => k_is)
    (case c_law_gcd => k_is)
    (case k_law_gcd => k_is)
    (case a_law_is_whole => k_is)
    (case l_law_is_whole => k_is)
    (case c_law_is_whole => k_is)
    (case k_law_is_whole => k_is)
    (case a_law_is_ratio => k_is)
    (case l_law_is_ratio => k_is)
    (case c_law_is_ratio => k_is)
    (case k_law_is_ratio => k_is)
    (case a_law_is_matrix => k_is)
    (case l_law_is_matrix => k_is)
    (case c_law_is_matrix => k_is)
    (case k_law_is_matrix => k_is)
    (case a_law_poly_times => k_is)
    (case l_law_poly_times => k_is)
    (case c_law_poly_times => k_is)
    (case k_law_poly_times => k_is)
    (case a_law_left_out => k_is)
    (case l_law_left_out => k_is)
    (case c_law_left_out => k_is)
    (case k_law_left_out => k_is)
    (case a_law_told_poly => k_is)
    (case l_law_told_poly => k_is)
    (case c_law_told_poly => k_is)
    (case k_law_told_poly => k_is)
    (case a_law_told_quotient => k_is)
    (case l_law_told_quotient => k_is)
    (case c_law_told_quotient => k_is)
    (case k_law_told_quotient => k_is)
    (case a_law_like => k_is)
    (case l_law_like => k_is)
    (case c_law_like => k_is)
    (case k_law_like => k_is)
    (case a_law_quotient => k_is)
    (case l_law_quotient => k_is)
    (case c_law_quotient => k_is)
    (case k_law_quotient => k_is)
    (case alaw => k_is)
    (case llaw => k_is)
    (case claw => k_is)
    (case klaw => k_is)
    (case rlaw => k_is)
    (case vlaw => rfl)
    (case hlaw => kernel_rfl)
    (case nlaw => rfl)
    (case elaw => exact tabs _ (by k_mem))
    (case aE => k_is)
    (case l_law_error => k_is)
    (case c_law_error => k_is)
    (case k_law_error => k_is)
    (case ABadNumber => k_is)
    (case RBadNumber => k_is)
    (case MBadNumber => decide +kernel)
    (case BBadNumber => kernel_rfl)
    (case aIBadNumber => k_is)
    (case lIBadNumber => k_is)
    (case cIBadNumber => k_is)
    (case kIBadNumber => k_is)
    (case tIBadNumber => k_is)
    (case AByZero => k_is)
    (case RByZero => k_is)
    (case MByZero => decide +kernel)
    (case BByZero => kernel_rfl)
    (case aIByZero => k_is)
    (case lIByZero => k_is)
    (case cIByZero => k_is)
    (case kIByZero => k_is)
    (case tIByZero => k_is)
    (case ABadMatrix => k_is)
    (case RBadMatrix => k_is)
    (case MBadMatrix => decide +kernel)
    (case BBadMatrix => kernel_rfl)
    (case x1 => kernel_rfl)
    (case x2 => kernel_rfl)
    (case x3 => kernel_rfl)
    (case GGg => k_is)
    (case GGl => k_is)
    (case z1 => kernel_rfl)
    (case z2 => kernel_rfl)
    (case z3 => kernel_rfl)
    (case z4 => kernel_rfl)
    (case zf => kernel_rfl)
    (case zq => kernel_rfl)
    (case zp => kernel_rfl)
    (case zn => kernel_rfl)
    (case x4 => kernel_rfl)
    (case zne => k_is)
    (case BT0 => kernel_rfl)
#print axioms PySem.Challenge.cw_allscales_k77_whole_letters_become_one_holds
