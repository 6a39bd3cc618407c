import PyProof.Rows.All
import Wide.All
import OpenK.AllK
import Wide.FinOn
import HandS.ForMost
import HandS.IsInst
import HandS.ExcInit
import HandS.ExcValue
import HandS.ExcField
import HandS.ExcIs
import HandS.Evl
import HandS.ForExc
import HandS.TryMany
import HandS.Wide
import HandS.Gcd
import HandS.FStr
import HandS.WideBits
import PyProof.StrReplace2
import HandS.Codes
import HandS.StrMore
import PyProof.TupleOfStr
import HandS.Zip
import HandS.Lambda
import HandS.OwnEq
import KE.KEqDeep
import HandS.Walk
import HandS.DictTup
import HandS.TupLe
import HandS.Keys
import HandS.Conv
import KE.KDictPairs
import HandS.TupSets
import HandS.Text
import HandS.Flow
import HandS.Iter
import HandS.DictComp
import HandS.Dict
import KE.GoesMore
import KE.GoesZip
import KE.GoesEnum
import HandS.TupMul
import KE.DataMinMax
import PyProof.P3Eq
import HandS.EndTab
import PySem.Challenge.RW_allscales_k17_units_known
set_option Elab.async false
set_option maxRecDepth 100000
/-! The pen that the laws draw from: a dict with five entries over a copy of the script. -/
namespace AL
open PySem L2

/-- all but what stands at p stays -/
def Keep (p : Addr) (H H' : Hp) : Prop := ∀ b o, b ≠ p → H b = some o → H' b = some o
theorem Keep.refl (p : Addr) (H : Hp) : Keep p H H := fun _ _ _ h => h
theorem Keep.trans {p : Addr} {H H1 H2 : Hp} (a : Keep p H H1) (b : Keep p H1 H2) : Keep p H H2 := fun c o n h => b c o n (a c o n h)
theorem Keep.upd {p : Addr} {H : Hp} {o : HO} : Keep p H (upd H p o) := fun b u n e => by rw [upd_ne n]; exact e
theorem Keep.new {p q : Addr} {H : Hp} {o : HO} (h : H q = none) : Keep p H (L2.upd H q o) := fun b u _ e => by
  rw [upd_ne (ne_of_none e h)]; exact e

def penK (c : Addr) (i d n f : Int) : List (Key × V) :=
  [(.inr "cells", .ref c), (.inr "at", .int i), (.inr "digits", .int d), (.inr "count", .int n), (.inr "fold", .int f)]
section
variable {c : Addr} {i d n f x : Int}
theorem pen_cells : valV (penK c i d n f) (Sum.inr "cells" : Key) = some (.ref c) := by kernel_rfl
theorem pen_at : valV (penK c i d n f) (Sum.inr "at" : Key) = some (.int i) := by kernel_rfl
theorem pen_digits : valV (penK c i d n f) (Sum.inr "digits" : Key) = some (.int d) := by kernel_rfl
theorem pen_count : valV (penK c i d n f) (Sum.inr "count" : Key) = some (.int n) := by kernel_rfl
theorem pen_fold : valV (penK c i d n f) (Sum.inr "fold" : Key) = some (.int f) := by kernel_rfl
theorem put_at : putK (penK c i d n f) (Sum.inr "at" : Key) (.int x) = penK c x d n f := by kernel_rfl
theorem put_digits : putK (penK c i d n f) (Sum.inr "digits" : Key) (.int x) = penK c i x n f := by kernel_rfl
theorem put_count : putK (penK c i d n f) (Sum.inr "count" : Key) (.int x) = penK c i d x f := by kernel_rfl
theorem put_fold : putK (penK c i d n f) (Sum.inr "fold" : Key) (.int x) = penK c i d n x := by kernel_rfl
theorem pen_len : (penK c i d n f).length = 5 := rfl
end
/-- a pen stands at p, its cells at c; it has drawn at most m times -/
structure Pen (H : Hp) (p c : Addr) (m : Nat) : Prop where
  ex : ∃ (ns : List Int) (i d n f : Int), H p = some (.dK (penK c i d n f)) ∧ H c = some (.lst (ns.map V.int)) ∧ 0 ≤ i ∧ 0 ≤ d ∧ 0 ≤ n ∧ n ≤ (m : Int) ∧ 0 ≤ f ∧ f < 2147483648
theorem Pen.mono {H : Hp} {p c : Addr} {m m' : Nat} (h : Pen H p c m) (l : m ≤ m') : Pen H p c m' := by
  obtain ⟨ns, i, d, n, f, h1, h2, h3, h4, h5, h6, h7, h8⟩ := h.ex
  exact ⟨ns, i, d, n, f, h1, h2, h3, h4, h5, by omega, h7, h8⟩
theorem Pen.keep {H H' : Hp} {p c : Addr} {m : Nat} (h : Pen H p c m) (k1 : ∀ o, H p = some o → H' p = some o) (k2 : ∀ o, H c = some o → H' c = some o) : Pen H' p c m := by
  obtain ⟨ns, i, d, n, f, h1, h2, hr⟩ := h.ex
  exact ⟨ns, i, d, n, f, k1 _ h1, k2 _ h2, hr⟩
theorem Pen.same {H H' : Hp} {p c : Addr} {m : Nat} (h : Pen H p c m) (k : Same H H') : Pen H' p c m := h.keep (fun o e => k _ o e) fun o e => k _ o e
theorem Pen.dict {H : Hp} {p c : Addr} {m : Nat} (h : Pen H p c m) : ∃ kvs, H p = some (.dK kvs) := by
  obtain ⟨ns, i, d, n, f, h1, _⟩ := h.ex
  exact ⟨_, h1⟩
/-- what is no dict and stands, stays -/
theorem Keep.rd {p a : Addr} {H H' : Hp} {kvs : List (Key × V)} {u : HO} (k : Keep p H H') (hp : H p = some (.dK kvs)) (h : Rd H a u) (hu : ∀ l, u ≠ .dK l) : Rd H' a u := by
  rcases h with h | ⟨o, h⟩
  · exact .inl (k a _ (fun z => by rw [z, hp] at h; exact hu _ (Option.some.inj h).symm) h)
  · exact .inr ⟨o, k a _ (fun z => by rw [z, hp] at h; cases h) h⟩
theorem Keep.seqL {K : PySem.W.Frag} {p c a : Addr} {m : Nat} {H H' : Hp} {xs : List V} (k : Keep p H H') (hp : Pen H p c m) (h : SqL K H a xs) : SqL K H' a xs := by
  obtain ⟨kvs, hk⟩ := hp.dict
  rcases h with h | h
  · exact .inl (k.rd hk h (fun l z => by cases z))
  · exact .inr h
theorem Keep.seqT {K : PySem.W.Frag} {p c a : Addr} {m : Nat} {H H' : Hp} {xs : List V} (k : Keep p H H') (hp : Pen H p c m) (h : SqT K H a xs) : SqT K H' a xs := by
  obtain ⟨kvs, hk⟩ := hp.dict
  rcases h with h | h
  · exact .inl (k.rd hk h (fun l z => by cases z))
  · exact .inr h
theorem Keep.at {p c a : Addr} {m : Nat} {H H' : Hp} {o : HO} (k : Keep p H H') (hp : Pen H p c m) (h : H a = some o) (hu : ∀ l, o ≠ .dK l) : H' a = some o := by
  obtain ⟨kvs, hk⟩ := hp.dict
  exact k a _ (fun z => by rw [z, hk] at h; exact hu _ (Option.some.inj h).symm) h
theorem Keep.free {p c a : Addr} {m : Nat} {H H' : Hp} (k : Keep p H H') (hp : Pen H p c m) (hp' : Pen H' p c m) (h : H' a = none) : H a = none := by
  cases e : H a with
  | none => rfl
  | some o =>
    by_cases z : a = p
    · obtain ⟨kvs, hk⟩ := hp'.dict
      rw [z, hk] at h; cases h
    · rw [k a o z e] at h; cases h

/-- a def of the module's top, as it stands behind the top -/
structure DefAt (K : PySem.W.Frag) (mg : Str → Option Value) (x : Str) (st : Stmt) (ps : List Str) (f : Addr) (fd : FuncData) : Prop where
  F : Fun K x x st f fd
  m : mg x = some (.ref f)
  b : Binds K fd ps []
/-! ### the promises -/
/-- _law_pen(script) -/
def spPen (K : PySem.W.Frag) : Sp := fun vs H Q _ => ∃ (a : Addr) (ns : List Int), vs = [.ref a] ∧ SqL K H a (ns.map V.int) ∧ ∀ (p c : Addr) (H' : Hp), H p = none → H c = none → p ≠ c → Pen H' p c 0 → Same H H' → Q (.ref p) H'
/-- _law_draw(pen, many) -/
def spDraw : Sp := fun vs H Q _ => ∃ (p c : Addr) (m : Nat) (k : Int), vs = [.ref p, .int k] ∧ Pen H p c m ∧ m < 1000000000 ∧ 0 < k ∧ k < 1000000000 ∧
  ∀ (r : Int) (H' : Hp), 0 ≤ r → r < k → Pen H' p c (m + 1) → Keep p H H' → Q (.int r) H'
/-- _law_pick(pen, some), some a list -/
def spPick (K : PySem.W.Frag) : Sp := fun vs H Q _ => ∃ (p c a : Addr) (m : Nat) (xs : List V), vs = [.ref p, .ref a] ∧ Pen H p c m ∧ m < 1000000000 ∧ SqL K H a xs ∧ 0 < xs.length ∧ xs.length < 1000000000 ∧
  ∀ (j : Nat) (x : V) (H' : Hp), xs[j]? = some x → Pen H' p c (m + 1) → Keep p H H' → Q x H'
end AL
namespace AL
open PySem L2
theorem dget {H : Hp} {a : Addr} {kvs : List (Key × V)} {k : Key} {v : V} (h : H a = some (.dK kvs)) (e : valV kvs k = some v) : DGet H a (kV k) (some v) := by
  rw [← e]; exact DGet.k h
theorem dput {H : Hp} {a : Addr} {kvs kvs' : List (Key × V)} {k : Key} {v : V} (h : H a = some (.dK kvs)) (hl : kvs.length < sizeLine) (e : putK kvs k v = kvs') : DPut H a (kV k) v (upd H a (.dK kvs')) := by
  rw [← e]; exact DPut.k h hl
theorem fmod_in {a b : Int} (h : 0 < b) : 0 ≤ a.fmod b ∧ a.fmod b < b := by
  rw [Int.fmod_eq_emod_of_nonneg a (Int.le_of_lt h)]
  exact ⟨Int.emod_nonneg _ (by omega), Int.emod_lt_of_pos _ h⟩
theorem fdiv_nn {a b : Int} (ha : 0 ≤ a) (h : 0 < b) : 0 ≤ a.fdiv b := by
  rw [Int.fdiv_eq_ediv_of_nonneg a (Int.le_of_lt h)]
  exact Int.ediv_nonneg ha (Int.le_of_lt h)
theorem map_int {ns : List Int} {i : Nat} {y : V} (hi : (ns.map V.int)[i]? = some y) : ∃ z, ns[i]? = some z ∧ y = V.int z := by
  rw [List.getElem?_map] at hi
  cases e : ns[i]? with
  | none => rw [e] at hi; cases hi
  | some z => rw [e] at hi; exact ⟨z, rfl, (Option.some.inj hi).symm⟩
theorem Same.new {H : Hp} {p : Addr} {o : HO} (h : H p = none) : Same H (upd H p o) := fun b u e => by
  rw [upd_ne (ne_of_none e h)]; exact e
end AL
namespace AL
open PySem L2
/-- the built-in names that the top leaves alone -/
def bltNames : List Str := ["abs", "all", "any", "bool", "dict", "enumerate", "int", "isinstance", "len", "list", "max", "min", "range", "repr", "reversed", "set", "sorted", "str", "sum", "tuple", "zip"]
structure Blt (mg : Str → Option Value) : Prop where
  abs_ : mg "abs" = none
  all_ : mg "all" = none
  any_ : mg "any" = none
  bool_ : mg "bool" = none
  dict_ : mg "dict" = none
  enumerate_ : mg "enumerate" = none
  int_ : mg "int" = none
  isinstance_ : mg "isinstance" = none
  len_ : mg "len" = none
  list_ : mg "list" = none
  max_ : mg "max" = none
  min_ : mg "min" = none
  range_ : mg "range" = none
  repr_ : mg "repr" = none
  reversed_ : mg "reversed" = none
  set_ : mg "set" = none
  sorted_ : mg "sorted" = none
  str_ : mg "str" = none
  sum_ : mg "sum" = none
  tuple_ : mg "tuple" = none
  zip_ : mg "zip" = none
def bltB (K : PySem.W.Frag) : Bool := bltNames.all fun x => decide (PySem.W.nsIn K mainGlobals x = some none)
theorem blt_of {K : PySem.W.Frag} {h : Heap} {mg : Str → Option Value} (X : K.In h) (G : h.Ns mainGlobals mg) (b : bltB K = true) : Blt mg := by
  unfold bltB at b
  have all : ∀ x ∈ bltNames, mg x = none := fun x hx => PySem.W.mg_none_of X G (of_decide_eq_true (List.all_eq_true.mp b x hx))
  exact ⟨all _ (by simp [bltNames]), all _ (by simp [bltNames]), all _ (by simp [bltNames]), all _ (by simp [bltNames]), all _ (by simp [bltNames]), all _ (by simp [bltNames]), all _ (by simp [bltNames]), all _ (by simp [bltNames]), all _ (by simp [bltNames]), all _ (by simp [bltNames]), all _ (by simp [bltNames]), all _ (by simp [bltNames]), all _ (by simp [bltNames]), all _ (by simp [bltNames]), all _ (by simp [bltNames]), all _ (by simp [bltNames]), all _ (by simp [bltNames]), all _ (by simp [bltNames]), all _ (by simp [bltNames]), all _ (by simp [bltNames]), all _ (by simp [bltNames])⟩
end AL
set_option Elab.async false
set_option maxRecDepth 100000
namespace AL
open PySem L2 PySem.NumText
theorem digitsVal_app (a b : List Nat) : digitsVal (a ++ b) = digitsVal a * 10 ^ b.length + digitsVal b := by
  have key : ∀ (n : Nat) (b : List Nat), b.length = n → digitsVal (a ++ b) = digitsVal a * 10 ^ b.length + digitsVal b := by
    intro n
    induction n with
    | zero =>
      intro b hb
      have : b = [] := List.length_eq_zero_iff.mp hb
      subst this
      simp [digitsVal]
    | succ n ih =>
      intro b hb
      have hne : b ≠ [] := fun z => by rw [z] at hb; cases hb
      obtain ⟨i, c, rfl⟩ : ∃ i c, b = i ++ [c] := ⟨b.dropLast, b.getLast hne, (List.dropLast_concat_getLast hne).symm⟩
      have hi : i.length = n := by simpa using hb
      rw [← List.append_assoc, digitsVal_snoc, ih i hi, digitsVal_snoc, List.length_append, List.length_singleton, Nat.pow_succ, Nat.add_mul, Nat.mul_assoc]
      omega
  exact key _ b rfl
theorem digitsVal_lt : ∀ (n : Nat) (b : List Nat), b.length = n → AllDigits b → digitsVal b < 10 ^ n
  | 0, b, hl, _ => by
    have : b = [] := List.length_eq_zero_iff.mp hl
    subst this; decide
  | n + 1, b, hl, h => by
    cases b with
    | nil => simp at hl
    | cons c b =>
      have hc := h.head
      have ih := digitsVal_lt n b (by simpa using hl) h.tail
      have e := digitsVal_app [c] b
      rw [List.singleton_append] at e
      have e1 : digitsVal [c] = c - 48 := by show 0 * 10 + (c - 48) = c - 48; omega
      have hl' : b.length = n := by simpa using hl
      rw [e, e1, hl', Nat.pow_succ]
      have : (c - 48) * 10 ^ n ≤ 9 * 10 ^ n := Nat.mul_le_mul_right _ (by omega)
      omega
/-- the last k signs of a number's text -/
theorem last_digits {n k : Nat} (hk : 0 < k) (hl : (TL.numL n).length ≤ 640) :
    (cutS (Str.ofString (toString ((n : Nat) : Int))) (some (-(k : Int))) none).length ≤ 640 ∧
    intText? (cutS (Str.ofString (toString ((n : Nat) : Int))) (some (-(k : Int))) none) = some ((n % 10 ^ k : Nat) : Int) := by
  have htl : (Str.ofString (toString ((n : Nat) : Int))).cps.toList = TL.numL n := TL.tl_num n
  have hlen : (Str.ofString (toString ((n : Nat) : Int))).length = (TL.numL n).length := by rw [TL.len_tl]; exact congrArg List.length (TL.tl_num n)
  have e : (cutS (Str.ofString (toString ((n : Nat) : Int))) (some (-(k : Int))) none).cps.toList = (TL.numL n).drop ((TL.numL n).length - k) := by
    unfold cutS
    rw [htl, hlen]
    have h1 : HT.sIx (TL.numL n).length 0 (some (-(k : Int))) = (TL.numL n).length - k := by
      show (if (-(k : Int)) < 0 then ((-(k : Int)) + ((TL.numL n).length : Int)).toNat else _) = _
      rw [if_pos (by omega)]
      omega
    have h2 : HT.sIx (TL.numL n).length (TL.numL n).length none = (TL.numL n).length := by
      unfold HT.sIx
      simp
    rw [h1, h2]
    simp
    apply List.take_of_length_le
    simp
  have hd := TL.numL_digits n
  have hne := TL.numL_ne n
  have hv := TL.numL_val n
  generalize TL.numL n = l at *
  have hl0 : 0 < l.length := List.length_pos_iff.mpr hne
  have len : (cutS (Str.ofString (toString ((n : Nat) : Int))) (some (-(k : Int))) none).length = (l.drop (l.length - k)).length := by
    rw [← e]; exact Array.length_toList.symm
  have hle : (l.drop (l.length - k)).length ≤ k := by rw [List.length_drop]; omega
  have hdd : AllDigits (l.drop (l.length - k)) := fun c hc => hd c (List.mem_of_mem_drop hc)
  refine ⟨by rw [len, List.length_drop]; omega, ?_⟩
  rw [intText_digits (by rw [e]; exact hdd) (by rw [e]; intro z; have := congrArg List.length z; rw [List.length_drop] at this; simp at this; omega) (by rw [len, List.length_drop]; omega), e]
  congr 2
  have hap := digitsVal_app (l.take (l.length - k)) (l.drop (l.length - k))
  rw [List.take_append_drop, hv] at hap
  have hlt := digitsVal_lt _ _ rfl hdd
  by_cases hkl : k ≤ l.length
  · have : (l.drop (l.length - k)).length = k := by rw [List.length_drop]; omega
    rw [this] at hap hlt
    rw [hap, Nat.mul_comm, Nat.mul_add_mod, Nat.mod_eq_of_lt hlt]
  · have z : l.length - k = 0 := by omega
    rw [z] at hap hlt ⊢
    simp [digitsVal] at hap
    have : n < 10 ^ k := Nat.lt_of_lt_of_le (by rw [List.drop_zero] at hlt; rw [← hv]; exact hlt) (Nat.pow_le_pow_right (by decide) (by omega))
    rw [List.drop_zero, hv, Nat.mod_eq_of_lt this]
end AL
namespace AL
open PySem L2 PySem.NumText
theorem log2_small {n k : Nat} (hk : 0 < k) (h : n < 2 ^ k) : n.log2 < k := by
  by_cases z : n = 0
  · subst z; simpa using hk
  · exact (Nat.log2_lt z).mpr h
theorem pow402 : (10 : Nat) ^ 402 < 2 ^ 1920 := by decide +kernel
theorem thousand (i : Nat) : (1000 : Nat) ^ i = 10 ^ (3 * i) := by rw [Nat.pow_mul]
/-- _law_big(pen, figures) -/
def spBig : Sp := fun vs H Q _ => ∃ (p c : Addr) (m : Nat) (k : Nat), vs = [.ref p, .int (k : Int)] ∧ Pen H p c m ∧ m < 900000000 ∧ 0 < k ∧ k ≤ 400 ∧
  ∀ (r : Nat) (H' : Hp), r < 10 ^ k → Pen H' p c (m + 200) → Keep p H H' → Q (.int (r : Int)) H'
/-- _law_name(pen, used), used a new empty list -/
def spName0 : Sp := fun vs H Q _ => ∃ (p c a : Addr) (m : Nat), vs = [.ref p, .ref a] ∧ Pen H p c m ∧ a ≠ c ∧ m < 900000000 ∧ H a = some (.lst []) ∧
  ∀ (z : Str) (H' : Hp), z.length ≤ 8 → (∀ c ∈ z.cps.toList, c < 128) → Pen H' p c (m + 200) → Keep p (upd H a (.lst [.str z])) H' → Q (.str z) H'
theorem app_tl {z : Str} {c : Nat} : (z ++ (⟨#[c]⟩ : Str)).cps.toList = z.cps.toList ++ [c] := by
  show (z.cps ++ #[c]).toList = _
  rw [Array.toList_append]
theorem pick_of {xs : List V} {P : V → Prop} (h : ∀ x ∈ xs, P x) {j : Nat} {x : V} (e : xs[j]? = some x) : P x := h x (List.mem_of_getElem? e)
end AL
set_option Elab.async false
set_option maxRecDepth 100000
set_option maxHeartbeats 2000000
/-! Defs that ask repr: their promises hold where no repr is under way. -/
namespace AL
open PySem PySem.Spec PyProof.Rows L2

/-- a def's promise, kept wherever no guard stands around -/
structure FnG (P : Program) (w : World) (K : PySem.W.Frag) (mg : Str → Option Value) (base : Heap) (CX : CXT) (k : Nat) (f : Addr) (fd : FuncData) (ps : List Str) (sp : Sp) : Prop where
  len : ∀ xs H Q E, sp xs H Q E → xs.length = ps.length
  run : ∀ (A : Around) (ol : List Env) (s : Shared) (H : Hp) (ar : Args) (us : List Value) (xs : List V) (Q : VK) (E : XK), A.guards = some [] → Room k A → Env0 P w K mg base A ol s H →
    BindsTo s fd ar (ps.zip us) → Vals xs us → sp xs H Q E → codeAny (model P w) A (.call (.ref f) ar) (CR CX ol P w H s Q E) s

theorem FnG.of {P : Program} {w : World} {K : PySem.W.Frag} {mg : Str → Option Value} {base : Heap} {CX : CXT} {k : Nat} {f : Addr} {fd : FuncData} {ps : List Str} {sp : Sp}
    (F : FnOk P w K mg base CX k f fd ps sp) : FnG P w K mg base CX k f fd ps sp :=
  ⟨F.len, fun A ol s H ar us xs Q E _ r e b v h => F.run A ol s H ar us xs Q E r e b v h⟩

/-- a def of the text, by its body -/
theorem okGX {P : Program} {w : World} {K : PySem.W.Frag} {mg : Str → Option Value} {base : Heap} {x qual : Str} {st : Stmt} {f : Addr} {fd : FuncData} {N ps : List Str} {CX : CXT} {k : Nat} {sp : Sp}
    (F : Fun K x qual st f fd) (S : FnScope N ps (defScope st)) (len : ∀ xs H Q E, sp xs H Q E → xs.length = ps.length)
    (body : ∀ (cv : Value) (A : Around) (ol : List Env) (s : Shared) (H : Hp) (xs : List V) (Q : VK) (E : XK), A.guards = some [] → Room k (A.deeper (envOfC qual (defScope st) s.heap.objs.size f cv)) →
      sp xs H Q E → ∃ t, PSs (cxOf CX P w K mg base N qual (defScope st) f cv A ol s H E) (defBody st) t ∧ t { nx := fun _ H' => Q .non H', rt := Q } (start N xs) H) :
    FnG P w K mg base CX (k + 1) f fd ps sp := by
  obtain ⟨c0, d0, kw0, dc0, pm0, an0, cv, ct0, sl0, efd, look, code⟩ := F.ex
  subst efd
  constructor
  · exact len
  · intro A ol s H ar us xs Q E gd room e0 bd vals wish
    have here : K.In s.heap := e0.mod.kin.keeps fun b o z => (e0.bs b o z).1
    have free : s.heap.NoLimit := e0.mod.nolimit.keeps fun b o z => (e0.bs b o z).1
    have kinds : ∀ y ∈ ps.zip us, (defScope st).names.lookup y.1 = some .local ∨ ((defScope st).names.lookup y.1 = some .cell ∧ ((cellsFrom (s.heap.objs.size + 1) (defScope st).names []).lookup y.1).isSome = true) := by
      rintro ⟨n, v⟩ hy
      cases S.par n (List.of_mem_zip hy).1 with
      | inl q => exact .inl q
      | inr q => exact .inr ⟨q, PySem.W.cellsFrom_some _ _ _ (.inl q)⟩
    refine codeAny_call_function room.depth (here _ _ look) rfl S.co S.gen rfl (PySem.W.codeRec_of here code) (bd _ _ _ _ (wpAny_newFunctionEnv_cells S.kind kinds fun env hv s1 ic => ?_))
    subst hv
    refine ⟨free.keeps ic.toInCall.keep, codeAny_func ?_⟩
    obtain ⟨t, run, rd⟩ := body cv A ol s H xs Q E gd (room.deeper _) wish
    have I0 := inv_start (CX := CX) (P := P) (w := w) (cd := cv) (E := E) S room.hd e0 (len _ _ _ _ wish) vals ic
    refine wpAny_mono (run.run [] s1 _ H _ I0 rd) (fun fl s2 z => ?_) fun _ _ z => z
    cases fl with
    | brk => obtain ⟨_, _, _, no⟩ := z; exact no.elim
    | cont => obtain ⟨_, _, _, no⟩ := z; exact no.elim
    | next =>
      obtain ⟨σ2, H2, J, q⟩ := z
      exact ⟨V.non, H2, J.os, J.bare, J.base, J.hok, rfl, q⟩
    | ret u =>
      obtain ⟨v, σ2, H2, J, rv, q⟩ := z
      exact ⟨v, H2, J.os, J.bare, J.base, J.hok, rv, q⟩

/-- .. of which nothing that is raised leaves it -/
theorem okG {P : Program} {w : World} {K : PySem.W.Frag} {mg : Str → Option Value} {base : Heap} {x qual : Str} {st : Stmt} {f : Addr} {fd : FuncData} {N ps : List Str} {k : Nat} {sp : Sp}
    (F : Fun K x qual st f fd) (S : FnScope N ps (defScope st)) (len : ∀ xs H Q E, sp xs H Q E → xs.length = ps.length)
    (body : ∀ (cv : Value) (A : Around) (ol : List Env) (s : Shared) (H : Hp) (xs : List V) (Q : VK) (E : XK), A.guards = some [] → Room k (A.deeper (envOfC qual (defScope st) s.heap.objs.size f cv)) →
      sp xs H Q E → ∃ t, PSs (cxOf CX0 P w K mg base N qual (defScope st) f cv A ol s H E).nox (defBody st) t ∧ t { nx := fun _ H' => Q .non H', rt := Q } (start N xs) H) :
    FnG P w K mg base CX0 (k + 1) f fd ps sp := by
  refine okGX F S len fun cv A ol s H xs Q E gd room wish => ?_
  obtain ⟨t, run, rd⟩ := body cv A ol s H xs Q E gd room wish
  exact ⟨t, run.nox, rd⟩

section
variable {X : Cx} {CX : CXT} {k : Nat} {f : Addr} {fd : FuncData} {ps : List Str} {sp : Sp} {E : XK} {x : Str} {p pos : Pos} {e : Expr} {es : List Expr} {t : TA}
/-- f(e, ..) where no guard stands -/
theorem pe_callG (F : FnG X.prog X.w X.K X.mg X.base CX k f fd ps sp) (gd : X.A.guards = some []) (room : Room k X.A) (hg : Gl X x) (hm : X.mg x = some (.ref f)) (kp : PySem.W.keepIn X.K (.ref f) = true) (hb : Binds X.K fd ps [])
    (out : Passes CX X E) (ha : PA X (e :: es) t) (nd : (x == ("__debug__" : Str)) = false := by decide) (s1 : starEach (e :: es) X.env = (false, eval e X.env) :: starEach es X.env := by rfl)
    (s2 : (backTo pos (starEach es X.env)).any (·.1) = false := by rfl) : PE X (.Call (.Name x p) (e :: es) [] pos) (tCall sp [] E t) := by
  constructor
  intro pins s σ H Q I h
  refine wpAny_Call_Name_kw (ld_glob I hg hm (PySem.W.callWith_K (h₀ := X.base) I.ok.mod.kin kp ?_ s1 s2) nd)
  refine thn (ha.run pos pins s σ H _ I h) fun us s3 ⟨xs, H3, J, rv, q⟩ => ⟨J.kIn, ?_⟩
  have q' : sp xs H3 Q E := by
    have z : sp (xs ++ []) H3 Q E := q
    rw [List.append_nil] at z
    exact z
  have len : us.length = ps.length := by rw [← rv.length]; exact F.len _ _ _ _ q'
  have bd : BindsTo s3 fd ⟨us, []⟩ (ps.zip us) := by
    have z := hb s3 us J.kIn (by rw [List.append_nil]; exact len)
    rw [List.append_nil] at z
    exact z
  refine wpAny_call (codeAny_mono (F.run X.A X.stack s3 H3 ⟨us, []⟩ us xs Q E gd room J.env0 bd rv q') fun r s4 z => ?_)
  cases r with
  | error er => exact out pins σ H3 s3 er s4 J z
  | ok fl =>
    cases fl with
    | ret u => exact J.after z
    | next => exact z.elim
    | brk => exact z.elim
    | cont => exact z.elim
end

/-! ### repr of data -/
/-- repr(x), x a list or a tuple of data -/
def rRepr (K : PySem.W.Frag) : List V → Hp → VK → Prop := fun vs H Q => ∃ (a : Addr) (d : PyData), vs = [.ref a] ∧ Dp K H (.ref a) d ∧ d.showable = true ∧ d.hasDict = false ∧ d.depth ≤ 60 ∧ d.shown.length ≤ sizeLine ∧ Q (.str d.shown) H
theorem call_reprD {X : Cx} (gd : X.A.guards = some []) (hu : X.A.units + 64 < cLine) : CallR X (.builtin "repr") (rRepr X.K) := by
  intro pins s σ H vs us Q I r h
  obtain ⟨a, d, rfl, hd, h1, h2, h3, h4, q⟩ := h
  obtain ⟨u, rfl, ru⟩ := vals1 r
  obtain rfl : u = Value.ref a := ru
  obtain ⟨as, rd⟩ := Dp.reads I d (.ref a) (.ref a) hd rfl
  exact repr_of_reads' rd h1 (PyData.noDict_hsm h2) gd (by omega) (fun _ _ z => z) (fun h' u tk kk => ⟨.str d.shown, H, I.kept (t' := tk) kk, ⟨u, rfl⟩, q⟩) h4
end AL
set_option Elab.async false
set_option maxRecDepth 100000
set_option maxHeartbeats 4000000
/-! Own exceptions held as values: made, their fields read, asked for their class. -/
namespace PySem
open PySem.W PySem.Calls PyProof.Rows
section
variable {prog : Program} {w : World} {A : Around} {E : Value → Shared → Prop} {s : Shared} {K : Frag} {x D : Addr} {ox : Obj} {od : Option Obj}
/-- a data descriptor of the class is found ahead of the own dict -/
theorem al_findObj {C : Addr} {n : Str} {a g : Value} (hc : (clsIn K C).isSome = true) (ha : findIn K (.ref C) n = some (some a)) (hg : specialIn K a "__get__" = some (some g)) (ht : takesIn K a = some true) : findObj K C od n = some (.bind g a) := by
  obtain ⟨cd, e⟩ := Option.isSome_iff_exists.mp hc
  unfold findObj
  rw [e, Option.bind_some, ha, Option.bind_some]
  simp [hg, ht]
/-- e.__class__ of an own exception, whatever its dict holds -/
theorem al_class {Q : Option Value → Shared → Prop} (T : L2.ExcC K D) (X : K.In s.heap) (J : InstAt s.heap x ox D od) (h : Q (some (.ref D)) { s with toks := s.toks + 1 }) : wpAny (model prog w) A (getAttr? (.ref x) "__class__") Q E s := by
  have hf : findObj K D od "__class__" = some (.bind (.builtin "getset_descriptor.__get__") (.builtin "object.__class__")) := al_findObj (by
    obtain ⟨cd, e, _⟩ := any_some T.hd
    rw [e]; rfl) T.ha T.hn T.ht
  obtain ⟨hp, ge, dr, tk, os⟩ := s
  have ty := J.type (M := model prog w)
  have l1 := looks_findIn (M := model prog w) X T.hg
  have l2 := looks_findIn (M := model prog w) X T.hk
  have l3 := looks_find (M := model prog w) X J hf
  have isExc : Looks (model prog w) hp (isInstance (.ref x) (.type "BaseException")) true := ty.andThen (looks_subIn X T.hs)
  have f0 : (false && onTheHeap (Value.builtin "BaseException.__getattribute__")) = false := rfl
  have f1 : (onTheHeap (Value.ref D) && Value.builtin "BaseException.__getattribute__" == Value.builtin "object.__getattribute__") = false := by
    rw [show (Value.builtin "BaseException.__getattribute__" == Value.builtin "object.__getattribute__") = false by decide +kernel]; rfl
  unfold getAttr? getAttrBy? getAttrBy
  refine wpAny_bind (wpAny_mkText (wpAny_bind (wpAny_attempt (wpAny_holding (wpAny_bind (ty.at (wpAny_bind (l1.at ?_))))))))
  show wpAny _ _ (if (onTheHeap (Value.ref D) && Value.builtin "BaseException.__getattribute__" == Value.builtin "object.__getattribute__") = true then _ else _) _ _ _
  rw [f1, if_neg Bool.false_ne_true]
  unfold getAttrByItsOwn hookBefore
  refine wpAny_bind ?_
  have onHp : onTheHeap (Value.ref D) = true := rfl
  rw [if_pos onHp]
  refine l2.at ?_; refine wpAny_bind (wpAny_attempt (wpAny_holding ?_))
  unfold callGetattribute
  rw [f0, if_neg Bool.false_ne_true]
  unfold boundAndCalled
  rw [PySem.F.excAttr_ValueError.ga.bind (.ref x)]
  refine wpAny_bind (wpAny_pure ?_)
  show wpAny _ _ (call (.builtin "BaseException.__getattribute__") [.ref x, .str "__class__" tk]) _ _ _
  refine wpAny_call (codeAny_call_builtin PySem.F.excAttr_ValueError.ga.plain PySem.F.entry_bexc_ga (@check_slot (model prog w) _ _ ⟨hp, ge, dr, tk + 1, os⟩ "BaseException.__getattribute__" "BaseException" "__getattribute__" (.ref x) [.str "__class__" tk] [] _ (by decide +kernel) (by decide +kernel) isExc (PySem.F.args_bexc_ga (.ref x) (.str "__class__" tk)) ?_))
  unfold Builtin.«object.__getattribute__»
  refine wpAny_bind (wpAny_of_eq (a := ((Value.ref x : Value), [Value.str "__class__" tk])) (by first | rfl | (simp only [slotArgs]; rfl)) (wpAny_bind (wpAny_pure (wpAny_bind (ty.at (wpAny_bind (l3.at ?_)))))))
  show wpAny _ _ (holding [Value.builtin "object.__class__"] (call (.builtin "getset_descriptor.__get__") [.builtin "object.__class__", .ref x, .ref D]) >>= ret) _ _ _
  refine wpAny_bind (wpAny_holding (wpAny_call (class_get (s := ⟨hp, ge, dr, tk + 1, os⟩) (ox := ox) (od := od) X J T.hm (wpAny_pure ?_))))
  show wpAny _ _ (handedOut (.ref D)) _ _ _
  rw [handedOut_of (v := .ref D) rfl]
  first
    | exact wpAny_pure (wpAny_pure h)
    | exact wpAny_pure h
    | exact wpAny_pure (wpAny_bind (wpAny_pure (wpAny_pure h)))
theorem al_kitx (T : L2.ExcC K D) : KitX K (.ref x) (.ref D) (fun h => InstAt h x ox D od) := by
  obtain ⟨cd, ecd, _⟩ := any_some T.hd
  have there : ∃ o, K.lookup D = some o ∧ ∀ its n, o.data ≠ .seq its n := by
    unfold clsIn at ecd
    split at ecd
    · rename_i c' d' cd' sl' ho
      exact ⟨_, ho, fun _ _ z => by cases z⟩
    · cases ecd
  constructor
  case ty => exact fun _ _ _ J => J.type
  case it =>
    intro _ _ X _
    unfold clsIn at ecd
    split at ecd
    · rename_i c' d' cd' sl' ho
      intro A' Q' E' s' kk q
      unfold isType loadHead
      exact wpAny_bind (wpAny_loadPart (kk _ _ (X _ _ ho)) (wpAny_pure q))
    · cases ecd
  case ne =>
    intro h tp dd its n sl X htp
    refine Bool.eq_false_iff.mpr fun q => ?_
    have e : D = tp := Value.ref.inj (beq_iff_eq.mp q)
    subst e
    obtain ⟨o, ho, no⟩ := there
    have z := (X _ _ ho).symm.trans htp
    cases z
    exact no _ _ rfl
  case ca => exact fun X J kk => al_class T X J kk
end
end PySem
namespace AL
open PySem PySem.Spec PyProof.Rows L2
/-- C(e, ..), a value -/
def tMkV (C : Addr) (sp : Sp) (ta : TA) : TE := fun σ H Q => ta σ H fun vs H1 => vs.length ≤ 1000 ∧ ∀ a, H1 a = none → sp (.ref a :: vs) (upd H1 a (exo a C none)) (fun v H2 => v = .non ∧ Q (.ref a) H2) fun _ _ _ => False
/-- e.f of such a value -/
def tFv (K : PySem.W.Frag) (f : Str) (te : TE) : TE := fun σ H Q => te σ H fun x H1 => ∃ (a C dx : Addr) (fs : List (Str × V)) (v : V), x = .ref a ∧ XfC K C ∧ PySem.W.findIn K (.ref C) f = some none ∧
  H1 a = some (exo a C (some dx)) ∧ H1 dx = some (exd dx fs) ∧ fs.lookup f = some v ∧ Q v H1
/-- isinstance(e, c) of such a value -/
def rIsV (K : PySem.W.Frag) : List V → Hp → VK → Prop := fun vs H Q => ∃ (a C : Addr) (c : V) (u : Value) (b : Bool), vs = [.ref a, c] ∧ ExcC K C ∧ ((∃ dx fs, H a = some (exo a C (some dx)) ∧ H dx = some (exd dx fs)) ∨ H a = some (ExO (.ref C) a)) ∧
  ClsV c u ∧ PySem.W.kitOne K (.ref C) u = some b ∧ Q (.bl b) H
section
variable {X : Cx} {x : Str} {C fI : Addr} {k : Nat} {fd : FuncData} {ps : List Str} {sp : Sp} {e : Expr} {es : List Expr} {ta : TA} {te : TE} {p pos : Pos} {CX : CXT}
theorem pe_mkV (T : OexC X.K C) (hi : PySem.W.findIn X.K (.ref C) "__init__" = some (some (.ref fI))) (ht : PySem.W.typeIn X.K (.ref fI) = some (.type "function")) (F : FnOk X.prog X.w X.K X.mg X.base CX k fI fd ps sp)
    (room : Room (k + 1) X.A) (hb : Binds X.K fd ps []) (out : Passes CX X fun _ _ _ => False) (hg : Gl X x) (hm : X.mg x = some (.ref C)) (ha : PA X (e :: es) ta) (nd : (x == ("__debug__" : Str)) = false := by decide)
    (s1 : starEach (e :: es) X.env = (false, eval e X.env) :: starEach es X.env := by rfl) (s2 : (backTo pos (starEach es X.env)).any (·.1) = false := by rfl) : PE X (.Call (.Name x p) (e :: es) [] pos) (tMkV C sp ta) := by
  constructor
  intro pins s σ H Q I h
  obtain ⟨_, _, _, _, bm, _, _, _, _, _, _, _, _, _, _, look, isVE⟩ := T.cls
  refine wpAny_Call_Name_kw (ld_glob I hg hm (PySem.W.callWith_K (h₀ := X.base) I.ok.mod.kin T.kC (thn (ha.run pos pins s σ H _ I h) fun us sA hA => ?_) s1 s2) nd)
  obtain ⟨vs, H1, J, rv, few, wish⟩ := hA
  refine ⟨J.kIn, ?_⟩
  show wpAny _ _ (call (.ref C) us) _ _ _
  obtain ⟨hp, ge, dr, tk, os⟩ := sA
  have bound : hp.objs.size ≤ hp.objs.size + 1 := Nat.le_succ _
  have fresh : H1 (hp.objs.size + 1) = none := J.hok.fresh bound
  have goal := wish _ fresh
  have keep : ∀ b o, hp.get? b = some o → ((hp.push (PySem.W.kdv_tup us)).push (PySem.HandSPX.excO C hp.objs.size)).get? b = some o := fun b o z => Heap.get?_push_of_some _ (Heap.get?_push_of_some _ z)
  have there : ((hp.push (PySem.W.kdv_tup us)).push (PySem.HandSPX.excO C hp.objs.size)).get? (hp.objs.size + 1) = some (PySem.HandSPX.excO C hp.objs.size) := by heap_get
  have J2 : Inv X pins σ (upd H1 (hp.objs.size + 1) (exo (hp.objs.size + 1) C none)) ⟨(hp.push (PySem.W.kdv_tup us)).push (PySem.HandSPX.excO C hp.objs.size), ge, dr, tk, os⟩ := J.laid (t' := tk) keep bound (exo_ok there)
  have rv2 : Vals (V.ref (hp.objs.size + 1) :: vs) (Value.ref (hp.objs.size + 1) :: us) := .cons rfl rv
  have many : (Value.ref (hp.objs.size + 1) :: us).length = ps.length := rv2.length.symm.trans (F.len _ _ _ _ goal)
  have few' : us.length ≤ sizeLine := by
    have z := rv.length
    rw [sizeLine_eq]
    omega
  have bd : BindsTo ⟨(hp.push (PySem.W.kdv_tup us)).push (PySem.HandSPX.excO C hp.objs.size), ge, dr, tk, os⟩ fd ⟨Value.ref (hp.objs.size + 1) :: us, []⟩ (ps.zip (Value.ref (hp.objs.size + 1) :: us)) := by
    have z := hb ⟨(hp.push (PySem.W.kdv_tup us)).push (PySem.HandSPX.excO C hp.objs.size), ge, dr, tk, os⟩ (Value.ref (hp.objs.size + 1) :: us) J2.kIn (by rw [List.append_nil]; exact many)
    rw [List.append_nil] at z
    exact z
  refine wpAny_call (PySem.HandSPX.call_own PySem.F.excBase_ValueError (fun Y => PySem.HandSPX.refsVE_contains Y bm isVE) (J.kIn _ _ look) (PySem.W.looks_findIn J.kIn hi) (fun self => PySem.W.bind_fn J.kIn self ht) few' (codeAny_mono
    (F.run _ X.stack _ _ ⟨Value.ref (hp.objs.size + 1) :: us, []⟩ (Value.ref (hp.objs.size + 1) :: us) _ _ (fun _ _ _ => False) (room.make C us []) (J2.env0.make C us []) bd rv2 goal) fun r sB hB => ?_))
  cases r with
  | error er => exact out pins σ _ _ er sB J2 hB
  | ok fl =>
    cases fl with
    | next => exact hB.elim
    | brk => exact hB.elim
    | cont => exact hB.elim
    | ret u =>
      obtain ⟨v, H2, os2, bare2, un2, hok2, rw2, ev, q2⟩ := hB
      subst ev
      refine ⟨rw2, .ref (hp.objs.size + 1), H2, ?_, rfl, q2⟩
      obtain ⟨h2, g2, d2, t2, os'⟩ := sB
      have un1 : Un (frs X.stack) [] H1 H2 hp h2 := (Un.laid keep bound fresh).trans un2
      exact J.call' (ch := []) os2 un1 hok2 bare2 (fun b z => absurd z (by simp))
theorem pe_fv {n : Str} (he : PE X e te) (hb : attributeBase e n X.env (eval e X.env) = eval e X.env := by rfl) : PE X (.Attribute e n pos) (tFv X.K n te) := by
  constructor
  intro pins s σ H Q I h
  refine attr_of hb (thn (he.run pins s σ H _ I h) fun u sA hA => ?_)
  obtain ⟨y, H1, J, ry, a, C, dx, fs, v, rfl, T, no, ea, ed, l, q⟩ := hA
  cases (show u = Value.ref a from ry)
  obtain ⟨t1, oa⟩ := exo_at J.hok ea
  obtain ⟨mA, hns, rel⟩ := exd_at J.hok ed
  obtain ⟨od, ho, hl⟩ := lookIn_ns hns
  obtain ⟨u, hu, ru⟩ := RelO.some_of (v := v) (o := mA n) (by rw [← l]; exact rel n)
  exact HandSPX.exc_get J.kIn (⟨oa, rfl, rfl, ho⟩ : PySem.W.InstAt sA.heap a _ C (some od)) T.ga T.gg T.exC (PySem.W.findObj_own T.hdC no rfl (by rw [hl, hu])) (handed_of ru) ⟨v, H1, J.tok _, ru, q⟩
theorem call_isV : CallR X (.builtin "isinstance") (rIsV X.K) := by
  intro pins s σ H vs us Q I r h
  obtain ⟨a, C, c, u, b, rfl, T, what, kc, e, q⟩ := h
  obtain ⟨u1, u2, rfl, r1, r2⟩ := vals2 r
  cases (show u1 = Value.ref a from r1)
  cases kc.eq r2
  rcases what with ⟨dx, fs, ea, ed⟩ | ea
  · obtain ⟨t1, oa⟩ := exo_at I.hok ea
    obtain ⟨mA, hns, rel⟩ := exd_at I.hok ed
    obtain ⟨od, ho, hl⟩ := lookIn_ns hns
    exact PySem.W.kia_one (al_kitx T) I.kIn (⟨oa, rfl, rfl, ho⟩ : PySem.W.InstAt s.heap a _ C (some od)) e (fun z => nomatch z) fun tk => ⟨.bl b, H, I.tok tk, rfl, q⟩
  · obtain ⟨⟨oe, fv, oa, ⟨z1, z2⟩, z3, _⟩, _⟩ := I.hok a _ ea
    exact PySem.W.kia_one (al_kitx T) I.kIn (⟨oa, z1, by unfold PySem.W.notCls; rw [z3] <;> rfl, by rw [z2]; trivial⟩ : PySem.W.InstAt s.heap a oe C none) e (fun z => nomatch z) fun tk => ⟨.bl b, H, I.tok tk, rfl, q⟩
/-- C() of an own class over ValueError without __init__ -/
theorem pe_mkV0 {bmB : List Value} {B newId initId : String} (F : ExcBaseFacts B newId initId bmB) (ex : PySem.W.excIn X.K C bmB newId = true) (hm : X.mg x = some (.ref C)) (kp : PySem.W.keepIn X.K (.ref C) = true) (hg : Gl X x) (nd : (x == ("__debug__" : Str)) = false := by decide) :
    PE X (.Call (.Name x p) [] [] pos) (fun _ H Q => ∀ a, H a = none → Q (.ref a) (upd H a (ExO (.ref C) a))) := by
  constructor
  intro pins s σ H Q I h
  refine wpAny_Call_Name_kw (ld_glob I hg hm (PySem.W.callWith_K0 I.kIn kp ?_) nd)
  obtain ⟨bm, N, nm, qn, bs, hd, sn, sub, ab, col, dd, c0, c1, c2, c3, c5, mN, hC, hN, hni, T⟩ := exc_obj I.kIn ex
  obtain ⟨hp, ge, dr, tk, os⟩ := s
  refine wpAny_call_exc_subT F T hC hN hni (fun h2 a made => ?_) (Nat.zero_le _)
  have fresh : H a = none := I.hok.gone made.new
  obtain ⟨t, here, _, _⟩ := made.there
  exact ⟨.ref a, upd H a (ExO (.ref C) a), I.laidN (t' := tk) made.keeps made.new fresh (exO_ok here ⟨rfl, rfl⟩ rfl rfl rfl (show 4 < 6 by decide)), rfl, h a fresh⟩
end
end AL
set_option Elab.async false
set_option maxRecDepth 100000
set_option maxHeartbeats 2000000
/-! The end of a law whose def asks repr. -/
namespace AL
open PySem PySem.Spec PyProof.Rows L2
/-- the script's own object -/
def scrO (us : List Value) : Obj := { cls := .type "list", data := .seq us.toArray }
/-- the heap at the law's entry: the script alone, locked (or nothing, where it is the module's own) -/
def scrH (K : PySem.W.Frag) (a : Addr) (us : List Value) (ns : List Int) : Hp := fun b => if b = a ∧ K.lookup a = none then some (.frz (scrO us) (.lst (ns.map V.int))) else none
theorem scrH_some {K : PySem.W.Frag} {a b : Addr} {us : List Value} {ns : List Int} {u : HO} (h : scrH K a us ns b = some u) : b = a ∧ K.lookup a = none ∧ u = .frz (scrO us) (.lst (ns.map V.int)) := by
  unfold scrH at h
  split at h
  · rename_i c
    exact ⟨c.1, c.2, (Option.some.inj h).symm⟩
  · cases h
theorem lawG {P : Program} {w : World} {K : PySem.W.Frag} {mg mb : Str → Option Value} {CX : CXT} {k : Nat} {fa a : Addr} {fd : FuncData} {x : Str} {sp : Sp} {t : Shared} {us : List Value} {ns : List Int}
    (kin : K.In t.heap) (glb : t.heap.Ns mainGlobals mg) (blt : t.heap.Ns builtinsNs mb) (boot : ∀ y : Str, y ≠ "__name__" → mb y = bootBuiltins y) (free : t.heap.NoLimit) (noG : t.gens = #[])
    (at_a : t.heap.get? a = some (scrO us)) (isI : IntsAre us ns) (short : ns.length ≤ sizeLine) (room : Room k callerA)
    (F : ∀ base : Heap, K.In base → base.Ns mainGlobals mg → FnG P w K mg base CX k fa fd [x] sp) (bind : ∀ (s : Shared) (u : Value), BindsTo s fd ⟨[u], []⟩ [(x, u)])
    (wish : ∀ H : Hp, Only H → SqL K H a (ns.map V.int) → sp [.ref a] H (fun v _ => v = .bl true) fun _ _ _ => False)
    (noX : ∀ H e s', CX [] H t (fun _ _ _ => False) e s' → False) :
    codeAny (model P w) callerA (.call (.ref fa) ⟨[.ref a], []⟩) (fun r s' => r = .ok (.ret (.bool true)) ∧ OldK t.heap s'.heap ∧ s'.os = t.os ∧ AllBare s'.gens) t := by
  have vals := vals_ints isI
  have many := isI.length
  have only : Only (scrH K a us ns) := fun b => by
    cases e : scrH K a us ns b with
    | none => exact .inl rfl
    | some u =>
      obtain ⟨_, _, z⟩ := scrH_some e
      exact .inr ⟨_, _, congrArg some z⟩
  have seq : SqL K (scrH K a us ns) a (ns.map V.int) := by
    cases e : K.lookup a with
    | none => exact .inl (.inr ⟨scrO us, if_pos ⟨rfl, e⟩⟩)
    | some o =>
      have z := kin a o e
      rw [at_a] at z
      cases z
      exact .inr ⟨_, us.toArray, _, e, rfl, rfl, rfl, by rw [List.size_toArray, many]; exact short, vals⟩
  have held : HOk P w (scrH K a us ns) t.heap := fun b u e => by
    obtain ⟨rfl, _, rfl⟩ := scrH_some e
    exact ⟨at_a, by rw [List.length_map]; exact short, us, _, vals, at_a⟩
  have noDict : ∀ {b : Addr} {o : Obj} {es : Array DictEntry} {n : Nat}, t.heap.get? b = some o → o.data = .dict es n → scrH K a us ns b = none := by
    intro b o es n e1 e2
    cases e : scrH K a us ns b with
    | none => rfl
    | some u =>
      obtain ⟨rfl, _, _⟩ := scrH_some e
      rw [at_a] at e1
      cases e1
      cases e2
  have ns_of : ∀ {b : Addr} {m : Str → Option Value}, t.heap.Ns b m → (hidT t.heap (scrH K a us ns)).Ns b m := by
    rintro b m ⟨o, es, n, e1, e2, r⟩
    exact ⟨o, es, n, hidT_get e1 (noDict e1 e2), e2, r⟩
  have kin' : K.In (hidT t.heap (scrH K a us ns)) := fun b o e => hidT_get (kin b o e) (by
    cases z : scrH K a us ns b with
    | none => rfl
    | some u =>
      obtain ⟨rfl, n, _⟩ := scrH_some z
      rw [n] at e
      cases e)
  have modl : Mod K mg (hidT t.heap (scrH K a us ns)) := by
    obtain ⟨mc, f1, f2⟩ := free
    exact ⟨kin', ns_of glb, ⟨mb, ns_of blt, boot⟩, ⟨mc, ns_of f1, f2⟩⟩
  have env0 : Env0 P w K mg (hidT t.heap (scrH K a us ns)) callerA [] t (scrH K a us ns) :=
    ⟨rfl, modl, fun b o z => of_hidT z, Nat.le_of_eq (hidT_size _ _), trivial, fun b z => absurd (show b ∈ ([] : List Addr) from z) (by simp), held, .of_eq noG⟩
  refine codeAny_mono ((F _ kin' (ns_of glb)).run callerA [] t _ ⟨[.ref a], []⟩ [.ref a] [.ref a] _ _ rfl room env0 (bind t (.ref a)) (.cons rfl .nil) (wish _ only seq)) fun r s' z => ?_
  cases r with
  | error e => exact (noX _ e s' z).elim
  | ok fl =>
    cases fl with
    | next => exact z.elim
    | brk => exact z.elim
    | cont => exact z.elim
    | ret u =>
      obtain ⟨v, H', os, bare, un, held', rv, q⟩ := z
      cases (show v = .bl true from q)
      cases (show u = Value.bool true from rv)
      refine ⟨rfl, OldK.of_keep fun b o e => ?_, os, bare⟩
      cases c : scrH K a us ns b with
      | none => exact un.keep b o e c (fun z => absurd (show b ∈ ([] : List Addr) from z) (by simp)) (by simp)
      | some u2 =>
        obtain ⟨rfl, _, rfl⟩ := scrH_some c
        obtain ⟨e2, _⟩ := held' _ _ (un.frzs _ _ _ c)
        rw [at_a] at e
        cases e
        exact e2
theorem walkG {l : PySem.W.OpenLaw} {n k : Nat} {q : Program} {loose : List Str} {XP : (Str → Option Value) → Heap → Prop} {YP : World → Heap → Prop} {d : DefRec} {K : Params → PySem.W.Frag} {sp : PySem.W.Frag → Sp} {x : Str}
    (most : l.most = some n) (few : n ≤ sizeLine) (plain : d.params.defaults = []) (room : Room k callerA) (ky : ∀ (w : World) (h : Heap), YP w h → (K w.params).In h)
    (F : ∀ (w : World) (mg : Str → Option Value) (fa : Addr) (h : Heap), (K w.params).In h → h.Ns mainGlobals mg → mg d.name = some (.ref fa) → ∃ fd : FuncData, (∀ (s : Shared) (u : Value), BindsTo s fd ⟨[u], []⟩ [(x, u)]) ∧
      ∀ base : Heap, (K w.params).In base → base.Ns mainGlobals mg → FnG l.prog w (K w.params) mg base CX0 k fa fd [x] (sp (K w.params)))
    (wish : ∀ (K : PySem.W.Frag) (H : Hp) (a : Addr) (ns : List Int), ns.length ≤ n → Only H → SqL K H a (ns.map V.int) → sp K [.ref a] H (fun v _ => v = .bl true) fun _ _ _ => False) :
    PySem.W.WalkO q loose XP YP l.row.toRowW d [] (fun f vs => PySem.call f vs) := by
  refine Att.attach_call most plain ?_
  intro w s0 t mg mb fa o pm cd doc a us ns G Y ho hd hcd hmg at_a isI many noG
  obtain ⟨fd, bind, ok⟩ := F w mg fa _ (ky w _ Y) G.T.g hmg
  exact lawG (ky w _ Y) G.T.g G.T.b G.T.builtins G.T.nolimit noG at_a isI (Nat.le_trans many few) room ok bind (fun H o1 o2 => wish (K w.params) H a ns many o1 o2) fun _ _ _ z => z.elim
end AL
set_option Elab.async false
set_option maxRecDepth 100000
set_option maxHeartbeats 2000000
/-! Own error classes of the program: what the top writes of them, as one Bool a class. -/
namespace AL
open PySem PySem.Spec PyProof.Rows L2
/-- all that is asked of an own error class, but its row -/
def errB (K : PySem.W.Frag) (C : Addr) (fs : List Str) : Bool :=
  decide (PySem.W.findIn K (.ref C) "__setattr__" = some (some (.builtin "object.__setattr__"))) && (decide (PySem.W.subIn K (.ref C) (.type "BaseException") = some true) && (decide (PySem.W.typeIn K (.ref C) = some (.type "type")) && (PySem.W.keepIn K (.ref C) &&
  (xfB K C && (decide (PySem.W.findIn K (.ref C) "__class__" = some (some (.builtin "object.__class__"))) && (decide (PySem.W.specialIn K (.builtin "object.__class__") "__get__" = some (some (.builtin "getset_descriptor.__get__"))) &&
  (decide (PySem.W.takesIn K (.builtin "object.__class__") = some true) && (decide (PySem.W.mroIn K C (.type "object") = some true) && fs.all fun f => decide (PySem.W.findIn K (.ref C) f = some none)))))))))
structure ErrT (K : PySem.W.Frag) (mg : Str → Option Value) (x : Str) (C : Addr) (fs : List Str) : Prop where
  oex : OexC K C
  xf : XfC K C
  ex : ExcC K C
  m : mg x = some (.ref C)
  no : ∀ f ∈ fs, PySem.W.findIn K (.ref C) f = some none
theorem errT_of {K : PySem.W.Frag} {mg : Str → Option Value} {x : Str} {C : Addr} {fs : List Str} {nm q : Str} {N : Addr} {bs bm : List Value} {sn : List Str} {sub : List Value} {ab : Bool} {col : Option Bool} {dd : Option Addr} {k0 k1 k2 k3 k5 : Option Value}
    (row : K.lookup C = some (excClassObj nm q C N bs bm true sn sub ab col dd k0 k1 k2 k3 k5 "ValueError.__new__")) (bmo : PySem.HandSPX.refsVE bm = true) (m : mg x = some (.ref C)) (b : errB K C fs = true) : ErrT K mg x C fs := by
  unfold errB at b
  simp only [Bool.and_eq_true, decide_eq_true_eq, List.all_eq_true] at b
  obtain ⟨b1, b2, b3, b4, b5, b6, b7, b8, b9, b10⟩ := b
  have X := xfB_ok b5
  exact ⟨⟨⟨_, _, _, _, _, _, _, _, _, _, _, _, _, _, _, row, bmo⟩, b1, b2, b3, b4⟩, X, ⟨X.ga, X.gg, b2, X.hdC, b6, b7, b8, b9⟩, m, b10⟩
/-- its own __init__ -/
structure IniT (K : PySem.W.Frag) (qual : Str) (st : Stmt) (ps : List Str) (C fI : Addr) (fd : FuncData) : Prop where
  F : Fun K "__init__" qual st fI fd
  b : Binds K fd ps []
  fi : PySem.W.findIn K (.ref C) "__init__" = some (some (.ref fI))
  ti : PySem.W.typeIn K (.ref fI) = some (.type "function")
/-- __init__(self, f1, ..): the fields are stored -/
def spIni (C : Addr) (fs : List Str) : Sp := fun vs H Q _ => ∃ (a : Addr) (ys : List V), vs = .ref a :: ys ∧ ys.length = fs.length ∧ H a = some (exo a C none) ∧
  ∀ (dx : Addr) (H' : Hp), H dx = none → dx ≠ a → H' a = some (exo a C (some dx)) → H' dx = some (exd dx (fs.zip ys).reverse) → (∀ b, b ≠ a → b ≠ dx → H' b = H b) → Q .non H'
/-- an error of the class at C stands at e -/
def EV (H : Hp) (e C : Addr) : Prop := (∃ dx fs, H e = some (exo e C (some dx)) ∧ H dx = some (exd dx fs)) ∨ H e = some (ExO (.ref C) e)
theorem EV.same {H H' : Hp} {e C : Addr} (h : EV H e C) (s : Same H H') : EV H' e C := by
  rcases h with ⟨dx, fs, h1, h2⟩ | h
  · exact .inl ⟨dx, fs, s _ _ h1, s _ _ h2⟩
  · exact .inr (s _ _ h)
theorem vi_eq {i j : Nat} (h : decide (V.int (i : Int) = V.int (j : Int)) = true) : i = j := by
  have z := of_decide_eq_true h
  injection z with z
  omega
theorem vi_ne {i j : Nat} (h : ¬ decide (V.int (i : Int) = V.int (j : Int)) = true) : i ≠ j := fun e => h (by subst e; exact decide_eq_true rfl)
end AL
set_option Elab.async false
set_option maxRecDepth 100000
set_option maxHeartbeats 4000000
/-! Own errors raised, and caught by several clauses with a name each. -/
namespace AL
open PySem PySem.Spec PyProof.Rows L2
theorem pa_mono {X : Cx} {es : List Expr} {ta : TA} (h : PA X es ta) : PA X es (fun σ H K => ∃ K0 : List V → Hp → Prop, ta σ H K0 ∧ ∀ vs H', K0 vs H' → K vs H') :=
  ⟨fun pos pins s σ H K I ⟨K0, z, i⟩ => thn (h.run pos pins s σ H K0 I z) fun _ _ ⟨vs, H', J, r, q⟩ => ⟨vs, H', J, r, i vs H' q⟩⟩
/-- a weaker reading of what makes an exception -/
theorem pmk_imp {X : Cx} {e : Expr} {t u : L2.St → Hp → XK → Prop} (h : PMk X e t) (i : ∀ σ H Q, u σ H Q → t σ H Q) : PMk X e u := fun pins s σ H Q I z => h pins s σ H Q I (i σ H Q z)
/-- raise C(e, ..): the fields lie in the error's own dict -/
def tRaise (C : Addr) (fs : List Str) (W : WX) (ta : TA) : TS := fun _ σ H => ta σ H fun vs H1 => vs.length = fs.length ∧ ∀ d, H1 d = none → W (.ref C) (some d) σ (upd H1 d (.xd (fs.zip vs).reverse))
section
variable {X : Cx} {x : Str} {C fI : Addr} {fd : FuncData} {ps fs : List Str} {e : Expr} {es : List Expr} {ta : TA} {p pos pos2 : Pos} {k : Nat} {W : WX} {qual : Str} {st : Stmt}
theorem ps_raiseC (calm : X.calm = true) (tk : Takes X W) (T : ErrT X.K X.mg x C fs) (J : IniT X.K qual st ps C fI fd) (F : FnOk X.prog X.w X.K X.mg X.base CX0 k fI fd ps (spIni C fs)) (room : Room (k + 1) X.A) (few : fs.length ≤ 1000) (hg : Gl X x) (ha : PA X (e :: es) ta)
    (nd : (x == ("__debug__" : Str)) = false := by decide) (s1 : starEach (e :: es) X.env = (false, eval e X.env) :: starEach es X.env := by rfl) (s2 : (backTo pos (starEach es X.env)).any (·.1) = false := by rfl) :
    PS X (.Raise (some (.Call (.Name x p) (e :: es) [] pos)) none pos2) (tRaise C fs W ta) := by
  have out : Passes CX0 X fun _ _ _ => False := fun _ _ _ _ _ _ _ z => z.elim
  refine ps_raise (t := fun σ H Q => ta σ H fun vs H1 => vs.length = fs.length ∧ ∀ d, H1 d = none → Q (.ref C) (some d) (upd H1 d (.xd (fs.zip vs).reverse))) calm tk (pmk_imp (pmk_oex T.oex J.fi J.ti F room J.b .nil out hg T.m (pa_mono ha) nd s1 s2) ?_)
  intro σ H Q h
  refine ⟨_, h, ?_⟩
  rintro vs H1 ⟨many, q⟩
  refine ⟨by omega, fun a fresh => ?_⟩
  rw [List.append_nil]
  refine ⟨a, vs, rfl, many, upd_same, fun dx H' hd hne e1 e2 kp => ⟨rfl, dx, _, e1, e2, ?_, ?_⟩⟩
  · rw [upd_ne hne] at hd; exact hd
  · have hd1 : H1 dx = none := by rw [upd_ne hne] at hd; exact hd
    have same : upd (del H' a) dx (.xd (fs.zip vs).reverse) = upd H1 dx (.xd (fs.zip vs).reverse) := by
      funext b
      by_cases hb : b = dx
      · rw [hb, upd_same, upd_same]
      · rw [upd_ne hb, upd_ne hb]
        by_cases hba : b = a
        · rw [hba, del_same, fresh]
        · rw [del_ne hba, kp b hba hb, upd_ne hba]
    rw [same]
    exact q dx hd1
end
/-! ### try: .., except X as n: .., except Y as m: .. -/
/-- a clause: its class, its name's slot, its suite's reading -/
abbrev Cl := Value × Nat × (Addr → Value → Option Addr → TS)
/-- behind a suite its name is gone -/
def Ends.less (D : Ends) (i : Nat) : Ends := { nx := fun σ H => D.nx (σ.set i none) H, rt := D.rt, bk := fun σ H => D.bk (σ.set i none) H, ct := fun σ H => D.ct (σ.set i none) H }
def wNamed (K : PySem.W.Frag) (W0 : WX) (D : Ends) : List Cl → WX
  | [] => W0
  | (c, i, ts) :: r => fun cls d σ H => ∃ b, PySem.W.exmOne K cls c = some b ∧ (b = true → ∀ a, H a = none → ts a cls d (Ends.less D i) (σ.set i (some (.ref a))) H) ∧ (b = false → wNamed K W0 D r cls d σ H)
inductive Named (X : Cx) : List ExceptHandler → List Cl → Prop
  | nil : Named X [] []
  | cons {x n : Str} {c : Value} {i : Nat} {ts : Addr → Value → Option Addr → TS} {b0 : Stmt} {rest : List Stmt} {q1 q2 : Pos} {hd : List ExceptHandler} {l : List Cl} (cl : Names X x c) (sl : X.N[i]? = some n) (lo : X.env.kindOf n = some .local)
      (su : ∀ (a : Addr) (oe : Obj) (cls : Value) (d : Option Addr) (pn : List (Addr × Obj)), Zc cls d oe → (∃ vs, oe.data = .fields vs) → PSs (X.suite a ((a, oe) :: pn)) (b0 :: rest) (ts a cls d)) (r : Named X hd l) :
      Named X (.ExceptHandler (some (.Name x q1)) (some n) (b0 :: rest) q2 :: hd) ((c, i, ts) :: l)
section
variable {X : Cx} {body : List Stmt} {h0 : ExceptHandler} {hd : List ExceptHandler} {l : List Cl} {pos : Pos} {tb : WX → TS} {W0 : WX}
theorem ps_tryN (stk : X.stack = X.env :: X.outer) (frm : X.env.frame = some X.env.locals) (nd : X.N.Nodup) (tk : Takes X W0)
    (inner : ∀ (W : WX) (pn : List (Addr × Obj)) (xe : Value → Shared → Prop), Takes (X.tr pn xe) W → PassesOwn (model X.prog X.w) X.A X.env xe → PSs (X.tr pn xe) body (tb W)) (cls : Named X (h0 :: hd) l) :
    PS X (.Try body (h0 :: hd) [] [] pos) (fun D σ H => tb (wNamed X.K W0 D l) D σ H) := by
  constructor
  intro pins s σ H D I h
  have frames : X.A.frames = some (X.env :: X.outer) := by rw [I.ok.frames, stk]
  let back : Value → Shared → Prop := fun e t1 => wpAny (model X.prog X.w) X.A (noteFrame e X.env) (fun _ t2 => wpAny (model X.prog X.w) X.A (setFlight e none) (fun _ t3 => wpAny (model X.prog X.w) X.A (handleBy e X.env (h0 :: hd)) (SP X pins D) X.xe t3) X.xe t2) X.xe t1
  have caught : ∀ u t, XE (X.tr (X.pn ++ pins) back) (wNamed X.K W0 D l) u t → back u t := by
    rintro u t ⟨a, B, t0, pins0, σ1, H1, ec, ed, rfl, J0, ground, up, sky, fresh, oss, bare, wish⟩
    have J : Inv X pins σ1 H1 t0 := J0.ofTry I.ok
    have sky1 : Sky B (X.env :: X.outer) a (Zc ec ed) X.env.locals t.heap := by rw [← stk]; exact sky
    show wpAny (model X.prog X.w) X.A (noteFrame (.ref a) X.env) _ _ _
    refine Sky.land Zc.steady frames frm sky1 fun g3 fl3 up3 => ?_
    have J3 : Inv X pins σ1 H1 { t with heap := g3 } := J.landed ground fl3.1 (up.trans up3) oss bare
    obtain ⟨o3, v3, at3, z3, dat3⟩ := fl3.there
    have apart : a ∉ frs (X.env :: X.outer) := fun m => by
      obtain ⟨_, o', e', no⟩ := fl3.2.2.1.mem m
      rw [at3] at e'
      cases e'
      exact no _ dat3
    have notL : a ≠ X.env.locals := fun z => apart (List.mem_filterMap.mpr ⟨X.env, List.mem_cons_self, by rw [frm, z]⟩)
    have notF : a ∉ X.fs := fun m => by
      obtain ⟨en, hen, q⟩ := List.mem_filterMap.mp m
      exact apart (List.mem_filterMap.mpr ⟨en, List.mem_cons_of_mem _ hen, q⟩)
    have S3 := J3.suite at3 dat3 fresh notL notF
    suffices all : ∀ {hd' : List ExceptHandler} {l' : List Cl}, Named X hd' l' → wNamed X.K W0 D l' ec ed σ1 H1 → wpAny (model X.prog X.w) X.A (handleBy (.ref a) X.env hd') (SP X pins D) X.xe { t with heap := g3 } from all cls wish
    intro hd' l' nm
    induction nm with
    | nil =>
      intro w0
      refine wpAny_handleBy_nil ?_
      obtain ⟨_, _, _, oe, fv, T, oT, ts', he, hz, hdt, h1, _⟩ := id fl3
      unfold PySem.passOn
      refine wpAny_bind (wpAny_field he hdt h1 ?_)
      have notNone : ¬ ((Value.ref T == Value.none) = true) := by simp
      rw [if_neg notNone]
      have fly : wpAny (model X.prog X.w) X.A (setFlight (.ref a) X.env.frame) (fun _ t4 => wpAny (model X.prog X.w) X.A (throw (.ref a) : Sem Flow) (SP X pins D) X.xe t4) X.xe { t with heap := g3 } := by
        rw [frm]
        exact HandSPX.setFlight_upZ fl3 fun g4 held up4 => wpAny_throw (tk _ _ ⟨a, B, t0, pins, σ1, H1, ec, ed, rfl, J, ground, (up.trans up3).trans up4, .inr (.inr (by rw [stk]; exact held)), fresh, oss, bare, w0⟩)
      first
        | exact wpAny_bind (wpAny_pure (wpAny_bind fly))
        | exact wpAny_bind fly
    | @cons x n c i ts b0 rest q1 q2 hd2 l2 cl sl lo su r ih =>
      rintro ⟨b, isb, yes, no⟩
      refine wpAny_handleBy_cons (codeAny_handlers_test ?_) (by intro q; cases q)
      have LT : PySem.W.Looks (model X.prog X.w) g3 (typeOf (.ref a)) ec := fun A' Q' E' s' k' q' => wpAny_typeOf_ref (k' _ _ at3) (by rw [z3.1]; exact q')
      have LM := PySem.W.exm_one (M := model X.prog X.w) (J3.kIn) LT isb
      have asks : ∀ {Q' : Value → Shared → Prop} {E' : Value → Shared → Prop}, Q' c { t with heap := g3 } → wpAny (model X.prog X.w) (X.A.mark (some (.ref a))) (eval (.Name x q1) X.env) Q' E' { t with heap := g3 } := by
        intro Q' E' q'
        obtain ⟨gl, nodb, known⟩ := cl
        rcases known with hm | ⟨hm, hv, hnn⟩
        · exact ld_glob (X := X.suite a ((a, o3) :: (X.pn ++ pins))) S3 gl hm q' nodb
        · exact ld_blt (X := X.suite a ((a, o3) :: (X.pn ++ pins))) S3 gl hm hv q' hnn nodb
      refine asks (LM.here ?_)
      cases b with
      | false =>
        show wpAny _ X.A (handleBy (.ref a) X.env hd2) _ _ _
        exact ih (no rfl)
      | true =>
        refine codeAny_handlers_suite_as (HandSPX.lands_againZ fl3 fun g4 fl4 up4 => ?_)
        have J4 : Inv X pins σ1 H1 { t with heap := g4 } := J.landed ground fl4.1 ((up.trans up3).trans up4) oss bare
        obtain ⟨o4, v4, at4, z4, dat4⟩ := fl4.there
        have S4 := J4.suite at4 dat4 fresh notL notF
        refine store_ok (X := X.suite a ((a, o4) :: (X.pn ++ pins))) (v := .ref a) S4 nd sl (.inl lo) rfl (fun t5 S5 => ?_) (.inr lo)
        refine wpAny_mono ((su a o4 ec ed (X.pn ++ pins) z4 ⟨_, dat4⟩).run [] t5 _ H1 _ S5 (yes rfl a fresh)) (fun fl6 t6 sp6 => ?_) (fun _ _ z => False.elim z)
        have over : ∀ {σ6 : L2.St} {H6 : Hp} {Q6 : Shared → Prop}, Inv (X.suite a ((a, o4) :: (X.pn ++ pins))) [] σ6 H6 t6 → (∀ t7, Inv X pins (σ6.set i none) H6 t7 → Q6 t7) →
            wpAny (model X.prog X.w) X.A (do bindName X.env n .none; unbindBehindTheSuite X.env n q2) (fun _ t7 => Q6 t7) X.xe t6 := fun S6 q6 => gone_ok (S6.unsuite I.ok) nd sl lo q6
        cases fl6 with
        | next => obtain ⟨σ6, H6, S6, q6⟩ := sp6; exact over S6 fun t7 J7 => ⟨_, _, J7, q6⟩
        | brk => obtain ⟨σ6, H6, S6, q6⟩ := sp6; exact over S6 fun t7 J7 => ⟨_, _, J7, q6⟩
        | cont => obtain ⟨σ6, H6, S6, q6⟩ := sp6; exact over S6 fun t7 J7 => ⟨_, _, J7, q6⟩
        | ret u => obtain ⟨v6, σ6, H6, S6, r6, q6⟩ := sp6; exact over S6 fun t7 J7 => ⟨_, _, _, J7, r6, q6⟩
  refine wpAny_Try_except (wpAny_mono ((inner (wNamed X.K W0 D l) (X.pn ++ pins) back caught PassesOwn.looking).run [] s σ H D (I.toTry _) h) (fun fl t sp => ?_) (fun _ _ z => z))
  cases fl with
  | next => obtain ⟨σ', H', J', q⟩ := sp; exact wpAny_execs_nil ⟨σ', H', J'.ofTry I.ok, q⟩
  | brk => obtain ⟨σ', H', J', q⟩ := sp; exact ⟨σ', H', J'.ofTry I.ok, q⟩
  | cont => obtain ⟨σ', H', J', q⟩ := sp; exact ⟨σ', H', J'.ofTry I.ok, q⟩
  | ret u => obtain ⟨v, σ', H', J', r, q⟩ := sp; exact ⟨v, σ', H', J'.ofTry I.ok, r, q⟩
end
/-- isinstance(e, c) in the suite, e the error with its own dict -/
def rIsS (K : PySem.W.Frag) (a C dx : Addr) : List V → Hp → VK → Prop := fun vs H Q => ∃ (c : V) (u : Value) (b : Bool), vs = [.ref a, c] ∧ ClsV c u ∧ (∃ fs, H dx = some (.xd fs)) ∧ PySem.W.kitOne K (.ref C) u = some b ∧ Q (.bl b) H
theorem call_isS {X : Cx} {a C dx : Addr} {oe : Obj} {pn : List (Addr × Obj)} (T : ExcC X.K C) (hz : Zc (.ref C) (some dx) oe) (hf : ∃ vs, oe.data = .fields vs) : CallR (X.suite a ((a, oe) :: pn)) (.builtin "isinstance") (rIsS X.K a C dx) := by
  intro pins s σ H vs us Q I r h
  obtain ⟨c, u, b, rfl, kc, ⟨fs, hd⟩, e, q⟩ := h
  obtain ⟨u1, u2, rfl, r1, r2⟩ := vals2 r
  cases (show u1 = Value.ref a from r1)
  cases kc.eq r2
  obtain ⟨here, _⟩ := I.pin (a, oe) (List.mem_append.mpr (.inl List.mem_cons_self))
  obtain ⟨fv, hv⟩ := hf
  have at_d : ObjOk X.prog X.w H s.heap dx (.xd fs) := I.hok dx _ hd
  obtain ⟨mA, hns, _⟩ := at_d
  obtain ⟨od, ho, _⟩ := lookIn_ns hns
  have J : PySem.W.InstAt s.heap a oe C (some od) := ⟨here, hz.1, by unfold PySem.W.notCls; rw [hv] <;> rfl, by rw [hz.2]; exact ho⟩
  exact PySem.W.kia_one (al_kitx T) I.kIn J e (fun z => nomatch z) fun tk => ⟨.bl b, H, I.kept (t' := tk) fun _ _ z => z, rfl, q⟩
end AL
set_option Elab.async false
set_option maxRecDepth 100000
set_option maxHeartbeats 4000000
/-! isinstance of a caught own error, its class told where it is read. -/
namespace AL
open PySem PySem.Spec PyProof.Rows L2
def rIsC (K : PySem.W.Frag) (a C : Addr) (cls : Value) (d : Option Addr) : List V → Hp → VK → Prop := fun vs H Q => cls = .ref C ∧ ∃ (dx : Addr), d = some dx ∧ rIsS K a C dx vs H Q
theorem call_isC2 {X : Cx} {a C : Addr} {cls : Value} {d : Option Addr} {oe : Obj} {pn : List (Addr × Obj)} (T : ExcC X.K C) (hz : Zc cls d oe) (hf : ∃ vs, oe.data = .fields vs) : CallR (X.suite a ((a, oe) :: pn)) (.builtin "isinstance") (rIsC X.K a C cls d) := by
  intro pins s σ H vs us Q I r h
  obtain ⟨rfl, dx, rfl, h⟩ := h
  exact call_isS T hz hf pins s σ H vs us Q I r h
end AL
namespace AL
open PySem PySem.Spec PyProof.Rows L2
theorem op_eqS {X : Cx} {a : Addr} {oe : Obj} {pn : List (Addr × Obj)} (hu : X.A.units + 64 < cLine) : OpR (X.suite a ((a, oe) :: pn)) (compareOp .Eq) (rEqD X.K) := op_eqD hu
end AL
set_option Elab.async false
set_option maxRecDepth 100000
set_option exponentiation.threshold 20000
set_option maxHeartbeats 4000000
/-! int(text) and str(int) of up to 4,300 digits, // of ints of any size. -/
namespace PySem
open PySem.W PySem.Calls PySem.NumText PyProof.Rows
theorem al_wp_text {M : Model} {A : Around} {E : Value → Shared → Prop} {s : Shared} {Q : Value → Shared → Prop} {v : Value} {x : Str} {n : Int} (nd : s.heap.NoDigits)
    (rd : (int_private% "readNumeral") (numLimitOf x) 10 (numSeenOf x) = (int_private% "Numeral.value") n) (whole : ((numSeenOf x).length == (numTextOf x).length) = true) (h : Q (.int n s.toks) { s with toks := s.toks + 1 }) :
    wpAny M A ((int_private% "intFromText") v (numTextOf x) 10) Q E s := by
  by_cases short : (numSeenOf x).length ≤ 640
  · have e : numLimitOf x = 0 := if_pos short
    rw [e] at rd
    exact PySem.W.KIN.wp_text short rd whole h
  · have e : numLimitOf x = 4300 := if_neg short
    rw [e] at rd
    obtain ⟨mc, hns, hnone⟩ := nd
    obtain ⟨hp, ge, dr, tk, os⟩ := s
    have lim : ∀ {Q' : Nat → Shared → Prop}, Q' 4300 ⟨hp, ge, dr, tk, os⟩ → wpAny M A Builtin.intMaxStrDigits Q' E ⟨hp, ge, dr, tk, os⟩ := by
      intro Q' q'
      unfold Builtin.intMaxStrDigits
      refine wpAny_bind (wpAny_nsGet hns ?_)
      rw [hnone]
      exact wpAny_pure q'
    repeat (any_goals (first
      | assumption
      | (with_reducible refine wpAny_ite_false (decide_eq_false short) ?_)
      | (with_reducible refine wpAny_ite_true (decide_eq_true whole) ?_)
      | (with_reducible refine lim ?_)
      | wp_step))
    all_goals (try rw [rd])
    all_goals (try dsimp only)
    repeat (any_goals (first
      | assumption
      | (with_reducible refine wpAny_ite_true (decide_eq_true whole) ?_)
      | wp_step))

theorem al_meets_text {x : PySem.Str} {u : Tok} {n : Int} (hx : x.length ≤ sizeLine) (hn : PySem.intText? x = some n) :
    Meets (Builtin.«int.__new__» ⟨[.type "int", .str x u], []⟩) (fun _ R s => s.heap.NoDigits ∧ R (.ok (.ret (.int n s.toks))) { s with toks := s.toks + 1 }) := by
  intro prog w A R s h
  have f1 := F.conv_sub_int
  have f2 := F.madeHere_int
  have f3 := PySem.W.KIN.str_int
  have f4 := PySem.W.KIN.str_idx
  have f5 := PySem.W.KIN.str_trunc
  have f6 : typeOf (.str x u) = pure (.type "str") := rfl
  have rd : (int_private% "readNumeral") (numLimitOf x) 10 (numSeenOf x) = (int_private% "Numeral.value") n ∧ ((numSeenOf x).length == (numTextOf x).length) = true := by
    rcases readAny x hx with ⟨m, h1, h2, h3⟩ | ⟨h1, _⟩
    · rw [hn] at h1
      cases h1
      exact ⟨h3, h2⟩
    · rw [hn] at h1
      cases h1
  have kept := PySem.W.KIN.Hid.mk (And.intro rd h)
  clear rd h hn hx
  obtain ⟨hp, ge, dr, tk, os⟩ := s
  repeat (any_goals (first
    | assumption
    | ((with_reducible show wpAny _ _ ((int_private% "intFromText") _ _ _) _ _ _); refine al_wp_text kept.out.2.1 kept.out.1.1 kept.out.1.2 ?_)
    | wp_step))
  all_goals first | exact kept.out.2.2 | skip
section
variable {prog : Program} {w : World} {A : Around} {E : Value → Shared → Prop} {s : Shared} {Q : Value → Shared → Prop} {x : PySem.Str} {t : Tok} {n : Int}
theorem al_call_text (nd : s.heap.NoDigits) (hx : x.length ≤ sizeLine) (hn : PySem.intText? x = some n) (h : Q (.int n s.toks) { s with toks := s.toks + 1 }) : wpAny (model prog w) A (call (.type "int") [.str x t]) Q E s :=
  call_int_1 (al_meets_text hx hn) ⟨nd, typeIs_int _ _ _, h⟩
end
end PySem
namespace AL
open PySem PySem.Spec PyProof.Rows L2
/-- the limit on digits is as it came -/
def digB (K : PySem.W.Frag) : Bool := decide (PySem.W.nsIn K cStatics "sys.int_max_str_digits" = some none)
theorem noDigits_of {K : PySem.W.Frag} {h : Heap} (X : K.In h) (lim : h.NoLimit) (b : digB K = true) : h.NoDigits := by
  obtain ⟨mc, ns, _⟩ := lim
  refine ⟨mc, ns, ?_⟩
  have e := of_decide_eq_true b
  obtain ⟨o, es, n, ho, hd, _, look⟩ := ns
  unfold PySem.W.nsIn at e
  split at e
  · rename_i c d es' n' sl at_
    have z := (X _ _ at_).symm.trans ho
    cases z
    cases hd
    split at e
    · cases e
    · rename_i none_
      rw [← look]
      unfold nsFind findBy
      rw [← Array.find?_toList, none_]; rfl
  · cases e
section
variable {X : Cx} {k : Nat}
theorem call_int_strL (b : digB X.K = true) : CallR X (.type "int") (fun xs H Q => ∃ a n, xs = [.str a] ∧ PySem.intText? a = some n ∧ a.length ≤ sizeLine ∧ Q (.int n) H) := by
  intro pins s σ H xs us Q I r h
  obtain ⟨a, n, rfl, hn, hl, q⟩ := h
  obtain ⟨u, rfl, t, rfl⟩ := vals1 r
  exact al_call_text (noDigits_of I.kIn I.nolimit b) hl hn ⟨.int n, H, I.tok _, ⟨_, rfl⟩, q⟩
theorem call_str_intL (hd : X.A.handled = none) (b : digB X.K = true) : CallR X (.type "str") (fun xs H Q => ∃ i, xs = [.int i] ∧ i.natAbs < 10 ^ 4300 ∧ Q (.str (toString i)) H) := by
  intro pins s σ H xs us Q I r h
  obtain ⟨i, rfl, hz, q⟩ := h
  obtain ⟨u, rfl, t, rfl⟩ := vals1 r
  exact str_of_int_or hd (noDigits_of I.kIn I.nolimit b) (fun _ => ⟨.str _, H, I.tok _, ⟨_, rfl⟩, q⟩) (fun z => absurd hz (Nat.not_lt.mpr z))
/-- // of an int below 2 ^ 13500 by any divisor but 0 -/
def CDivB (i j : Int) : Prop := j ≠ 0 ∧ i.natAbs < 2 ^ 13500
theorem noPylong_big {i j : Int} (h : i.natAbs < 2 ^ 13500) : Builtin.divisionGoesByPylong i j = false := by
  have hl : i.natAbs.log2 < 13500 := log2_small (by decide) h
  have key : ((if j == 0 then 0 else j.natAbs.log2 / 30 + 1) > 300) → ¬ ((if i == 0 then 0 else i.natAbs.log2 / 30 + 1) > (if j == 0 then 0 else j.natAbs.log2 / 30 + 1) + 150) := by
    intro h1 h2
    split at h2 <;> omega
  show (decide ((if j == 0 then 0 else j.natAbs.log2 / 30 + 1) > 300) && decide ((if i == 0 then 0 else i.natAbs.log2 / 30 + 1) > (if j == 0 then 0 else j.natAbs.log2 / 30 + 1) + 150)) = false
  by_cases h1 : (if j == 0 then 0 else j.natAbs.log2 / 30 + 1) > 300
  · rw [decide_eq_false (key h1), Bool.and_false]
  · rw [decide_eq_false h1, Bool.false_and]
theorem op_fdivB : OpR X (binaryOp .FloorDiv) (rI CDivB fun i j => .int (i.fdiv j)) := by
  intro pins s σ H x y v u Q I rx ry h
  obtain ⟨i, j, rfl, rfl, ⟨hj, hi⟩, q⟩ := h
  obtain ⟨t, rfl⟩ := rx
  obtain ⟨t', rfl⟩ := ry
  exact floordiv_int hj ⟨.int _, H, I.tok _, ⟨_, rfl⟩, q⟩ (.inl (noPylong_big hi))
end
end AL
set_option Elab.async false
set_option maxRecDepth 100000
set_option exponentiation.threshold 70000
set_option maxHeartbeats 4000000
/-! {i} of an int up to 4,300 digits; // where one side is small. -/
namespace PySem
open PySem.W PySem.Calls PySem.NumText PyProof.Rows PySem.Builtin PySem.Builtin.Int
theorem al_repr_at {a : Int} {t : Tok} (h : a.natAbs < 10 ^ 4300) : GivesAt (fun s => s.heap.NoDigits) (Builtin.«int.__repr__» ⟨[.int a t], []⟩) (.str (toString a)) := by
  intro prog w A R s hn hq
  unfold Builtin.«int.__repr__»
  show wpAny _ _ (do let r ← Builtin.overDigitLimit? a; _) _ _ s
  refine wpAny_bind (overDigitLimit_any hn (fun hlt => ?_) (fun hge => absurd h (Nat.not_lt.mpr hge)))
  exact wpAny_bind (wpAny_mkStr (wpAny_pure hq.2) (int_text_fits10 hlt))
theorem al_format_at {a : Int} {t u : Tok} (h : a.natAbs < 10 ^ 4300) : GivesAt (fun s => s.heap.NoDigits) (Builtin.«int.__format__» ⟨[.int a t, .str Str.empty u], []⟩) (.str (toString a)) := by
  intro prog w A R s hn hq
  show wpAny _ _ (do let _kind ← typeNameOf (.str Str.empty u); (do rule "int.format.empty"; again (.builtin "int.__repr__" ⟨[.int a t], []⟩))) _ _ s
  refine wpAny_bind (wpAny_typeNameOf (typeIs_str s _ _) (by decide) fun n => wpAny_bind (wpAny_rule ?_))
  exact wpAny_pure ⟨plainId_quiet (by decide +kernel) _, codeAny_builtin F.entry_int_repr (by rw [Around.under_plainId (by decide +kernel)]; exact al_repr_at h prog w A R s hn hq)⟩
section
variable {w : World} {prog : Program} {s : Shared} {E Q : Value → Shared → Prop} {A : Around} {i : Int} {t : Tok}
theorem al_formatField (free : s.heap.NoDigits) (short : i.natAbs < 10 ^ 4300) (goal : Q (.str (toString i) (s.toks + 1)) { s with toks := s.toks + 1 + 1 }) : wpAny (model prog w) A (formatField (.int i t) Str.empty) Q E s := by
  have text : ∀ s' : Shared, s'.TypeIs (.int i t) "int" := fun s' => typeIs_int s' i t
  refine (wpAny_holding ?_ : wpAny (model prog w) A (holding [.int i t] (pyFormat (.int i t) Str.empty)) Q E s)
  unfold pyFormat
  refine wpAny_bind (wpAny_mkStr (wpAny_bind (m := callSpecial? (.int i t) (Str.ofString "__format__") [.str Str.empty s.toks]) (wpAny_callSpecial?_slot (name := Str.ofString "__format__") (text _) F.slot_int_format
    (call_givesAt F.slot_int_format (text _) F.entry_int_format (F.args_int_format_2 _ _) (al_format_at short) free ⟨int_text_fits10 short, ?_⟩))) (by decide))
  exact (wpAny_bind (wpAny_isInstance (typeIs_str _ _ _) isSubtype_str_str (wpAny_pure goal)) : wpAny (model prog w) A (do if ← isInstance (.str (toString i) (s.toks + 1)) (.type "str") then return (.str (toString i) (s.toks + 1)) else _) Q E _)
end
end PySem
namespace AL
open PySem PySem.Spec PyProof.Rows L2
section
variable {X : Cx}
/-- {i}, i an int -/
def tFmtL (te : TE) : TE := fun σ H Q => te σ H fun x H1 => (∃ y : Str, x = .str y ∧ y.length ≤ sizeLine ∧ Q (.str y) H1) ∨ ∃ i : Int, x = .int i ∧ i.natAbs < 10 ^ 4300 ∧ Q (.str (toString i)) H1
theorem pe_fmtL {e : Expr} {te : TE} {pos : Pos} (b : digB X.K = true) (he : PE X e te) : PE X (.FormattedValue e (-1) none pos) (tFmtL te) := by
  refine ⟨fun pins s σ H Q I h => ?_⟩
  refine wpAny_FormattedValue_plain (thn (he.run pins s σ H _ I h) fun v s1 hv => ?_)
  obtain ⟨x, H1, I1, r1, q⟩ := hv
  rcases q with ⟨y, rfl, hz, q⟩ | ⟨i, rfl, hz, q⟩
  · obtain ⟨t, rfl⟩ := r1
    exact wpAny_formatField_str ⟨.str y, H1, I1, ⟨t, rfl⟩, q⟩ ⟨.str y, H1, I1.tok _, ⟨_, rfl⟩, q⟩ hz
  · obtain ⟨t, rfl⟩ := r1
    exact al_formatField (noDigits_of I1.kIn I1.nolimit b) hz ⟨.str (toString i), H1, I1.tok _, ⟨_, rfl⟩, q⟩
/-- //: the dividend below 2 ^ 13500, or the divisor below 2 ^ 8000 -/
def CDivC (i j : Int) : Prop := j ≠ 0 ∧ (i.natAbs < 2 ^ 13500 ∨ j.natAbs < 2 ^ 8000)
theorem noPylong_low {i j : Int} (h : j.natAbs < 2 ^ 8000) : Builtin.divisionGoesByPylong i j = false := by
  have hl : j.natAbs.log2 < 8000 := log2_small (by decide) h
  have key : ¬ ((if j == 0 then 0 else j.natAbs.log2 / 30 + 1) > 300) := by
    split <;> omega
  show (decide ((if j == 0 then 0 else j.natAbs.log2 / 30 + 1) > 300) && decide ((if i == 0 then 0 else i.natAbs.log2 / 30 + 1) > (if j == 0 then 0 else j.natAbs.log2 / 30 + 1) + 150)) = false
  rw [decide_eq_false key, Bool.false_and]
theorem op_fdivC : OpR X (binaryOp .FloorDiv) (rI CDivC fun i j => .int (i.fdiv j)) := by
  intro pins s σ H x y v u Q I rx ry h
  obtain ⟨i, j, rfl, rfl, ⟨hj, hi⟩, q⟩ := h
  obtain ⟨t, rfl⟩ := rx
  obtain ⟨t', rfl⟩ := ry
  rcases hi with hi | hi
  · exact floordiv_int hj ⟨.int _, H, I.tok _, ⟨_, rfl⟩, q⟩ (.inl (noPylong_big hi))
  · exact floordiv_int hj ⟨.int _, H, I.tok _, ⟨_, rfl⟩, q⟩ (.inl (noPylong_low hi))
end
end AL
set_option Elab.async false
set_option maxRecDepth 100000
set_option exponentiation.threshold 70000
set_option maxHeartbeats 4000000
/-! Texts as rows of codes: slices, prefixes, repeated texts, tuple(text). -/
namespace AL
open PySem PySem.Spec PyProof.Rows L2
abbrev S (l : List Nat) : Str := ⟨l.toArray⟩
theorem S_of (z : Str) : ∃ l, z = S l := ⟨z.cps.toList, by cases z; rfl⟩
theorem S_len (l : List Nat) : (S l).length = l.length := by simp [S, Str.length]
theorem S_tl (l : List Nat) : (S l).cps.toList = l := rfl
theorem S_inj {a b : List Nat} : S a = S b ↔ a = b := ⟨fun h => congrArg (fun x : Str => x.cps.toList) h, fun h => by rw [h]⟩
theorem cut_mid (l : List Nat) (i j : Nat) : cutS (S l) (some (i : Int)) (some (j : Int)) = S ((l.take j).drop i) := by
  unfold cutS
  rw [HT.sIx_nat, HT.sIx_nat, S_len]
  refine S_inj.mpr ?_
  show (l.drop (min i l.length)).take (min j l.length - min i l.length) = _
  rw [← List.drop_take]
  have e1 : l.take (min j l.length) = l.take j := by
    refine (List.take_eq_take_iff).mpr ?_
    omega
  rw [e1]
  by_cases h : i ≤ l.length
  · rw [Nat.min_eq_left h]
  · rw [Nat.min_eq_right (by omega), List.drop_eq_nil_of_le (by rw [List.length_take]; omega), List.drop_eq_nil_of_le (by rw [List.length_take]; omega)]
theorem cut_to (l : List Nat) (j : Nat) : cutS (S l) none (some (j : Int)) = S (l.take j) := by
  have e := cut_mid l 0 j
  have z : HT.sIx (S l).length 0 none = HT.sIx (S l).length 0 (some ((0 : Nat) : Int)) := by rw [HT.sIx_nat]; simp [HT.sIx]
  unfold cutS at e ⊢
  rw [z, e, List.drop_zero]
theorem minusS : ("-" : Str) = S [45] := by kernel_rfl
theorem slashS : ("/" : Str) = S [47] := by kernel_rfl
theorem emptyS : ("" : Str) = S [] := by kernel_rfl
theorem digitsS : ("0123456789" : Str) = S [48, 49, 50, 51, 52, 53, 54, 55, 56, 57] := by kernel_rfl
/-- whether a row of codes begins with a minus -/
def neg (l : List Nat) : Bool := decide (l[0]? = some 45)
theorem starts_minus (l : List Nat) : Txt.startswith (S l) "-" = neg l := by
  rw [minusS]
  unfold Txt.startswith neg
  rw [StrLaws.subAt_eq, S_len, S_len, S_tl, S_tl]
  cases l with
  | nil => rfl
  | cons c l =>
    by_cases h : c = 45
    · subst h; simp
    · simp [h]
theorem strip_minus {l : List Nat} (h : ∀ c, (l.drop (neg l).toNat)[0]? = some c → c ≠ 45) : Txt.lstripChars (S l) "-" = S (l.drop (neg l).toNat) := by
  rw [minusS]
  have key : ∀ m : List Nat, (∀ c, m[0]? = some c → c ≠ 45) → m.takeWhile ((S [45]).cps.contains) = [] := by
    intro m hm
    cases m with
    | nil => rfl
    | cons c m =>
      have : c ≠ 45 := hm c rfl
      have z : ((S [45]).cps.contains c) = false := by
        show (#[45] : Array Nat).contains c = false
        simp [this]
      rw [List.takeWhile_cons, z]; rfl
  unfold Txt.lstripChars Txt.stripBy
  cases l with
  | nil => rfl
  | cons c l =>
    by_cases hc : c = 45
    · subst hc
      have hn : neg (45 :: l) = true := by simp [neg]
      rw [hn] at h ⊢
      have hk := key l (fun d e => h d e)
      have lo : stripLo ((S [45]).cps.contains) true (S (45 :: l)) = 1 := by
        show ((45 :: l).takeWhile _).length = 1
        rw [List.takeWhile_cons, show ((S [45]).cps.contains 45) = true by show (#[45] : Array Nat).contains 45 = true; simp, if_pos rfl, hk]; rfl
      have ne : stripSame ((S [45]).cps.contains) true false (S (45 :: l)) = false := by
        unfold stripSame
        rw [lo]; rfl
      rw [ne, if_neg (by decide)]
      unfold stripped
      rw [lo]
      show Builtin.Str.strSub (S (45 :: l)) 1 (S (45 :: l)).length = S l
      rw [S_len, strSub_mk]
      refine S_inj.mpr ?_
      show List.take _ ((45 :: l).drop 1) = l
      simp
    · have hn : neg (c :: l) = false := by simp [neg, hc]
      rw [hn] at h ⊢
      have hk := key (c :: l) (fun d e => by simp at e; rw [← e]; exact hc)
      have same : stripSame ((S [45]).cps.contains) true false (S (c :: l)) = true := by
        unfold stripSame
        have lo : stripLo ((S [45]).cps.contains) true (S (c :: l)) = 0 := by
          show ((c :: l).takeWhile _).length = 0
          rw [hk]; rfl
        rw [lo]
        simp [stripHi]
      rw [same, if_pos rfl]
      rfl
theorem pair_ix {α β : Type} {F : α → β → Prop} : ∀ {xs : List α} {ys : List β}, xs.length = ys.length → (∀ (j : Nat) x y, xs[j]? = some x → ys[j]? = some y → F x y) → Paired F xs ys
  | [], [], _, _ => .nil
  | [], _ :: _, h, _ => by cases h
  | _ :: _, [], h, _ => by cases h
  | x :: xs, y :: ys, h, k => .cons (k 0 x y rfl rfl) (pair_ix (Nat.succ.inj h) fun j a b e f => k (j + 1) a b e f)
/-! ### the rules -/
section
variable {X : Cx}
/-- z * k, z a short text -/
theorem op_mulS : OpR X (binaryOp .Mult) (fun x y H Q => ∃ (z : Str) (k : Nat), x = .str z ∧ y = .int (k : Int) ∧ z.length ≤ 10 ∧ k ≤ 10000 ∧ ∀ z' : Str, z'.length ≤ z.length * k → Q (.str z') H) := by
  intro pins s σ H x y v u Q I rx ry h
  obtain ⟨z, k, rfl, rfl, hz, hk, q⟩ := h
  obtain ⟨t, rfl⟩ := rx
  obtain ⟨t', rfl⟩ := ry
  have hfit : z.length * k ≤ 100000 := Nat.le_trans (Nat.mul_le_mul hz hk) (by decide)
  refine SB.mul ⟨?_, fun h1 _ => ?_, fun _ _ => ?_⟩ fun tk n => ⟨.str _, H, I.tok _, ⟨_, rfl⟩, q _ ?_⟩
  · rw [Bool.or_eq_false_iff]
    exact ⟨decide_eq_false (by omega), decide_eq_false (by omega)⟩
  · have hk0 : 0 < (k : Int) := by omega
    have : ((2 : Int) ^ 63 - 1) / (k : Int) ≥ 10 := by
      rw [ge_iff_le, Int.le_ediv_iff_mul_le hk0]
      have : (10 : Int) * k ≤ 100000 := by omega
      exact Int.le_trans this (by decide)
    omega
  · unfold Builtin.Str.tooLong
    rw [Int.toNat_natCast]
    refine decide_eq_false (Nat.not_lt.mpr (Nat.le_trans hfit (by decide)))
  · unfold Txt.mul
    split
    · exact Nat.zero_le _
    · split
      · rename_i h1 h2
        have hk1 : 1 ≤ k := by omega
        exact Nat.le_mul_of_pos_right _ hk1
      · rw [Int.toNat_natCast]
        have key : ∀ (n : Nat) (acc : Array Nat), ((List.replicate n z.cps).foldl (· ++ ·) acc).size = acc.size + n * z.cps.size := by
          intro n
          induction n with
          | zero => intro acc; simp
          | succ n ih => intro acc; rw [List.replicate_succ, List.foldl_cons, ih, Array.size_append, Nat.succ_mul]; omega
        show ((List.replicate k z.cps).foldl (· ++ ·) #[]).size ≤ z.length * k
        rw [key, Nat.mul_comm k]
        show 0 + z.cps.size * k ≤ z.cps.size * k
        omega
/-- tuple(text) -/
theorem call_tuple_text (hh : X.A.handled = none) : CallR X (.type "tuple") (fun xs H Q => ∃ l : List Nat, xs = [.str (S l)] ∧ l.length ≤ sizeLine ∧ ∀ p, H p = none → Q (.ref p) (upd H p (.tup (l.map fun c => V.str (S [c]))))) := by
  intro pins s σ H xs us Q I r h
  obtain ⟨l, rfl, hl, q⟩ := h
  obtain ⟨u, rfl, t, rfl⟩ := vals1 r
  have hsz : (S l).cps.size = l.length := by simp [S]
  refine call_tuple_str hh _ _ (fun h' tk acc kp it => ?_) (by rw [hsz]; exact hl)
  have gone : s.heap.get? h'.objs.size = none := by
    cases e : s.heap.get? h'.objs.size with
    | none => rfl
    | some o =>
      have z := kp _ _ e
      rw [Heap.get?_none_of_le (Nat.le_refl _)] at z
      cases z
  have fresh : H h'.objs.size = none := I.hok.gone gone
  have vals : Vals (l.map fun c => V.str (S [c])) acc.toList := by
    obtain ⟨i1, i2⟩ := it
    rw [hsz] at i1
    refine pair_ix (by rw [List.length_map]; exact i1.symm.trans Array.length_toList.symm) fun j x y hx hy => ?_
    rw [List.getElem?_map] at hx
    rw [Array.getElem?_toList] at hy
    obtain ⟨c, u, e1, e2⟩ := i2 j y hy
    have e1' : l[j]? = some c := by simpa [S] using e1
    rw [e1'] at hx
    cases hx
    exact ⟨u, e2⟩
  have I2 : Inv X pins σ (upd H h'.objs.size (.tup (l.map fun c => V.str (S [c])))) { s with heap := h'.push { cls := .type "tuple", data := .seq acc }, toks := tk } :=
    I.laidN (t' := tk) (fun b o e => Heap.get?_push_of_some _ (kp b o e)) gone fresh (show ObjOk X.prog X.w _ _ _ (.tup _) from ⟨by rw [List.length_map]; exact hl, acc.toList, vals, by
      rw [show acc.toList.toArray = acc by simp]; exact IsTup.new _ _⟩)
  exact ⟨.ref h'.objs.size, _, I2, rfl, q _ fresh⟩
end
end AL
set_option Elab.async false
set_option maxRecDepth 100000
set_option exponentiation.threshold 70000
/-! What a text of a ratio is read as. -/
namespace AL
open PySem L2 PySem.NumText
def isD (c : Nat) : Bool := decide (48 ≤ c) && decide (c ≤ 57)
theorem isD_mem (c : Nat) : isD c = decide (c ∈ [48, 49, 50, 51, 52, 53, 54, 55, 56, 57]) := by
  unfold isD
  by_cases h : 48 ≤ c ∧ c ≤ 57
  · have : c ∈ [48, 49, 50, 51, 52, 53, 54, 55, 56, 57] := by simp; omega
    simp [h.1, h.2, this]
  · have : ¬ c ∈ [48, 49, 50, 51, 52, 53, 54, 55, 56, 57] := by simp; omega
    simp [this]; omega
/-- where the digits that begin at i end -/
def dEnd (l : List Nat) (i : Nat) : Nat := i + ((l.drop i).takeWhile isD).length
theorem dEnd_ge (l : List Nat) (i : Nat) : i ≤ dEnd l i := Nat.le_add_right _ _
theorem tw_le {p : Nat → Bool} : ∀ l : List Nat, (l.takeWhile p).length ≤ l.length
  | [] => Nat.le_refl _
  | c :: l => by
    rw [List.takeWhile_cons]
    split
    · exact Nat.succ_le_succ (tw_le l)
    · exact Nat.zero_le _
theorem tw_at {p : Nat → Bool} : ∀ (l : List Nat) (j : Nat) (c : Nat), j < (l.takeWhile p).length → l[j]? = some c → p c = true
  | [], j, c, h, _ => by cases h
  | d :: l, j, c, h, e => by
    rw [List.takeWhile_cons] at h
    split at h
    · rename_i hd
      cases j with
      | zero => cases e; exact hd
      | succ j => exact tw_at l j c (Nat.lt_of_succ_lt_succ h) e
    · cases h
theorem tw_end {p : Nat → Bool} : ∀ (l : List Nat) (c : Nat), l[(l.takeWhile p).length]? = some c → p c = false
  | [], c, e => by cases e
  | d :: l, c, e => by
    rw [List.takeWhile_cons] at e
    split at e
    · exact tw_end l c e
    · rename_i hd
      cases e
      exact Bool.eq_false_iff.mpr hd
theorem dEnd_le {l : List Nat} {i : Nat} (h : i ≤ l.length) : dEnd l i ≤ l.length := by
  have := tw_le (p := isD) (l.drop i)
  rw [List.length_drop] at this
  unfold dEnd; omega
theorem dEnd_in {l : List Nat} {i j c : Nat} (h0 : i ≤ j) (h : j < dEnd l i) (e : l[j]? = some c) : isD c = true := by
  refine tw_at (l.drop i) (j - i) c (by unfold dEnd at h; omega) ?_
  rw [List.getElem?_drop, show i + (j - i) = j by omega]
  exact e
theorem dEnd_out {l : List Nat} {i c : Nat} (e : l[dEnd l i]? = some c) : isD c = false := by
  refine tw_end (l.drop i) c ?_
  rw [List.getElem?_drop]
  exact e
/-- the row of digits from i on -/
def rowAt (l : List Nat) (i j : Nat) : List Nat := (l.take j).drop i
theorem rowAt_len {l : List Nat} {i j : Nat} (h : j ≤ l.length) : (rowAt l i j).length = j - i := by
  unfold rowAt
  rw [List.length_drop, List.length_take]; omega
theorem rowAt_digits {l : List Nat} {i : Nat} : AllDigits (rowAt l i (dEnd l i)) := by
  intro c hc
  obtain ⟨j, hj⟩ := List.mem_iff_getElem?.mp hc
  unfold rowAt at hj
  rw [List.getElem?_drop, List.getElem?_take] at hj
  split at hj
  · have := dEnd_in (Nat.le_add_right i j) (by assumption) hj
    unfold isD at this
    simpa using this
  · cases hj
inductive Res | text (c : Nat) | large (n : Nat) | ratio (p q : Int)
/-- the first sign's place behind a minus -/
def fst0 (l : List Nat) : Nat := if neg l = true then 1 else 0
def mid0 (l : List Nat) : Nat := dEnd l (fst0 l)
def end0 (l : List Nat) : Nat := dEnd l (mid0 l + 1)
def slash0 (l : List Nat) : Bool := decide (l[mid0 l]? = some 47)
def sgn (l : List Nat) (n : Int) : Int := if neg l = true then -n else n
def topV (l : List Nat) : Nat := digitsVal (rowAt l (fst0 l) (mid0 l))
def botV (l : List Nat) : Nat := digitsVal (rowAt l (mid0 l + 1) (end0 l))
def red (a b : Nat) : Int × Int := (((a / Nat.gcd a b : Nat) : Int), ((b / Nat.gcd a b : Nat) : Int))
def res (l : List Nat) : Res :=
  if mid0 l = fst0 l then .text (fst0 l + 1) else
  if slash0 l = true then
    if end0 l = mid0 l + 1 then .text (end0 l + 1) else
    if end0 l < l.length then .text (end0 l + 1) else
    if 4000 < mid0 l - fst0 l then .large (mid0 l - fst0 l) else
    if 4000 < end0 l - (mid0 l + 1) then .large (end0 l - (mid0 l + 1)) else
    if botV l = 0 then .text (mid0 l + 2) else .ratio (sgn l (red (topV l) (botV l)).1) (red (topV l) (botV l)).2
  else if mid0 l < l.length then .text (mid0 l + 1) else
    if 4000 < mid0 l - fst0 l then .large (mid0 l - fst0 l) else .ratio (sgn l (topV l)) 1
/-- the first wrong column, 0 if there is none -/
def wcol (l : List Nat) : Nat :=
  if mid0 l = fst0 l then fst0 l + 1 else
  if slash0 l = true then if end0 l = mid0 l + 1 ∨ end0 l < l.length then end0 l + 1 else 0
  else if mid0 l < l.length then mid0 l + 1 else 0
theorem fst0_le (l : List Nat) : fst0 l ≤ l.length := by
  unfold fst0 neg
  cases l with
  | nil => decide
  | cons c l => split <;> simp
theorem mid0_le (l : List Nat) : mid0 l ≤ l.length := dEnd_le (fst0_le l)
theorem fst_mid (l : List Nat) : fst0 l ≤ mid0 l := dEnd_ge _ _
theorem slash_lt {l : List Nat} (h : slash0 l = true) : mid0 l < l.length := by
  have := of_decide_eq_true h
  exact (List.getElem?_eq_some_iff.mp this).1
theorem end0_le {l : List Nat} (h : slash0 l = true) : end0 l ≤ l.length := dEnd_le (slash_lt h)
theorem res_bad {l : List Nat} (h : 0 < wcol l) : res l = .text (wcol l) := by
  unfold wcol at h ⊢
  unfold res
  by_cases h1 : mid0 l = fst0 l
  · rw [if_pos h1, if_pos h1]
  · rw [if_neg h1] at h ⊢
    rw [if_neg h1]
    by_cases h2 : slash0 l = true
    · rw [if_pos h2] at h ⊢
      rw [if_pos h2]
      by_cases h3 : end0 l = mid0 l + 1
      · rw [if_pos h3, if_pos (.inl h3)]
      · rw [if_neg h3]
        by_cases h4 : end0 l < l.length
        · rw [if_pos h4, if_pos (.inr h4)]
        · rw [if_neg (by omega)] at h
          omega
    · rw [if_neg h2] at h ⊢
      rw [if_neg h2]
      by_cases h4 : mid0 l < l.length
      · rw [if_pos h4, if_pos h4]
      · rw [if_neg h4] at h
        omega
/-- a text without a wrong column -/
theorem wcol0 {l : List Nat} (h : wcol l = 0) : fst0 l < mid0 l ∧ ((slash0 l = true ∧ mid0 l + 1 < end0 l ∧ end0 l = l.length) ∨ (slash0 l = false ∧ mid0 l = l.length)) := by
  have a1 := fst_mid l
  have a2 := mid0_le l
  unfold wcol at h
  by_cases h1 : mid0 l = fst0 l
  · rw [if_pos h1] at h; omega
  · rw [if_neg h1] at h
    refine ⟨by omega, ?_⟩
    by_cases h2 : slash0 l = true
    · rw [if_pos h2] at h
      have a3 := end0_le h2
      have a4 : mid0 l + 1 ≤ end0 l := dEnd_ge _ _
      by_cases h3 : end0 l = mid0 l + 1 ∨ end0 l < l.length
      · rw [if_pos h3] at h; omega
      · exact .inl ⟨h2, by omega, by omega⟩
    · rw [if_neg h2] at h
      by_cases h4 : mid0 l < l.length
      · rw [if_pos h4] at h; omega
      · exact .inr ⟨Bool.eq_false_iff.mpr h2, by omega⟩
theorem res_ok {l : List Nat} (h : wcol l = 0) : res l =
    if 4000 < mid0 l - fst0 l then .large (mid0 l - fst0 l) else
    if slash0 l = true then if 4000 < end0 l - (mid0 l + 1) then .large (end0 l - (mid0 l + 1)) else
      if botV l = 0 then .text (mid0 l + 2) else .ratio (sgn l (red (topV l) (botV l)).1) (red (topV l) (botV l)).2
    else .ratio (sgn l (topV l)) 1 := by
  obtain ⟨h1, h2⟩ := wcol0 h
  unfold res
  rw [if_neg (by omega)]
  rcases h2 with ⟨e, h3, h4⟩ | ⟨e, h3⟩
  · rw [if_pos e, if_pos e, if_neg (by omega), if_neg (by omega)]
  · rw [if_neg (by rw [e]; decide), if_neg (by omega)]
    split
    · rfl
    · rw [if_neg (by rw [e]; decide)]
/-! ### Euclid's steps -/
def pairOk (a b : Nat) (i x y : Nat) : Prop := Nat.gcd x y = Nat.gcd a b ∧ (i = 0 → x = a ∧ y = b) ∧ (0 < i → y ≤ x ∧ x * y * 2 ^ (i - 1) ≤ a * b)
theorem pairOk0 (a b : Nat) : pairOk a b 0 a b := ⟨rfl, fun _ => ⟨rfl, rfl⟩, fun h => absurd h (Nat.lt_irrefl _)⟩
theorem pairOk_step {a b i x y : Nat} (h : pairOk a b i x y) (hy : y ≠ 0) : pairOk a b (i + 1) y (x % y) := by
  obtain ⟨h1, h2, h3⟩ := h
  have hlt : x % y < y := Nat.mod_lt _ (by omega)
  refine ⟨?_, fun z => by omega, fun _ => ⟨Nat.le_of_lt hlt, ?_⟩⟩
  · rw [← h1, Nat.gcd_comm x y, Nat.gcd_rec y x, Nat.gcd_comm]
  · rw [Nat.add_sub_cancel]
    by_cases hi : i = 0
    · obtain ⟨rfl, rfl⟩ := h2 hi
      subst hi
      rw [Nat.pow_zero, Nat.mul_one, Nat.mul_comm x y]
      exact Nat.mul_le_mul_left _ (Nat.mod_le _ _)
    · obtain ⟨h4, h5⟩ := h3 (by omega)
      obtain ⟨j, rfl⟩ : ∃ j, i = j + 1 := ⟨i - 1, by omega⟩
      rw [Nat.add_sub_cancel] at h5
      have half : 2 * (x % y) ≤ x := by
        have e := Nat.div_add_mod x y
        have hq : 1 ≤ x / y := (Nat.le_div_iff_mul_le (by omega)).mpr (by omega)
        have hm : y ≤ y * (x / y) := Nat.le_mul_of_pos_right _ hq
        omega
      refine Nat.le_trans ?_ h5
      rw [Nat.pow_succ, Nat.mul_comm (2 ^ j) 2, ← Nat.mul_assoc]
      refine Nat.mul_le_mul_right _ ?_
      rw [Nat.mul_assoc, Nat.mul_comm (x % y) 2, Nat.mul_comm x y]
      exact Nat.mul_le_mul_left _ half
theorem pairOk_zero {a b x y : Nat} (h : pairOk a b 60000 x y) (ha : a < 10 ^ 6000) (hb : b < 10 ^ 6000) : y = 0 := by
  obtain ⟨_, _, h3⟩ := h
  obtain ⟨h4, h5⟩ := h3 (by decide)
  by_cases hz : y = 0
  · exact hz
  · exfalso
    have hab : a * b < 10 ^ 6000 * 10 ^ 6000 := Nat.mul_lt_mul_of_lt_of_lt ha hb
    have hxy : 1 ≤ x * y := Nat.mul_pos (by omega) (by omega)
    have : 1 * 2 ^ (60000 - 1) ≤ x * y * 2 ^ (60000 - 1) := Nat.mul_le_mul_right _ hxy
    have big : (10 : Nat) ^ 6000 * 10 ^ 6000 ≤ 1 * 2 ^ (60000 - 1) := by decide +kernel
    omega
theorem pairOk_end {a b i x : Nat} (h : pairOk a b i x 0) : x = Nat.gcd a b := by
  have := h.1
  rwa [Nat.gcd_zero_right] at this
end AL
set_option Elab.async false
set_option maxRecDepth 100000
set_option exponentiation.threshold 70000
/-! The texts within a text of a ratio. -/
namespace AL
open PySem L2 PySem.NumText
def N4 : Nat := 10 ^ 4000
def N6 : Nat := 10 ^ 6000
theorem pow4000 : N4 < 2 ^ 13500 := by unfold N4; decide +kernel
theorem pow46 : N4 ≤ N6 := Nat.pow_le_pow_right (by decide) (by decide)
theorem no_slash {l : List Nat} : ∀ c ∈ l.take (mid0 l), c ≠ 47 := by
  intro c hc
  obtain ⟨j, hj⟩ := List.mem_iff_getElem?.mp hc
  rw [List.getElem?_take] at hj
  split at hj
  · rename_i hlt
    by_cases h : fst0 l ≤ j
    · have := dEnd_in h hlt hj
      intro e
      rw [e] at this
      exact absurd this (by decide)
    · have hf : fst0 l = 1 ∧ neg l = true := by
        unfold fst0 at h ⊢
        by_cases hn : neg l = true
        · exact ⟨if_pos hn, hn⟩
        · rw [if_neg hn] at h; omega
      have hj0 : j = 0 := by omega
      subst hj0
      have := of_decide_eq_true hf.2
      rw [this] at hj
      cases hj
      decide
  · cases hj
theorem S_app (a b : List Nat) : S a ++ S b = S (a ++ b) := TL.ext_tl (TL.tl_append (S a) (S b))
theorem part_slash {l : List Nat} (e : slash0 l = true) : Txt.partition (S l) "/" = (S (l.take (mid0 l)), ("/" : Str), S (l.drop (mid0 l + 1))) := by
  have hs := of_decide_eq_true e
  have hl : l = l.take (mid0 l) ++ ([47] ++ l.drop (mid0 l + 1)) := by
    have h1 : l.drop (mid0 l) = 47 :: l.drop (mid0 l + 1) := by
      obtain ⟨h2, h3⟩ := List.getElem?_eq_some_iff.mp hs
      rw [List.drop_eq_getElem_cons h2, h3]
    rw [List.singleton_append, ← h1, List.take_append_drop]
  have := TL.partition_app (y := S [47]) (s := 47) (S := []) rfl (a := S (l.take (mid0 l))) (b := S (l.drop (mid0 l + 1))) (fun h => no_slash 47 h rfl)
  rw [S_app, S_app, List.append_assoc, ← hl] at this
  rw [slashS]
  exact this
theorem part_none {l : List Nat} (e : mid0 l = l.length) : Txt.partition (S l) "/" = (S l, Str.empty, Str.empty) := by
  rw [slashS]
  refine TL.partition_none (y := S [47]) (s := 47) (S := []) rfl fun h => ?_
  have h' : 47 ∈ l := h
  refine no_slash (l := l) 47 ?_ rfl
  rw [e, List.take_length]
  exact h'
theorem fst_eq (l : List Nat) : fst0 l = (neg l).toNat := by
  unfold fst0
  cases neg l <;> rfl
theorem neg_take {l : List Nat} (h : fst0 l < mid0 l) : neg (l.take (mid0 l)) = neg l := by
  unfold neg
  rw [List.getElem?_take, if_pos (by omega)]
theorem head_top {l : List Nat} (h : fst0 l < mid0 l) : ∃ c, (rowAt l (fst0 l) (mid0 l))[0]? = some c ∧ isD c = true := by
  have hl : fst0 l < l.length := Nat.lt_of_lt_of_le h (mid0_le l)
  have e : (rowAt l (fst0 l) (mid0 l))[0]? = some l[fst0 l] := by
    unfold rowAt
    rw [List.getElem?_drop, List.getElem?_take, Nat.add_zero, if_pos h, List.getElem?_eq_getElem hl]
  exact ⟨_, e, dEnd_in (Nat.le_refl _) h (List.getElem?_eq_getElem hl)⟩
theorem strip_top {l : List Nat} (h : fst0 l < mid0 l) : Txt.lstripChars (S (l.take (mid0 l))) "-" = S (rowAt l (fst0 l) (mid0 l)) := by
  obtain ⟨c, hc, hd⟩ := head_top h
  have e : (l.take (mid0 l)).drop (neg (l.take (mid0 l))).toNat = rowAt l (fst0 l) (mid0 l) := by
    rw [neg_take h, ← fst_eq]; rfl
  rw [strip_minus, e]
  intro d hdd
  rw [e, hc] at hdd
  cases hdd
  intro z
  rw [z] at hd
  exact absurd hd (by decide)
theorem row_int {l : List Nat} {i : Nat} (h : i < dEnd l i) (hi : i ≤ l.length) (h4 : dEnd l i - i ≤ 4000) : intText? (S (rowAt l i (dEnd l i))) = some ((digitsVal (rowAt l i (dEnd l i)) : Nat) : Int) := by
  have hlen := rowAt_len (l := l) (i := i) (dEnd_le hi)
  refine intText_digits rowAt_digits (fun z => ?_) ?_
  · have : (rowAt l i (dEnd l i)).length = 0 := congrArg List.length z
    omega
  · rw [S_len, hlen]; omega
theorem int_top {l : List Nat} (h : fst0 l < mid0 l) (h4 : mid0 l - fst0 l ≤ 4000) : intText? (S (l.take (mid0 l))) = some (sgn l (topV l)) := by
  have hlen := rowAt_len (l := l) (i := fst0 l) (mid0_le l)
  have hf := fst0_le l
  have hm := mid0_le l
  by_cases hn : neg l = true
  · have hf1 : fst0 l = 1 := by unfold fst0; rw [if_pos hn]
    have h0 : l[0]? = some 45 := of_decide_eq_true hn
    have ht : l.take (mid0 l) = 45 :: rowAt l (fst0 l) (mid0 l) := by
      unfold rowAt
      rw [hf1]
      cases l with
      | nil => cases h0
      | cons c l' =>
        simp at h0
        subst h0
        obtain ⟨j, hj⟩ : ∃ j, mid0 (45 :: l') = j + 1 := ⟨mid0 (45 :: l') - 1, by omega⟩
        rw [hj]; rfl
    rw [intText_neg (cs := rowAt l (fst0 l) (mid0 l)) ht rowAt_digits (fun z => by
      have : (rowAt l (fst0 l) (mid0 l)).length = 0 := congrArg List.length z
      omega) (by rw [S_len, List.length_take]; omega)]
    unfold sgn
    rw [if_pos hn]
    rfl
  · have hf0 : fst0 l = 0 := by unfold fst0; rw [if_neg hn]
    have ht : l.take (mid0 l) = rowAt l (fst0 l) (mid0 l) := by unfold rowAt; rw [hf0]; rfl
    rw [ht]
    unfold sgn
    rw [if_neg hn]
    exact row_int h hf h4
theorem bot_eq {l : List Nat} (e : end0 l = l.length) : l.drop (mid0 l + 1) = rowAt l (mid0 l + 1) (end0 l) := by
  unfold rowAt
  rw [e, List.take_length]
theorem topV_lt {l : List Nat} (h4 : mid0 l - fst0 l ≤ 4000) : topV l < N4 := by
  have := digitsVal_lt _ _ rfl (rowAt_digits (l := l) (i := fst0 l))
  rw [rowAt_len (dEnd_le (fst0_le l))] at this
  exact Nat.lt_of_lt_of_le this (Nat.pow_le_pow_right (by decide) h4)
theorem botV_lt {l : List Nat} (e : slash0 l = true) (h4 : end0 l - (mid0 l + 1) ≤ 4000) : botV l < N4 := by
  have := digitsVal_lt _ _ rfl (rowAt_digits (l := l) (i := mid0 l + 1))
  rw [rowAt_len (dEnd_le (slash_lt e))] at this
  exact Nat.lt_of_lt_of_le this (Nat.pow_le_pow_right (by decide) h4)
theorem sgn_abs (l : List Nat) (n : Nat) : (sgn l (n : Int)).natAbs = n := by
  unfold sgn
  split <;> omega
theorem sgn_div (l : List Nat) (a b : Nat) : (sgn l (a : Int)).fdiv ((Nat.gcd a b : Nat) : Int) = sgn l ((a / Nat.gcd a b : Nat) : Int) := by
  have hd : ((Nat.gcd a b : Nat) : Int) ∣ (a : Int) := Int.natCast_dvd_natCast.mpr (Nat.gcd_dvd_left a b)
  unfold sgn
  split
  · rw [Int.fdiv_eq_ediv_of_nonneg _ (Int.natCast_nonneg _), Int.neg_ediv_of_dvd hd]
    rfl
  · rw [Int.fdiv_eq_ediv_of_nonneg _ (Int.natCast_nonneg _)]
    rfl
end AL
set_option Elab.async false
set_option maxRecDepth 100000
set_option exponentiation.threshold 70000
/-! Whole roots by Newton's steps; how many digits a number has. -/
namespace AL
open PySem L2 PySem.NumText
theorem tangent (g r : Nat) : ∀ k : Nat, (k + 1) * r * g ^ k ≤ r ^ (k + 1) + k * g ^ (k + 1)
  | 0 => by simp
  | k + 1 => by
    have ih := tangent g r k
    have h1 : (k + 1) * r * g ^ k * r ≤ (r ^ (k + 1) + k * g ^ (k + 1)) * r := Nat.mul_le_mul_right r ih
    have sq : 2 * (r * g) ≤ r * r + g * g := by
      rcases Nat.le_total r g with h | h
      · obtain ⟨d, rfl⟩ := Nat.le.dest h
        simp only [Nat.mul_add, Nat.add_mul]
        have : r * d = d * r := Nat.mul_comm _ _
        omega
      · obtain ⟨d, rfl⟩ := Nat.le.dest h
        simp only [Nat.mul_add, Nat.add_mul]
        have : g * d = d * g := Nat.mul_comm _ _
        omega
    have h2 := Nat.mul_le_mul_left ((k + 1) * g ^ k) sq
    have e1 : (k + 1) * r * g ^ k * r = (k + 1) * g ^ k * (r * r) := by
      simp only [Nat.mul_assoc, Nat.mul_comm, Nat.mul_left_comm]
    have e2 : (r ^ (k + 1) + k * g ^ (k + 1)) * r = r ^ (k + 2) + k * (g ^ (k + 1) * r) := by
      rw [Nat.add_mul, ← Nat.pow_succ, Nat.mul_assoc]
    have e3 : (k + 1) * g ^ k * (2 * (r * g)) = 2 * ((k + 1) * (g ^ (k + 1) * r)) := by
      rw [Nat.pow_succ]
      simp only [Nat.mul_assoc, Nat.mul_comm, Nat.mul_left_comm]
    have e4 : (k + 1) * g ^ k * (r * r + g * g) = (k + 1) * g ^ k * (r * r) + (k + 1) * g ^ (k + 2) := by
      rw [Nat.mul_add, Nat.pow_succ, Nat.pow_succ]
      simp only [Nat.mul_assoc]
    have e5 : (k + 1 + 1) * r * g ^ (k + 1) = (k + 1) * (g ^ (k + 1) * r) + g ^ (k + 1) * r := by
      rw [Nat.add_mul (k + 1) 1 r, Nat.one_mul, Nat.add_mul, Nat.mul_assoc, Nat.mul_comm r (g ^ (k + 1))]
    rw [e1, e2] at h1
    rw [e3, e4] at h2
    rw [e5]
    have e6 : (k + 1) * (g ^ (k + 1) * r) = k * (g ^ (k + 1) * r) + g ^ (k + 1) * r := by rw [Nat.add_mul, Nat.one_mul]
    have e7 : r ^ (k + 1 + 1) = r ^ (k + 2) := rfl
    have e8 : (k + 1) * g ^ (k + 1 + 1) = (k + 1) * g ^ (k + 2) := rfl
    rw [e7, e8]
    rw [e6] at h2 ⊢
    omega
/-- the next guess for the root j + 1 -/
def nstep (n j g : Nat) : Nat := (j * g + n / g ^ j) / (j + 1)
theorem nstep_ge {n j g r : Nat} (hg : 0 < g) (h : r ^ (j + 1) ≤ n) : r ≤ nstep n j g := by
  have t := tangent g r j
  have hp : 0 < g ^ j := Nat.pow_pos hg
  unfold nstep
  rw [Nat.le_div_iff_mul_le (Nat.succ_pos j)]
  have e : j * g + n / g ^ j = (n + j * g * g ^ j) / g ^ j := by
    rw [Nat.add_mul_div_right _ _ hp, Nat.add_comm]
  rw [e, Nat.le_div_iff_mul_le hp]
  have e2 : j * g ^ (j + 1) = j * g * g ^ j := by rw [Nat.pow_succ, Nat.mul_comm (g ^ j) g, Nat.mul_assoc]
  rw [Nat.mul_comm r (j + 1)]
  omega
theorem nstep_end {n j g : Nat} (hg : 0 < g) (h : g ≤ nstep n j g) : g ^ (j + 1) ≤ n := by
  have hp : 0 < g ^ j := Nat.pow_pos hg
  unfold nstep at h
  rw [Nat.le_div_iff_mul_le (Nat.succ_pos j)] at h
  have : g ≤ n / g ^ j := by
    rw [Nat.mul_succ, Nat.mul_comm g j] at h
    omega
  rw [Nat.le_div_iff_mul_le hp] at this
  rw [Nat.pow_succ, Nat.mul_comm]
  exact this
/-- the greatest number whose power k is at most n -/
def isRoot (n k g : Nat) : Prop := g ^ k ≤ n ∧ ∀ r, r ^ k ≤ n → r ≤ g
theorem isRoot_eq {n k g r : Nat} (h : isRoot n k g) (hk : 0 < k) (e : r ^ k = n) : g = r := by
  have h1 := h.2 r (Nat.le_of_eq e)
  rcases Nat.lt_or_ge r g with h2 | h2
  · have := Nat.pow_lt_pow_left h2 (by omega : k ≠ 0)
    have := h.1
    omega
  · omega
theorem start_ok {n k r : Nat} (hk : 0 < k) (h : r ^ k ≤ n) : r ≤ 2 ^ ((n.log2 + 1) / k + 1) := by
  rcases Nat.lt_or_ge (2 ^ ((n.log2 + 1) / k + 1)) r with h2 | h2
  · exfalso
    have h3 := Nat.pow_lt_pow_left h2 (by omega : k ≠ 0)
    rw [← Nat.pow_mul] at h3
    have h4 : n.log2 + 1 ≤ ((n.log2 + 1) / k + 1) * k := by
      have := Nat.div_add_mod (n.log2 + 1) k
      have hm := Nat.mod_lt (n.log2 + 1) hk
      rw [Nat.add_mul, Nat.one_mul, Nat.mul_comm]
      omega
    have h5 : 2 ^ (n.log2 + 1) ≤ 2 ^ (((n.log2 + 1) / k + 1) * k) := Nat.pow_le_pow_right (by decide) h4
    have h6 : n < 2 ^ (n.log2 + 1) := Nat.lt_log2_self
    omega
  · exact h2
/-- how many digits -/
def ndig (n : Nat) : Nat := (TL.numL n).length
theorem ndig_pos (n : Nat) : 0 < ndig n := List.length_pos_iff.mpr (TL.numL_ne n)
theorem lt_ndig (n : Nat) : n < 10 ^ ndig n := by
  have := digitsVal_lt _ _ rfl (TL.numL_digits n)
  rwa [TL.numL_val] at this
theorem ndig_le {n k : Nat} (hk : 0 < k) (h : n < 10 ^ k) : ndig n ≤ k := TL.numL_len hk h
theorem ndig_lt {n k : Nat} (h : 10 ^ k ≤ n) : k < ndig n := by
  rcases Nat.lt_or_ge k (ndig n) with h1 | h1
  · exact h1
  · have := Nat.pow_le_pow_right (by decide : 0 < 10) h1
    have := lt_ndig n
    omega
theorem ndig_eq {n k : Nat} (h0 : 10 ^ k ≤ n) (h1 : n < 10 ^ (k + 1)) : ndig n = k + 1 := by
  have := ndig_lt h0
  have := ndig_le (Nat.succ_pos k) h1
  omega
theorem ndig_cut {n k : Nat} (h : 10 ^ k ≤ n) : ndig n = k + ndig (n / 10 ^ k) := by
  have hp : 0 < 10 ^ k := Nat.pow_pos (by decide)
  have hx : 1 ≤ n / 10 ^ k := (Nat.le_div_iff_mul_le hp).mpr (by omega)
  have a1 := lt_ndig (n / 10 ^ k)
  have a2 : n < 10 ^ (k + ndig (n / 10 ^ k)) := by
    rw [Nat.pow_add, Nat.mul_comm]
    exact (Nat.div_lt_iff_lt_mul hp).mp a1
  have b1 := ndig_le (by have := ndig_pos (n / 10 ^ k); omega) a2
  have c1 := ndig_lt h
  have c2 : n / 10 ^ k < 10 ^ (ndig n - k) := by
    rw [Nat.div_lt_iff_lt_mul hp, ← Nat.pow_add]
    rw [show ndig n - k + k = ndig n by omega]
    exact lt_ndig n
  have c3 := ndig_le (by omega) c2
  omega
end AL
set_option Elab.async false
set_option maxRecDepth 100000
set_option exponentiation.threshold 3000
/-! Data that stay, and that can be shown. -/
namespace AL
open PySem L2
mutual
theorem dp_mono {K : PySem.W.Frag} {H H' : Hp} (kl : ∀ a xs, SqL K H a xs → SqL K H' a xs) (kt : ∀ a xs, SqT K H a xs → SqT K H' a xs) : ∀ (d : PyData) (v : V), Dp K H v d → Dp K H' v d
  | .none, _, h => by cases h; exact .non
  | .bool b, _, h => by cases h; exact .bl b
  | .int i, _, h => by cases h; exact .int i
  | .str x, _, h => by cases h; exact .str x
  | .list ds, _, h => by
    cases h with
    | lst hs ha => exact .lst (kl _ _ hs) (dpAll_mono kl kt ds _ ha)
  | .tuple ds, _, h => by
    cases h with
    | tup hs ha => exact .tup (kt _ _ hs) (dpAll_mono kl kt ds _ ha)
  | .dict _, _, h => by cases h
theorem dpAll_mono {K : PySem.W.Frag} {H H' : Hp} (kl : ∀ a xs, SqL K H a xs → SqL K H' a xs) (kt : ∀ a xs, SqT K H a xs → SqT K H' a xs) : ∀ (ds : List PyData) (vs : List V), DpAll K H vs ds → DpAll K H' vs ds
  | [], _, h => by cases h; exact .nil
  | d :: ds, _, h => by
    cases h with
    | cons h1 h2 => exact .cons (dp_mono kl kt d _ h1) (dpAll_mono kl kt ds _ h2)
end
theorem same_seqT {K : PySem.W.Frag} {H H' : Hp} {a : Addr} {xs : List V} (e : Same H H') (h : SqT K H a xs) : SqT K H' a xs := by
  rcases h with (h | ⟨o, h⟩) | h
  · exact .inl (.inl (e _ _ h))
  · exact .inl (.inr ⟨o, e _ _ h⟩)
  · exact .inr h
theorem dp_same {K : PySem.W.Frag} {H H' : Hp} {v : V} {d : PyData} (s : Same H H') (h : Dp K H v d) : Dp K H' v d := dp_mono (fun _ _ z => Same.seq s z) (fun _ _ z => same_seqT s z) d v h
theorem dp_keep {K : PySem.W.Frag} {H H' : Hp} {p c : Addr} {m : Nat} {v : V} {d : PyData} (k : Keep p H H') (P : Pen H p c m) (h : Dp K H v d) : Dp K H' v d := dp_mono (fun _ _ z => k.seqL P z) (fun _ _ z => k.seqT P z) d v h
/-- can be shown, by few signs -/
structure OkD (d : PyData) : Prop where
  sh : d.showable = true
  nd : d.hasDict = false
  dp : d.depth ≤ 10
  ln : d.shown.length ≤ 1000
/-- some data that can be shown -/
def Datum (K : PySem.W.Frag) (H : Hp) (v : V) : Prop := ∃ d, Dp K H v d ∧ OkD d
theorem Datum.same {K : PySem.W.Frag} {H H' : Hp} {v : V} (h : Datum K H v) (s : Same H H') : Datum K H' v := by
  obtain ⟨d, h1, h2⟩ := h
  exact ⟨d, dp_same s h1, h2⟩
theorem Datum.keep {K : PySem.W.Frag} {H H' : Hp} {p c : Addr} {m : Nat} {v : V} (h : Datum K H v) (k : Keep p H H') (P : Pen H p c m) : Datum K H' v := by
  obtain ⟨d, h1, h2⟩ := h
  exact ⟨d, dp_keep k P h1, h2⟩
theorem datum_non {K : PySem.W.Frag} {H : Hp} : Datum K H .non := ⟨.none, .non, by decide +kernel, by decide +kernel, by decide +kernel, by decide +kernel⟩
theorem datum_bl {K : PySem.W.Frag} {H : Hp} (b : Bool) : Datum K H (.bl b) := by
  refine ⟨.bool b, .bl b, rfl, rfl, by show 0 ≤ 10; decide, ?_⟩
  cases b <;> decide +kernel
theorem okD_int {i : Int} (h : i.natAbs < 10 ^ 400) : OkD (.int i) := by
  have h2 : i.natAbs < 2 ^ 1920 := Nat.lt_trans (Nat.lt_of_lt_of_le h (Nat.pow_le_pow_right (by decide) (by decide : 400 ≤ 402))) pow402
  refine ⟨decide_eq_true (log2_small (by decide) h2), rfl, by show 0 ≤ 10; decide, ?_⟩
  show (Str.ofString (toString i)).length ≤ 1000
  have e : (Str.ofString (toString i)).length = (toString i).length := by
    rw [Str.ofString_eq_toList]
    show (((toString i).toList.map Char.toNat).toArray).size = _
    rw [List.size_toArray, List.length_map, String.length_toList]
  rw [e]
  have := int_text_length_le10 (by decide) h
  omega
theorem datum_int {K : PySem.W.Frag} {H : Hp} {i : Int} (h : i.natAbs < 10 ^ 400) : Datum K H (.int i) := ⟨.int i, .int i, okD_int h⟩
theorem datum_str {K : PySem.W.Frag} {H : Hp} {z : Str} (h : z.length ≤ 90) (hc : ∀ c ∈ z.cps.toList, c < 128) : Datum K H (.str z) := by
  refine ⟨.str z, .str z, rfl, rfl, by show 0 ≤ 10; decide, ?_⟩
  show (reprText z).length ≤ 1000
  have := StrLaws.reprText_len z (fun c hcc => Nat.lt_trans (hc c hcc) (by decide))
  omega
theorem okD_tup : ∀ (ds : List PyData), ds.length ≤ 3 → (∀ d ∈ ds, OkD d) → (PyData.tuple ds).showable = true ∧ (PyData.tuple ds).hasDict = false ∧ (PyData.tuple ds).depth ≤ 60 ∧ (PyData.tuple ds).shown.length ≤ sizeLine := by
  intro ds hl h
  have all : ∀ (ds : List PyData), (∀ d ∈ ds, OkD d) → PyData.showableAll ds = true ∧ PyData.hasDictAll ds = false ∧ PyData.depthAll ds ≤ 10 ∧ ((PyData.shownAll ds).map (·.length)).sum ≤ 1000 * ds.length ∧ (PyData.shownAll ds).length = ds.length := by
    intro ds
    induction ds with
    | nil => intro _; exact ⟨rfl, rfl, by decide, by decide, rfl⟩
    | cons d ds ih =>
      intro h
      obtain ⟨a1, a2, a3, a4, a5⟩ := ih fun x hx => h x (List.mem_cons_of_mem _ hx)
      have o := h d List.mem_cons_self
      have o1 := o.sh
      have o2 := o.nd
      have o3 := o.dp
      have o4 := o.ln
      refine ⟨?_, ?_, ?_, ?_, ?_⟩
      · simp only [PyData.showableAll, o1, a1, Bool.and_self]
      · simp only [PyData.hasDictAll, o2, a2, Bool.or_self]
      · simp only [PyData.depthAll]; omega
      · simp only [PyData.shownAll, List.map_cons, List.sum_cons, List.length_cons]; omega
      · simp only [PyData.shownAll, List.length_cons, a5]
  obtain ⟨a1, a2, a3, a4, a5⟩ := all ds h
  refine ⟨?_, ?_, ?_, ?_⟩
  · simpa only [PyData.showable] using a1
  · simpa only [PyData.hasDict] using a2
  · simp only [PyData.depth]; omega
  · simp only [PyData.shown]
    have := tupleText_len_le (PyData.shownAll ds)
    rw [a5] at this
    refine Nat.le_trans this ?_
    refine Nat.le_trans (show _ ≤ 10000 by omega) (by decide)
theorem dpAll_bl {K : PySem.W.Frag} {H : Hp} : ∀ l : List Bool, DpAll K H (l.map V.bl) (l.map PyData.bool)
  | [] => .nil
  | b :: l => .cons (.bl b) (dpAll_bl l)
theorem shaped_bl (l : List Bool) : SeqAt.shaped (.list (l.map PyData.bool)) = true := by
  have h1 : ∀ l : List Bool, PyData.canLayAll0 (l.map PyData.bool) = true ∧ PyData.depthAll (l.map PyData.bool) = 0 := by
    intro l
    induction l with
    | nil => exact ⟨rfl, rfl⟩
    | cons b l ih => exact ⟨by simp [PyData.canLayAll0, PyData.canLay0, ih.1], by simp [PyData.depthAll, PyData.depth, ih.2]⟩
  unfold SeqAt.shaped
  rw [show PyData.canLay0 (.list (l.map PyData.bool)) = true by simpa [PyData.canLay0] using (h1 l).1]
  simp [PyData.depth, (h1 l).2]
end AL
set_option Elab.async false
set_option maxRecDepth 100000
set_option exponentiation.threshold 70000
set_option maxHeartbeats 1000000
namespace AL
open PySem L2

/-- one sign, a digit -/
def oneD (m : List Nat) : Bool := match m with | [c] => isD c | _ => false
theorem in_dig (m : List Nat) : inV (.str (S m)) (([48, 49, 50, 51, 52, 53, 54, 55, 56, 57] : List Nat).map fun c => V.str (S [c])) = oneD m := by
  unfold inV
  have e : ∀ c, eqV (.str (S [c])) (.str (S m)) = decide ([c] = m) := fun c => by
    show decide (S [c] = S m) = decide ([c] = m)
    exact decide_eq_decide.mpr S_inj
  simp only [List.map_cons, List.map_nil, List.any_cons, List.any_nil, e]
  match m with
  | [] => rfl
  | [d] =>
    show _ = isD d
    rw [isD_mem]
    simp [eq_comm]
  | _ :: _ :: _ => simp [oneD]
theorem row_one {l : List Nat} {j : Nat} : rowAt l j (j + 1) = (l[j]?).toList := by
  unfold rowAt
  rw [List.take_add_one, List.drop_append]
  by_cases h : j ≤ l.length
  · rw [List.length_take, Nat.min_eq_left h, Nat.sub_self, List.drop_eq_nil_of_le (by rw [List.length_take]; omega), List.nil_append, List.drop_zero]
  · rw [List.getElem?_eq_none (by omega), List.drop_eq_nil_of_le (by rw [List.length_take]; omega)]
    simp

theorem fmod_nat (a b : Nat) : ((a : Int)).fmod ((b : Nat) : Int) = ((a % b : Nat) : Int) := by
  rw [Int.fmod_eq_emod_of_nonneg _ (Int.natCast_nonneg b)]
  rfl
theorem fdiv_nat (a b : Nat) : ((a : Int)).fdiv ((b : Nat) : Int) = ((a / b : Nat) : Int) := by
  rw [Int.fdiv_eq_ediv_of_nonneg _ (by omega)]
  rfl

/-- _law_gcd(a, b) -/
def spGcdL : Sp := fun vs H Q _ => ∃ (a b : Int), vs = [.int a, .int b] ∧ a.natAbs < N6 ∧ b.natAbs < N6 ∧ Q (.int ((Nat.gcd a.natAbs b.natAbs : Nat) : Int)) H
/-- _law_q(a, b) -/
def spQ : Sp := fun vs H Q _ => ∃ (a b : Nat), vs = [.int (a : Int), .int (b : Int)] ∧ a < N4 ∧ b < N4 ∧ b ≠ 0 ∧ ∀ t, H t = none → Q (.ref t) (upd H t (.tup [.int (red a b).1, .int (red a b).2]))
/-- _law_is_whole(i) -/
def spWhole : Sp := fun vs H Q _ => ∃ (i : Int), vs = [.int i] ∧ Q (.bl true) H
/-- _law_is_ratio(t) -/
def spIsRat (K : PySem.W.Frag) : Sp := fun vs H Q _ => ∃ (t : Addr) (a b : Int), vs = [.ref t] ∧ H t = some (.tup [.int a, .int b]) ∧ a.natAbs < N6 ∧ b.natAbs < N6 ∧ 0 < b ∧ Nat.gcd a.natAbs b.natAbs = 1 ∧ Q (.bl true) H
/-- _law_digits_end(text, at) -/
def spEndL : Sp := fun vs H Q _ => ∃ (l : List Nat) (i : Nat), vs = [.str (S l), .int (i : Int)] ∧ i ≤ l.length ∧ l.length ≤ 20000 ∧ ∀ H', Same H H' → Q (.int ((dEnd l i : Nat) : Int)) H'
/-- digits_end(text, start) -/
def spEnd : Sp := fun vs H Q _ => ∃ (l : List Nat) (i : Nat), vs = [.str (S l), .int (i : Int)] ∧ i ≤ l.length ∧ l.length ≤ 20000 ∧ Q (.int ((dEnd l i : Nat) : Int)) H
/-- wrong_column(text) -/
def spCol : Sp := fun vs H Q _ => ∃ (l : List Nat), vs = [.str (S l)] ∧ l.length ≤ 20000 ∧ Q (.int ((wcol l : Nat) : Int)) H
/-- lowest(top, bottom) -/
def spLow : Sp := fun vs H Q _ => ∃ (a : Int) (b : Nat), vs = [.int a, .int (b : Int)] ∧ a.natAbs < N4 ∧ b < N4 ∧ b ≠ 0 ∧
  ∀ t, H t = none → Q (.ref t) (upd H t (.tup [.int (a.fdiv ((Nat.gcd a.natAbs b : Nat) : Int)), .int ((b / Nat.gcd a.natAbs b : Nat) : Int)]))


/-- ratio_of(x) -/
def spRatio (K : PySem.W.Frag) (BT TL : Addr) : Sp := fun vs H Q E => ∃ x, vs = [x] ∧
  ((∃ l, x = .str (S l) ∧ l.length ≤ 20000 ∧
    (∀ c, res l = .text c → ∀ d H1, H1 d = none → Same H H1 → E (.ref BT) (some d) (upd H1 d (.xd [("column", .int (c : Int)), ("line", .int 1)]))) ∧
    (∀ n, res l = .large n → ∀ d H1, H1 d = none → Same H H1 → E (.ref TL) (some d) (upd H1 d (.xd [("limit", .int 4000), ("number", .int (n : Int)), ("what", .str "digits")]))) ∧
    (∀ p r, res l = .ratio p r → ∀ t H1, H1 t = none → Same H H1 → Q (.ref t) (upd H1 t (.tup [.int p, .int r])))) ∨
   (∃ u, TyX K H x u ∧ PySem.W.kitOne K u (.type "str") = some false ∧ ∀ d H1, H1 d = none → Same H H1 → E (.ref BT) (some d) (upd H1 d (.xd [("column", .int 0), ("line", .int 0)]))))
theorem one4 : 1 < N4 := by unfold N4; decide +kernel
theorem none_of_same {H H' : Hp} {a : Addr} (s : Same H H') (h : H' a = none) : H a = none := by
  cases e : H a with
  | none => rfl
  | some o => rw [s _ _ e] at h; cases h
theorem Same.updn {H H' : Hp} {a : Addr} {o : HO} (s : Same H H') (h : H a = none) : Same H (upd H' a o) := fun b u e => by
  rw [upd_ne (fun z => by rw [z, h] at e; cases e)]; exact s _ _ e
/-- what a text is told to be -/
def resD : Res → PyData
  | .text c => .tuple [.str "text", .int (c : Int)]
  | .large n => .tuple [.str "large", .int (n : Int)]
  | .ratio p r => .tuple [.str "ratio", .tuple [.int p, .int r]]
/-- _law_due(text) -/
def spDue (K : PySem.W.Frag) : Sp := fun vs H Q _ => ∃ (l : List Nat), vs = [.str (S l)] ∧ l.length ≤ 20000 ∧ ∀ t H', Same H H' → Dp K H' (.ref t) (resD (res l)) → Q (.ref t) H'


theorem res_ratio {l : List Nat} {p r : Int} (h : res l = .ratio p r) : p.natAbs < N6 ∧ r.natAbs < N6 ∧ 0 < r ∧ Nat.gcd p.natAbs r.natAbs = 1 := by
  have hw : wcol l = 0 := by
    rcases Nat.eq_zero_or_pos (wcol l) with z | z
    · exact z
    · rw [res_bad z] at h; cases h
  rw [res_ok hw] at h
  have red_ok : ∀ a b : Nat, a < N4 → b < N4 → b ≠ 0 → (sgn l (red a b).1).natAbs < N6 ∧ (red a b).2.natAbs < N6 ∧ 0 < (red a b).2 ∧ Nat.gcd (sgn l (red a b).1).natAbs (red a b).2.natAbs = 1 := by
    intro a b ha hb h0
    have hg : 0 < Nat.gcd a b := Nat.gcd_pos_of_pos_right a (Nat.pos_of_ne_zero h0)
    have e1 : (sgn l (red a b).1).natAbs = a / Nat.gcd a b := sgn_abs l _
    have e2 : (red a b).2.natAbs = b / Nat.gcd a b := Int.natAbs_natCast _
    have p46 := pow46
    refine ⟨?_, ?_, ?_, ?_⟩
    · rw [e1]; exact Nat.lt_of_le_of_lt (Nat.div_le_self _ _) (by omega)
    · rw [e2]; exact Nat.lt_of_le_of_lt (Nat.div_le_self _ _) (by omega)
    · have : 0 < b / Nat.gcd a b := Nat.div_pos (Nat.le_of_dvd (Nat.pos_of_ne_zero h0) (Nat.gcd_dvd_right a b)) hg
      show (0 : Int) < ((b / Nat.gcd a b : Nat) : Int)
      omega
    · rw [e1, e2, Nat.gcd_div (Nat.gcd_dvd_left a b) (Nat.gcd_dvd_right a b), Nat.div_self hg]
  by_cases h1 : 4000 < mid0 l - fst0 l
  · rw [if_pos h1] at h; cases h
  · rw [if_neg h1] at h
    have ht := topV_lt (l := l) (by omega)
    by_cases h2 : slash0 l = true
    · rw [if_pos h2] at h
      by_cases h3 : 4000 < end0 l - (mid0 l + 1)
      · rw [if_pos h3] at h; cases h
      · rw [if_neg h3] at h
        by_cases h4 : botV l = 0
        · rw [if_pos h4] at h; cases h
        · rw [if_neg h4] at h
          injection h with e1 e2
          subst e1 e2
          exact red_ok _ _ ht (botV_lt h2 (by omega)) h4
    · rw [if_neg h2] at h
      injection h with e1 e2
      subst e1 e2
      have := red_ok (topV l) 1 ht one4 (by decide)
      unfold red at this
      rw [Nat.gcd_one_right, Nat.div_one] at this
      exact this
/-- _law_read(text) -/
def spRead (K : PySem.W.Frag) : Sp := fun vs H Q _ => ∃ (l : List Nat), vs = [.str (S l)] ∧ l.length ≤ 20000 ∧ ∀ t H', Same H H' → Dp K H' (.ref t) (resD (res l)) → Q (.ref t) H'
theorem cut_from (l : List Nat) (i : Nat) : cutS (S l) (some (i : Int)) none = S (l.drop i) := by
  have e := cut_mid l i l.length
  rw [List.take_length] at e
  rw [← e]
  unfold cutS
  have h1 : HT.sIx (S l).length (S l).length none = HT.sIx (S l).length (S l).length (some ((l.length : Nat) : Int)) := by
    rw [HT.sIx_nat, HT.sIx_none, S_len, Nat.min_self]
  rw [h1]
theorem str_len {n k : Nat} (hk : 0 < k) (h : n < 10 ^ k) : (Str.ofString (toString ((n : Nat) : Int))).length ≤ k := by
  rw [show (Str.ofString (toString ((n : Nat) : Int))).length = (TL.numL n).length by rw [TL.len_tl]; exact congrArg List.length (TL.tl_num n)]
  exact TL.numL_len hk h
/-- _law_begin(pen) -/
def spBegin : Sp := fun vs H Q _ => ∃ (p c : Addr) (m : Nat), vs = [.ref p] ∧ Pen H p c m ∧ m < 800000000 ∧ ∀ (l : List Nat) H', l.length ≤ 15000 → Pen H' p c (m + 1000) → Q (.str (S l)) H'
/-- _law_bent(pen, text) -/
def spBent : Sp := fun vs H Q _ => ∃ (p c : Addr) (m : Nat) (l : List Nat), vs = [.ref p, .str (S l)] ∧ Pen H p c m ∧ m < 800000000 ∧ l.length ≤ 19000 ∧ ∀ (l' : List Nat) H', l'.length ≤ l.length + 1 → Pen H' p c (m + 10) → Q (.str (S l')) H'

/-- law's: a list of at most 63 ints is handed in, True comes out -/
def spLaw (K : PySem.W.Frag) : Sp := fun vs H Q _ => ∃ (a : Addr) (ns : List Int), vs = [.ref a] ∧ SqL K H a (ns.map V.int) ∧ ns.length ≤ 63 ∧ ∀ H', Q (.bl true) H'
theorem resD_ok (r : Res) : SeqAt.shaped (resD r) = true := by
  have h1 : PyData.strOk (Str.ofString "text") = true := by decide +kernel
  have h2 : PyData.strOk (Str.ofString "large") = true := by decide +kernel
  have h3 : PyData.strOk (Str.ofString "ratio") = true := by decide +kernel
  cases r <;> simp [h1, h2, h3, SeqAt.shaped, resD, PyData.canLay0, PyData.canLayAll0, PyData.depth, PyData.depthAll]

end AL
set_option Elab.async false
set_option maxRecDepth 100000
set_option exponentiation.threshold 70000
set_option maxHeartbeats 1000000
namespace AL
open PySem PySem.Spec PyProof.Rows L2 RZ
def top (i : Nat) : Stmt := PySem.Challenge.pw_allscales_k17_units_known.main.body.getD i (.Pass ⟨0, 0, 0, 0⟩)
section
variable {P : Program} {w : World} {K : PySem.W.Frag} {mg : Str → Option Value} {base : Heap}
abbrev st_law_pen : Stmt := top 46
theorem sc_law_pen : FnScope ["_law_script", "_law_fold", "_law_cell"] ["_law_script"] (defScope st_law_pen) := ⟨rfl, rfl, rfl, by decide +kernel, rfl, by decide +kernel, by decide +kernel⟩
theorem ok_law_pen (B : Blt mg)  {f_law_pen : Addr} {fd_law_pen : FuncData} (D_law_pen : DefAt K mg "_law_pen" st_law_pen ["_law_script"] f_law_pen fd_law_pen) : FnOk P w K mg base CX0 1 f_law_pen fd_law_pen ["_law_script"] (spPen K) := by
  refine D_law_pen.F.ok sc_law_pen (fun vs H Q E h => ?_) (fun cdv A outer s H vs Q E hr h => ?_)
  · obtain ⟨a, ns, rfl, _⟩ := h; rfl
  · have hu := hu_of hr
    refine ⟨_, (pss_cons (ps_set (i := 1) sc_law_pen.nd rfl (Or.inl rfl) pe_int)
    (pss_cons (ps_for PassesOwn.never rfl (pi_list (pv 0)) (pg_name (i := 2) sc_law_pen.nd rfl (Or.inl rfl))
      (pss_one (ps_set (i := 1) sc_law_pen.nd rfl (Or.inl rfl) (pe_op op_modN (pe_callTy call_int1 (by rfl) B.int_ (by decide +kernel) (pa_cons (pe_op op_add (pe_op op_mul (pv 1) pe_int) (pv 2)) pa_nil)) pe_int))))
    (pss_one (ps_ret (pe_disp (pps_cons pe_str (pe_callTy call_list_of (by rfl) B.list_ (by decide +kernel) (pa_cons (pv 0) pa_nil)) (pps_cons pe_str pe_int (pps_cons pe_str pe_int (pps_cons pe_str pe_int (pps_cons pe_str (pv 1) pps_nil))))) (by rfl) (by rfl) (fun z => by cases z) (by decide)))))), ?_⟩
    obtain ⟨a, ns, rfl, hS, k⟩ := h
    refine ⟨_, rfl, a, rfl, ⟨_, hS⟩, for_list (K := K) (a := a) (xs := ns.map V.int) (fun i σ H' => ∃ (f : Int) (v : Option V), σ = [some (.ref a), some (.int f), v] ∧ H' = H ∧ 0 ≤ f ∧ f < 2147483648) ⟨0, none, rfl, rfl, by decide, by decide⟩ (fun i σ H' _ ⟨_, _, _, e, _⟩ => by rw [e]; exact hS) ?_ ?_⟩
    · rintro i y σ H' hi ⟨f, v, rfl, rfl, h0, h1⟩
      obtain ⟨z, hz, rfl⟩ := map_int hi
      refine ⟨_, rfl, _, _, rfl, rfl, .inr ⟨by decide, by decide⟩, _, rfl, _, _, rfl, rfl, .inl ⟨_, rfl, _, _, rfl, rfl, (by show (1000000007 : Int) ≠ 0; decide), ?_⟩⟩
      have hb := fmod_in (a := f * 41 + z) (b := 1000000007) (by decide)
      exact ⟨_, _, rfl, rfl, hb.1, by omega⟩
    · rintro σ H' ⟨f, v, rfl, rfl, h0, h1⟩
      intro p hp
      refine ⟨_, rfl, a, _, rfl, .inl (Same.seq (AL.Same.new hp) hS), fun l hl => ?_⟩
      have hlp : p ≠ l := fun e => by rw [e, upd_same] at hl; cases hl
      have hl0 : H' l = none := by rw [upd_ne hlp.symm] at hl; exact hl
      refine ⟨_, rfl, Eq.trans (upd_ne hlp) upd_same, penK l 0 0 0 f, rfl, (by show 5 ≤ 15; decide), ?_⟩
      refine k p l _ hp hl0 hlp ⟨ns, 0, 0, 0, f, Eq.trans upd_same (by kernel_rfl), ?_, by decide, by decide, by decide, by decide, h0, h1⟩ fun b o e => ?_
      · rw [upd_ne hlp.symm, upd_same]
      · rw [upd_ne (ne_of_none e hp), upd_ne (ne_of_none e hl0), upd_ne (ne_of_none e hp)]; exact e
abbrev st_law_draw : Stmt := top 47
theorem sc_law_draw : FnScope ["_law_pen_here", "_law_many", "_law_cell", "_law_digit", "_law_blend"] ["_law_pen_here", "_law_many"] (defScope st_law_draw) := ⟨rfl, rfl, rfl, by decide +kernel, rfl, by decide +kernel, by decide +kernel⟩
theorem ok_law_draw (B : Blt mg)  {f_law_draw : Addr} {fd_law_draw : FuncData} (D_law_draw : DefAt K mg "_law_draw" st_law_draw ["_law_pen_here", "_law_many"] f_law_draw fd_law_draw) : FnOk P w K mg base CX0 1 f_law_draw fd_law_draw ["_law_pen_here", "_law_many"] spDraw := by
  refine D_law_draw.F.ok sc_law_draw (fun vs H Q E h => ?_) (fun cdv A outer s H vs Q E hr h => ?_)
  · obtain ⟨p, c, m, k, rfl, _⟩ := h; rfl
  · have hu := hu_of hr
    refine ⟨_, (pss_cons (ps_dput hu (pv 0) pe_str (pe_op op_add (pe_dget hu (pv 0) pe_str (fun _ _ => rfl)) pe_int) rfl)
    (Evl.pss_cut (ps_if (PW.pt (pw_and (pt_cmpR op_eq (pe_dget hu (pv 0) pe_str (fun _ _ => rfl)) pe_int (nomark _)) (pw_and1 (pt_cmpR op_lt (pe_dget hu (pv 0) pe_str (fun _ _ => rfl)) (pe_callB call_len_seq (by rfl) B.len_ (by decide +kernel) (pa_cons (pe_dget hu (pv 0) pe_str (fun _ _ => rfl)) pa_nil)) (nomark _))))) (pss_cons (ps_set (i := 2) sc_law_draw.nd rfl (Or.inl rfl) (pe_ix ix_seq (pe_dget hu (pv 0) pe_str (fun _ _ => rfl)) (pe_dget hu (pv 0) pe_str (fun _ _ => rfl)) (fun _ _ => rfl)))
    (pss_cons (ps_dput hu (pv 0) pe_str (pe_op op_add (pe_dget hu (pv 0) pe_str (fun _ _ => rfl)) pe_int) rfl)
    (pss_one (ps_if (pt_cmpR op_ge (pv 2) (pe_op op_pow pe_int pe_int) (nomark _)) (pss_one (ps_dput hu (pv 0) pe_str (pe_op op_sub (pv 2) (pe_op op_pow pe_int pe_int)) rfl)) (pss_one (ps_dput hu (pv 0) pe_str (pe_op op_modN (pe_callTy call_int1 (by rfl) B.int_ (by decide +kernel) (pa_cons (pe_op op_add (pe_op op_mul (pe_dget hu (pv 0) pe_str (fun _ _ => rfl)) pe_int) (pv 2)) pa_nil)) pe_int) rfl)))))) pss_nil)
    (pss_cons (ps_if (pt_cmpR op_gt (pe_dget hu (pv 0) pe_str (fun _ _ => rfl)) pe_int (nomark _)) (pss_cons (ps_set (i := 3) sc_law_draw.nd rfl (Or.inl rfl) (pe_op op_modN (pe_callTy call_int1 (by rfl) B.int_ (by decide +kernel) (pa_cons (pe_dget hu (pv 0) pe_str (fun _ _ => rfl)) pa_nil)) (pv 1)))
    (pss_cons (ps_dput hu (pv 0) pe_str (pe_op op_fdivN (pe_dget hu (pv 0) pe_str (fun _ _ => rfl)) (pv 1)) rfl)
    (pss_one (ps_ret (pv 3))))) pss_nil)
    (pss_cons (ps_set (i := 4) sc_law_draw.nd rfl (Or.inl rfl) (pe_op op_add (pe_op op_add (pe_dget hu (pv 0) pe_str (fun _ _ => rfl)) (pe_op op_mul (pe_dget hu (pv 0) pe_str (fun _ _ => rfl)) pe_int)) pe_int))
    (pss_one (ps_ret (pe_op op_modN (pe_op op_fdivN (pe_callTy call_int1 (by rfl) B.int_ (by decide +kernel) (pa_cons (pe_op op_modN (pe_op op_pow (pv 4) pe_int) pe_int) pa_nil)) pe_int) (pv 1)))))))), ?_⟩
    obtain ⟨p, c, m, k, rfl, P, hm, hk0, hk1, q⟩ := h
    obtain ⟨ns, i, d, n, f, hp, hc, hi, hd, hn, hnm, hf0, hf1⟩ := P.ex
    have hcp : c ≠ p := fun e => by rw [e, hp] at hc; cases hc
    have s5 : (5 : Nat) < sizeLine := by decide
    -- count
    refine ⟨_, rfl, p, _, rfl, dget (k := Sum.inr "count") hp pen_count, _, _, rfl, rfl, _, rfl, p, _, rfl, dput (k := Sum.inr "count") hp s5 put_count, ?_⟩
    refine ⟨fun σ' H' => ∃ (i' d' f' : Int) (v : Option V), σ' = [some (.ref p), some (.int k), v, none, none] ∧ H' p = some (.dK (penK c i' d' (n + 1) f')) ∧ 0 ≤ i' ∧ 0 ≤ d' ∧ 0 ≤ f' ∧ f' < 2147483648 ∧ Keep p H H', ?_, ?_⟩
    · -- digits == 0 and at < len(cells)
      have n1 : ∀ {o}, upd H p o c = some (.lst (ns.map V.int)) := fun {o} => by rw [upd_ne hcp]; exact hc
      refine ⟨_, rfl, p, _, rfl, dget (k := Sum.inr "digits") upd_same pen_digits, rfl, _, rfl, ?_⟩
      refine ite2 (fun hd0 => ?_) (fun hd0 => ?_)
      · refine ⟨_, rfl, p, _, rfl, dget (k := Sum.inr "at") upd_same pen_at, _, rfl, p, _, rfl, dget (k := Sum.inr "cells") upd_same pen_cells, c, _, rfl, .inl (SqL.of n1), _, _, rfl, rfl, _, rfl, ?_⟩
        refine ite2 (fun hlt => ?_) (fun hlt => ?_)
        · have hlt' := of_decide_eq_true hlt
          rw [List.length_map] at hlt'
          obtain ⟨j, rfl⟩ := Int.eq_ofNat_of_zero_le hi
          have hj : j < ns.length := by omega
          -- cell, at
          refine ⟨_, rfl, p, _, rfl, dget (k := Sum.inr "cells") upd_same pen_cells, _, rfl, p, _, rfl, dget (k := Sum.inr "at") upd_same pen_at, .inl ⟨c, _, _, .int ns[j], rfl, rfl, SqL.of n1, at_of rfl (by rw [List.getElem?_map, List.getElem?_eq_getElem hj]; rfl), ?_⟩⟩
          refine ⟨_, rfl, p, _, rfl, dget (k := Sum.inr "at") upd_same pen_at, _, _, rfl, rfl, _, rfl, p, _, rfl, dput (k := Sum.inr "at") upd_same s5 put_at, ?_⟩
          refine ⟨_, rfl, _, _, rfl, rfl, ⟨by decide, by decide, by decide⟩, _, _, rfl, rfl, _, rfl, ?_⟩
          refine ite2 (fun hc18 => ?_) (fun hc18 => ?_)
          · have hc18' := of_decide_eq_true hc18
            refine ⟨_, rfl, _, _, rfl, rfl, ⟨by decide, by decide, by decide⟩, _, _, rfl, rfl, _, rfl, p, _, rfl, dput (k := Sum.inr "digits") upd_same s5 put_digits, ?_⟩
            refine ⟨_, _, _, _, rfl, upd_same, by omega, by omega, hf0, hf1, fun b o nb e => ?_⟩
            rw [upd_ne nb, upd_ne nb, upd_ne nb]; exact e
          · refine ⟨_, rfl, p, _, rfl, dget (k := Sum.inr "fold") upd_same pen_fold, _, _, rfl, rfl, .inr ⟨by decide, by decide⟩, _, rfl, _, _, rfl, rfl, .inl ⟨_, rfl, _, _, rfl, rfl, (by show (2147483587 : Int) ≠ 0; decide), _, rfl, p, _, rfl, dput (k := Sum.inr "fold") upd_same s5 put_fold, ?_⟩⟩
            have hb := fmod_in (a := f * 69069 + ns[j]) (b := 2147483587) (by decide)
            refine ⟨_, _, _, _, rfl, upd_same, by omega, hd, hb.1, by omega, fun b o nb e => ?_⟩
            rw [upd_ne nb, upd_ne nb, upd_ne nb]; exact e
        · exact ⟨_, _, _, _, rfl, upd_same, hi, hd, hf0, hf1, Keep.upd⟩
      · exact iteF ⟨_, _, _, _, rfl, upd_same, hi, hd, hf0, hf1, Keep.upd⟩
    · rintro σ H1 ⟨i1, d1, f1, v, rfl, hp1, hi1, hd1, hf01, hf11, kp⟩
      have pen' : ∀ {H2 : Hp} {i2 d2 f2 : Int}, H2 p = some (.dK (penK c i2 d2 (n + 1) f2)) → 0 ≤ i2 → 0 ≤ d2 → 0 ≤ f2 → f2 < 2147483648 → Keep p H H2 → Pen H2 p c (m + 1) := fun {H2 i2 d2 f2} e a1 a2 a3 a4 kk =>
        ⟨ns, i2, d2, n + 1, f2, e, kk c _ hcp hc, a1, a2, by omega, by omega, a3, a4⟩
      refine ⟨_, rfl, p, _, rfl, dget (k := Sum.inr "digits") hp1 pen_digits, _, _, rfl, rfl, _, rfl, ?_⟩
      refine ite2 (fun hpos => ?_) (fun hpos => ?_)
      · have hpos' := of_decide_eq_true hpos
        refine ⟨_, rfl, p, _, rfl, dget (k := Sum.inr "digits") hp1 pen_digits, .inl ⟨_, rfl, _, rfl, _, _, rfl, rfl, by show k ≠ 0; omega, ?_⟩⟩
        refine ⟨_, rfl, p, _, rfl, dget (k := Sum.inr "digits") hp1 pen_digits, _, rfl, _, _, rfl, rfl, ⟨by show k ≠ 0; omega, by show k.natAbs < 1073741824; omega⟩, _, rfl, p, _, rfl, dput (k := Sum.inr "digits") hp1 s5 put_digits, _, rfl, ?_⟩
        have hb := fmod_in (a := d1) (b := k) hk0
        have kk : Keep p H (upd H1 p (.dK (penK c i1 (d1.fdiv k) (n + 1) f1))) := kp.trans Keep.upd
        exact q _ _ hb.1 hb.2 (pen' upd_same hi1 (fdiv_nn hd1 hk0) hf01 hf11 kk) kk
      · refine ⟨_, rfl, p, _, rfl, dget (k := Sum.inr "fold") hp1 pen_fold, _, rfl, p, _, rfl, dget (k := Sum.inr "count") hp1 pen_count, _, _, rfl, rfl, .inr ⟨by decide, by decide⟩, _, _, rfl, rfl, _, _, rfl, rfl, ?_⟩
        refine ⟨_, rfl, _, _, rfl, rfl, ⟨by decide, by decide, by show (f1 + (n + 1) * 7907 + 37).natAbs < 2 ^ 64; omega⟩, _, _, rfl, rfl, (by show (2305843009213693951 : Int) ≠ 0; decide), .inl ⟨_, rfl, _, _, rfl, rfl, ⟨by decide, by decide⟩, _, rfl, _, _, rfl, rfl, by show k ≠ 0; omega, ?_⟩⟩
        have hb := fmod_in (a := (((f1 + (n + 1) * 7907 + 37) ^ ((17 : Int)).toNat).fmod 2305843009213693951).fdiv 128) (b := k) hk0
        exact q _ _ hb.1 hb.2 (pen' hp1 hi1 hd1 hf01 hf11 kp) kp
abbrev st_law_pick : Stmt := top 48
theorem sc_law_pick : FnScope ["_law_pen_here", "_law_some"] ["_law_pen_here", "_law_some"] (defScope st_law_pick) := ⟨rfl, rfl, rfl, by decide +kernel, rfl, by decide +kernel, by decide +kernel⟩
theorem ok_law_pick (B : Blt mg)  {f_law_draw : Addr} {fd_law_draw : FuncData} (D_law_draw : DefAt K mg "_law_draw" st_law_draw ["_law_pen_here", "_law_many"] f_law_draw fd_law_draw) {f_law_pick : Addr} {fd_law_pick : FuncData} (D_law_pick : DefAt K mg "_law_pick" st_law_pick ["_law_pen_here", "_law_some"] f_law_pick fd_law_pick) : FnOk P w K mg base CX0 2 f_law_pick fd_law_pick ["_law_pen_here", "_law_some"] (spPick K) := by
  have OK_law_draw : FnOk P w K mg base CX0 1 f_law_draw fd_law_draw ["_law_pen_here", "_law_many"] spDraw := ok_law_draw B  D_law_draw
  refine D_law_pick.F.ok sc_law_pick (fun vs H Q E h => ?_) (fun cdv A outer s H vs Q E hr h => ?_)
  · obtain ⟨p, c, a, m, xs, rfl, _⟩ := h; rfl
  · have hu := hu_of hr
    refine ⟨_, (pss_one (ps_ret (pe_ix ix_list (pv 1) (pe_call OK_law_draw (hr.mono (by decide)) rfl D_law_draw.m D_law_draw.F.kp D_law_draw.b .nil pass0 (pa_cons (pv 0) (pa_cons (pe_callB call_len_seq (by rfl) B.len_ (by decide +kernel) (pa_cons (pv 1) pa_nil)) pa_nil))) (fun _ _ => rfl)))), ?_⟩
    obtain ⟨p, c, a, m, xs, rfl, P, hm, hS, hl0, hl1, q⟩ := h
    refine ⟨_, rfl, _, rfl, _, rfl, a, xs, rfl, .inl hS, p, c, m, _, rfl, P, hm, by omega, by omega, fun r H' h0 h1 P' kp => ?_⟩
    obtain ⟨j, rfl⟩ := Int.eq_ofNat_of_zero_le h0
    have hj : j < xs.length := by omega
    exact ⟨a, xs, _, xs[j], rfl, rfl, kp.seqL P hS, at_of rfl (List.getElem?_eq_getElem hj), q j _ H' (List.getElem?_eq_getElem hj) P' kp⟩
abbrev st_law_big : Stmt := top 49
theorem sc_law_big : FnScope ["_law_pen_here", "_law_figures", "_law_total", "_law_k"] ["_law_pen_here", "_law_figures"] (defScope st_law_big) := ⟨rfl, rfl, rfl, by decide +kernel, rfl, by decide +kernel, by decide +kernel⟩
theorem ok_law_big (B : Blt mg)  {f_law_draw : Addr} {fd_law_draw : FuncData} (D_law_draw : DefAt K mg "_law_draw" st_law_draw ["_law_pen_here", "_law_many"] f_law_draw fd_law_draw) {f_law_pick : Addr} {fd_law_pick : FuncData} (D_law_pick : DefAt K mg "_law_pick" st_law_pick ["_law_pen_here", "_law_some"] f_law_pick fd_law_pick) {f_law_big : Addr} {fd_law_big : FuncData} (D_law_big : DefAt K mg "_law_big" st_law_big ["_law_pen_here", "_law_figures"] f_law_big fd_law_big) : FnOk P w K mg base CX0 3 f_law_big fd_law_big ["_law_pen_here", "_law_figures"] spBig := by
  have OK_law_draw : FnOk P w K mg base CX0 1 f_law_draw fd_law_draw ["_law_pen_here", "_law_many"] spDraw := ok_law_draw B  D_law_draw
  have OK_law_pick : FnOk P w K mg base CX0 2 f_law_pick fd_law_pick ["_law_pen_here", "_law_some"] (spPick K) := ok_law_pick B  D_law_draw D_law_pick
  refine D_law_big.F.ok sc_law_big (fun vs H Q E h => ?_) (fun cdv A outer s H vs Q E hr h => ?_)
  · obtain ⟨p, c, m, k, rfl, _⟩ := h; rfl
  · have hu := hu_of hr
    refine ⟨_, (pss_cons (ps_set (i := 2) sc_law_big.nd rfl (Or.inl rfl) pe_int)
    (pss_cons (ps_for PassesOwn.never rfl (pi_range1 rfl B.range_ (pa_cons (pe_call OK_law_pick (hr.mono (by decide)) rfl D_law_pick.m D_law_pick.F.kp D_law_pick.b .nil pass0 (pa_cons (pv 0) (pa_cons (pe_lst (pa_cons pe_int (pa_cons pe_int (pa_cons pe_int (pa_cons pe_int (pa_cons pe_int (pa_cons (pe_op op_fdivN (pe_op op_add (pv 1) pe_int) pe_int) pa_nil))))))) pa_nil))) pa_nil)) (pg_name (i := 3) sc_law_big.nd rfl (Or.inl rfl))
      (pss_one (ps_set (i := 2) sc_law_big.nd rfl (Or.inl rfl) (pe_op op_add (pe_op op_mul (pv 2) pe_int) (pe_call OK_law_draw (hr.mono (by decide)) rfl D_law_draw.m D_law_draw.F.kp D_law_draw.b .nil pass0 (pa_cons (pv 0) (pa_cons pe_int pa_nil)))))))
    (pss_one (ps_ret (pe_callTy call_int_str (by rfl) B.int_ (by decide +kernel) (pa_cons (pe_slice sl_str (pe_callTy call_str_int (by rfl) B.str_ (by decide +kernel) (pa_cons (pv 2) pa_nil)) (po_some (pe_un un_neg (pv 1))) po_none) pa_nil)))))), ?_⟩
    obtain ⟨p, c, m, k, rfl, P, hm, hk0, hk1, q⟩ := h
    refine ⟨_, rfl, _, rfl, _, _, rfl, rfl, _, _, rfl, rfl, ⟨by decide, by decide⟩, (by show 6 ≤ sizeLine; decide), fun l hl => ?_⟩
    refine ⟨p, c, l, m, _, rfl, P.same (AL.Same.new hl), by omega, SqL.of upd_same, (by show 0 < 6; decide), (by show 6 < 1000000000; decide), fun j x H1 hx P1 k1 => ?_⟩
    have hx' : ∃ t : Nat, x = V.int (t : Int) ∧ t ≤ 134 := by
      refine pick_of (P := fun x => ∃ t : Nat, x = V.int (t : Int) ∧ t ≤ 134) (fun y hy => ?_) hx
      simp only [List.mem_cons, List.not_mem_nil, or_false] at hy
      rcases hy with rfl | rfl | rfl | rfl | rfl | rfl
      · exact ⟨1, rfl, by decide⟩
      · exact ⟨1, rfl, by decide⟩
      · exact ⟨1, rfl, by decide⟩
      · exact ⟨2, rfl, by decide⟩
      · exact ⟨3, rfl, by decide⟩
      · refine ⟨(k + 2) / 3, ?_, by omega⟩
        rw [Int.fdiv_eq_ediv_of_nonneg _ (by decide)]
        congr 1
    obtain ⟨t, rfl, ht⟩ := hx'
    have kk1 : Keep p H H1 := (Keep.new hl).trans k1
    refine ⟨_, rfl, by omega, by omega, for_range (lo := 0) (n := ((t : Int)).toNat) (fun i σ H' => ∃ (n : Nat) (v : Option V), σ = [some (.ref p), some (.int (k : Int)), some (.int (n : Int)), v] ∧ n < 1000 ^ i ∧ Pen H' p c (m + 1 + i) ∧ Keep p H H') ⟨0, none, rfl, by decide, P1, kk1⟩ ?_ ?_⟩
    · rintro i σ H' hi ⟨n, v, rfl, hn, P2, k2⟩
      have hi' : i < t := by omega
      refine ⟨_, rfl, _, _, rfl, rfl, .inr ⟨by decide, by decide⟩, _, rfl, p, c, m + 1 + i, _, rfl, P2, by omega, by decide, by decide, fun r H2 hr0 hr1 P3 k3 => ?_⟩
      obtain ⟨r, rfl⟩ := Int.eq_ofNat_of_zero_le hr0
      refine ⟨_, _, rfl, rfl, ⟨n * 1000 + r, some (.int (0 + (i : Int))), ?_, ?_, P3, k2.trans k3⟩⟩
      · rfl
      · rw [Nat.pow_succ]; omega
    · rintro σ H' ⟨n, v, rfl, hn, P2, k2⟩
      have hn' : n < 10 ^ 402 := by
        rw [thousand] at hn
        exact Nat.lt_of_lt_of_le hn (Nat.pow_le_pow_right (by decide) (by omega))
      have hl2 : (TL.numL n).length ≤ 402 := TL.numL_len (by decide) hn'
      have hld := last_digits (n := n) (k := k) hk0 (by omega)
      have hz : (Str.ofString (toString ((n : Nat) : Int))).length ≤ sizeLine := by
        rw [show (Str.ofString (toString ((n : Nat) : Int))).length = (TL.numL n).length by rw [TL.len_tl]; exact congrArg List.length (TL.tl_num n)]
        exact Nat.le_trans hl2 (by decide)
      refine ⟨_, rfl, _, rfl, log2_small (by decide) (Nat.lt_trans hn' pow402), _, rfl, _, rfl, _, rfl, _, rfl, hz, _, _, rfl, hld.2, hld.1, ?_⟩
      exact q _ _ (Nat.mod_lt _ (Nat.pow_pos (by decide))) (P2.mono (by omega)) k2
end
end AL
set_option Elab.async false
set_option maxRecDepth 100000
set_option exponentiation.threshold 70000
set_option maxHeartbeats 1000000
/-! math.lcm of two ints below 2 ^ 13000. -/
namespace AL
open PySem PySem.Spec PyProof.Rows L2 PySem.W PySem.Calls
theorem lcm_lt {x y : Nat} (hx : x < 2 ^ 13000) (hy : y < 2 ^ 13000) : x.lcm y < 2 ^ 26000 := by
  have h1 : x.lcm y ≤ x * y := by
    unfold Nat.lcm
    exact Nat.div_le_self _ _
  have h2 : x * y < 2 ^ 13000 * 2 ^ 13000 := Nat.mul_lt_mul_of_lt_of_lt hx hy
  rw [← Nat.pow_add] at h2
  exact Nat.lt_of_le_of_lt h1 h2
section
variable {X : Cx}
theorem cr_lcm : CallR X (.builtin "math.lcm") (fun vs H Q => ∃ a b : Int, vs = [.int a, .int b] ∧ a.natAbs < 2 ^ 13000 ∧ b.natAbs < 2 ^ 13000 ∧ Q (.int ((Nat.lcm a.natAbs b.natAbs : Nat) : Int)) H) := by
  intro pins s σ H vs us Q I r h
  obtain ⟨a, b, rfl, ha, hb, q⟩ := h
  obtain ⟨t, u, rfl⟩ := Vals.int2 r
  have k : ∀ n : Nat, n < 2 ^ 13000 → ¬ n.log2 / 30 + 1 > 450 := fun n hn => by
    have := log2_small (k := 13000) (by decide) hn
    omega
  have e1 : Nat.lcm 1 a.natAbs = a.natAbs := Nat.lcm_one_left _
  have one : (1 : Nat) < 2 ^ 13000 := Nat.one_lt_two_pow (by decide)
  have sz : (((a.natAbs.lcm b.natAbs : Nat) : Int)).natAbs.log2 < bitsLine := by
    rw [Int.natAbs_natCast]
    exact Nat.lt_of_lt_of_le (log2_small (k := 26000) (by decide) (lcm_lt ha hb)) (by decide +kernel)
  have g := mg_run_lcm a t b u (k _ (Nat.max_lt.mpr ⟨one, ha⟩)) (k _ (Nat.max_lt.mpr ⟨ha, hb⟩)) (by rw [e1]; exact sz)
  rw [e1] at g
  exact call_function_meets MGF.kind_lcm MGF.plain_lcm MGF.entry_lcm (MGF.args_lcm _ _) g.meets ⟨.int _, H, I.tok _, ⟨_, rfl⟩, q⟩
end
end AL
set_option Elab.async false
set_option maxRecDepth 100000
set_option maxHeartbeats 2000000
/-! Operators that a class of the program writes itself; repr of any datum. -/
namespace AL
open PySem PySem.Spec PyProof.Rows L2
/-- repr(x), x any datum -/
def rReprV (K : PySem.W.Frag) : List V → Hp → VK → Prop := fun vs H Q => ∃ (v : V) (d : PyData), vs = [v] ∧ Dp K H v d ∧ d.showable = true ∧ d.hasDict = false ∧ d.depth ≤ 60 ∧ d.shown.length ≤ sizeLine ∧ Q (.str d.shown) H
theorem call_reprV {X : Cx} (gd : X.A.guards = some []) (hu : X.A.units + 64 < cLine) : CallR X (.builtin "repr") (rReprV X.K) := by
  intro pins s σ H vs us Q I r h
  obtain ⟨v, d, rfl, hd, h1, h2, h3, h4, q⟩ := h
  obtain ⟨u, rfl, ru⟩ := vals1 r
  have big : ∀ a : Addr, v = .ref a → wpAny (model X.prog X.w) X.A (call (.builtin "repr") [u]) (EP X pins σ Q) X.xe s := by
    intro a e
    subst e
    obtain rfl : u = Value.ref a := ru
    obtain ⟨as, rd⟩ := Dp.reads I d (.ref a) (.ref a) hd rfl
    exact repr_of_reads' rd h1 (PyData.noDict_hsm h2) gd (by omega) (fun _ _ z => z) (fun h' u tk kk => ⟨.str d.shown, H, I.kept (t' := tk) kk, ⟨u, rfl⟩, q⟩) h4
  cases hd with
  | non =>
    obtain rfl : u = Value.none := ru
    exact PySem.P.repr_of_none ⟨.str _, H, I.tok _, ⟨_, rfl⟩, q⟩
  | bl b =>
    obtain rfl : u = Value.bool b := ru
    refine PySem.P.repr_of_bool ⟨.str _, H, I.tok _, ⟨_, rfl⟩, ?_⟩
    cases b <;> exact q
  | int i =>
    obtain ⟨t, rfl⟩ := (show ∃ t, u = Value.int i t from ru)
    exact PySem.P.repr_of_int (by simpa [PyData.showable] using h1) ⟨.str _, H, I.tok _, ⟨_, rfl⟩, q⟩
  | str x =>
    obtain ⟨t, rfl⟩ := (show ∃ t, u = Value.str x t from ru)
    exact PySem.P.repr_of_str ⟨.str _, H, I.tok _, ⟨_, rfl⟩, q⟩ h4
  | lst hs ha => exact big _ rfl
  | tup hs ha => exact big _ rfl
/-- an instance -/
def InsAt (H : Hp) (a C : Addr) : Prop := ∃ dx fs, H a = some (.ins C dx fs)
/-- values that an own operator may hand back -/
def Told (v : V) : Prop := (∃ a, v = .ref a) ∨ ∃ b, v = .bl b
theorem cmpBack {Q : VK} {X : Cx} {pins : List (Addr × Obj)} {σ : L2.St} {u : Value} {s : Shared} (h : EP X pins σ (fun v H' => Told v ∧ Q v H') u s) : PySem.W.CmpBack (EP X pins σ Q) u s := by
  obtain ⟨v, H', I, r, t, q⟩ := h
  rcases t with ⟨a, rfl⟩ | ⟨b, rfl⟩
  · cases (show u = Value.ref a from r)
    exact ⟨.ref a, H', I, rfl, q⟩
  · cases (show u = Value.bool b from r)
    exact ⟨.bl b, H', I, rfl, q⟩
section
variable {X : Cx} {CX : CXT} {k : Nat} {f C : Addr} {fd : FuncData} {ps : List Str} {sp : Sp} {E : XK}
/-- x op y, both of the class at C, by its own method -/
def rOwn2 (C : Addr) (sp : Sp) (E : XK) : R2 := fun x y H Q => ∃ a b, x = .ref a ∧ y = .ref b ∧ InsAt H a C ∧ InsAt H b C ∧ sp [.ref a, .ref b] H (fun v H' => Told v ∧ Q v H') E
theorem op_own2 {op : Operator} (sf : PySem.W.selfFirst X.K C = true) (M : Meth X.K C (PySem.dunder op.info.2) f) (F : FnOk X.prog X.w X.K X.mg X.base CX k f fd ps sp) (hr : Room k X.A) (hb : Binds X.K fd ps []) (hx : Passes CX X E) : OpR X (binaryOp op) (rOwn2 C sp E) := by
  intro pins s σ H x y v u Q I rx ry h
  obtain ⟨a, b, rfl, rfl, ⟨dx, fs, ha⟩, ⟨dy, gs, hb'⟩, q⟩ := h
  cases rx
  cases ry
  obtain ⟨mA, J, _⟩ := ins_get I.hok ha
  obtain ⟨mB, J', _⟩ := ins_get I.hok hb'
  obtain ⟨od, J, _⟩ := J.look
  obtain ⟨od', J', _⟩ := J'.look
  obtain ⟨m, hF⟩ := I.fr
  refine PySem.W.binop_K (op := op) hF I.ok.mod.kin J J'.type sf M.at_ M.fn ?_
  exact wpAny_mono (run_fn F hr hb .nil hx I (vs := [.ref a, .ref b]) (.cons rfl (.cons rfl .nil)) q) (fun _ _ z => cmpBack z) fun _ _ z => z
/-- -x -/
def rOwn1 (C : Addr) (sp : Sp) (E : XK) : V → Hp → VK → Prop := fun x H Q => ∃ a, x = .ref a ∧ InsAt H a C ∧ sp [.ref a] H Q E
theorem un_own (M : Meth X.K C "__neg__" f) (F : FnOk X.prog X.w X.K X.mg X.base CX k f fd ps sp) (hr : Room k X.A) (hb : Binds X.K fd ps []) (hx : Passes CX X E) : UnR X (unaryOp .USub) (rOwn1 C sp E) := by
  intro pins s σ H x v Q I rx h
  obtain ⟨a, rfl, ⟨dx, fs, ha⟩, q⟩ := h
  cases rx
  obtain ⟨mA, J, _⟩ := ins_get I.hok ha
  obtain ⟨od, J, _⟩ := J.look
  unfold unaryOp
  refine wpAny_holding ?_
  show wpAny _ _ (callSpecial? (.ref a) "__neg__" >>= _) _ _ _
  refine wpAny_bind (PySem.W.special_fn I.kIn J M.at_ (beq_iff_eq.mp M.fn) ?_)
  exact wpAny_mono (run_fn F hr hb .nil hx I (vs := [.ref a]) (.cons rfl .nil) q) (fun _ _ z => wpAny_pure z) fun _ _ z => z
/-- x == y, x of the class at C -/
def rOwnE (K : PySem.W.Frag) (C : Addr) (sp : Sp) (E : XK) : R2 := fun x y H Q => ∃ a tb, x = .ref a ∧ InsAt H a C ∧ TyX K H y tb ∧ PySem.W.notFirst K C tb = true ∧ sp [.ref a, y] H (fun v H' => Told v ∧ Q v H') E
theorem op_ownE (M : Meth X.K C "__eq__" f) (F : FnOk X.prog X.w X.K X.mg X.base CX k f fd ps sp) (hr : Room k X.A) (hb : Binds X.K fd ps []) (hx : Passes CX X E) : OpR X (compareOp .Eq) (rOwnE X.K C sp E) := by
  intro pins s σ H x y v u Q I rx ry h
  obtain ⟨a, tb, rfl, ⟨dx, fs, ha⟩, ty, nf, q⟩ := h
  cases rx
  obtain ⟨mA, J, _⟩ := ins_get I.hok ha
  obtain ⟨od, J, _⟩ := J.look
  obtain ⟨m, hF⟩ := I.fr
  obtain ⟨P, Z, p, _⟩ := kit_of I ry ty
  show wpAny (model X.prog X.w) X.A (richCompare .Eq (.ref a) u) (EP X pins σ Q) X.xe s
  refine PySem.W.cmp_K (op := .Eq) (tb := tb) hr.units0 hF I.ok.mod.kin J (Z.ty _ _ I.kIn p) nf M.at_ M.fn ?_
  exact wpAny_mono (run_fn F hr hb .nil hx I (vs := [.ref a, y]) (.cons rfl (.cons ry .nil)) q) (fun _ _ z => cmpBack z) fun _ _ z => z
end
end AL
set_option Elab.async false
set_option maxRecDepth 100000
set_option exponentiation.threshold 70000
set_option maxHeartbeats 1000000
/-! Ratios as they are passed, and what the helpers of the program promise of them. -/
namespace AL
open PySem L2
def LowOk (a : Int) (b : Nat) : Prop := (a.natAbs < N4 ∧ b < N4) ∨ Nat.gcd a.natAbs b < 2 ^ 8000
/-- the pair in lowest terms -/
def nrm (a : Int) (b : Nat) : Int × Nat := (a.fdiv ((Nat.gcd a.natAbs b : Nat) : Int), b / Nat.gcd a.natAbs b)
theorem nrm_one (i : Int) : nrm i 1 = (i, 1) := by
  unfold nrm
  rw [Nat.gcd_one_right]
  show (i.fdiv ((1 : Nat) : Int), 1 / 1) = (i, 1)
  rw [Int.fdiv_eq_ediv_of_nonneg _ (by decide)]
  simp
/-- lowest(a, b) -/
def spLowC : Sp := fun vs H Q _ => ∃ (a : Int) (b : Nat), vs = [.int a, .int (b : Int)] ∧ LowOk a b ∧ b ≠ 0 ∧ ∀ t, H t = none → Q (.ref t) (upd H t (.tup [.int (nrm a b).1, .int ((nrm a b).2 : Int)]))
/-- _law_q(a, b) -/
def spQC : Sp := fun vs H Q _ => ∃ (a : Int) (b : Nat), vs = [.int a, .int (b : Int)] ∧ a.natAbs < N6 ∧ b < N6 ∧ LowOk a b ∧ b ≠ 0 ∧ ∀ t, H t = none → Q (.ref t) (upd H t (.tup [.int (nrm a b).1, .int ((nrm a b).2 : Int)]))
/-- is_whole(x), of a value of any kind -/
def spWholeV (K : PySem.W.Frag) : Sp := fun vs H Q _ => ∃ (x : V) (u : Value) (b c : Bool), vs = [x] ∧ TyX K H x u ∧ PySem.W.kitOne K u (.type "int") = some b ∧ PySem.W.kitOne K u (.type "bool") = some c ∧ Q (.bl (b && !c)) H
def flatW : V → Option Bool
  | .int _ => some true
  | .bl _ => some false
  | .non => some false
  | .str _ => some false
  | _ => none
theorem flat_ty {K : PySem.W.Frag} {H : Hp} {x : V} {w : Bool} (h : flatW x = some w) : ∃ u b c, TyX K H x u ∧ PySem.W.kitOne K u (.type "int") = some b ∧ PySem.W.kitOne K u (.type "bool") = some c ∧ (b && !c) = w := by
  cases x with
  | int i => cases h; exact ⟨_, true, false, TyX.base (.int i), rfl, rfl, rfl⟩
  | bl b => cases h; exact ⟨_, true, true, TyX.base (.bl b), rfl, rfl, rfl⟩
  | non => cases h; exact ⟨_, false, false, TyX.base .non, rfl, rfl, rfl⟩
  | str z => cases h; exact ⟨_, false, false, TyX.base (.str z), rfl, rfl, rfl⟩
  | _ => cases h
theorem flat_not {K : PySem.W.Frag} {H : Hp} {x : V} {w : Bool} (h : flatW x = some w) : ∃ u, TyX K H x u ∧ PySem.W.kitOne K u (.type "tuple") = some false := by
  cases x with
  | int i => exact ⟨_, TyX.base (.int i), rfl⟩
  | bl b => exact ⟨_, TyX.base (.bl b), rfl⟩
  | non => exact ⟨_, TyX.base .non, rfl⟩
  | str z => exact ⟨_, TyX.base (.str z), rfl⟩
  | _ => cases h
/-- are_integers(t), t a tuple of flat values -/
def spAre (K : PySem.W.Frag) : Sp := fun vs H Q _ => ∃ (t : Addr) (xs : List V) (f : V → Bool), vs = [.ref t] ∧ H t = some (.tup xs) ∧ xs.length ≤ 100 ∧ (∀ x ∈ xs, flatW x = some (f x)) ∧ ∀ H', Same H H' → Q (.bl (xs.all f)) H'
/-- what may be passed for a ratio: none where it is none -/
inductive RatV (K : PySem.W.Frag) (H : Hp) : V → Option (Int × Nat) → Prop
  | int (i : Int) : RatV K H (.int i) (some (i, 1))
  | pair {t : Addr} {p : Int} {q : Nat} (h : H t = some (.tup [.int p, .int (q : Int)])) (h0 : 0 < q) : RatV K H (.ref t) (some (p, q))
  | other {x : V} {u : Value} {b c : Bool} (h : TyX K H x u) (ht : PySem.W.kitOne K u (.type "tuple") = some false) (hb : PySem.W.kitOne K u (.type "int") = some b) (hc : PySem.W.kitOne K u (.type "bool") = some c) (no : (b && !c) = false) : RatV K H x none
  | long {t : Addr} {xs : List V} (h : H t = some (.tup xs)) (hl : xs.length ≠ 2) : RatV K H (.ref t) none
  | item {t : Addr} {x y : V} {b c : Bool} (h : H t = some (.tup [x, y])) (hx : flatW x = some b) (hy : flatW y = some c) (no : (b && c) = false) : RatV K H (.ref t) none
  | sign {t : Addr} {p q : Int} (h : H t = some (.tup [.int p, .int q])) (h0 : q ≤ 0) : RatV K H (.ref t) none
theorem RatV.same {K : PySem.W.Frag} {H H' : Hp} {x : V} {r : Option (Int × Nat)} (h : RatV K H x r) (s : Same H H') (ty : ∀ u, TyX K H x u → TyX K H' x u) : RatV K H' x r := by
  cases h with
  | int i => exact .int i
  | pair h h0 => exact .pair (s _ _ h) h0
  | other h ht hb hc no => exact .other (ty _ h) ht hb hc no
  | long h hl => exact .long (s _ _ h) hl
  | item h hx hy no => exact .item (s _ _ h) hx hy no
  | sign h h0 => exact .sign (s _ _ h) h0
/-- is_ratio(x) -/
def spIsRatV (K : PySem.W.Frag) : Sp := fun vs H Q _ => ∃ (x : V) (r : Option (Int × Nat)), vs = [x] ∧ RatV K H x r ∧ ∀ H', Same H H' → Q (.bl r.isSome) H'
/-- as_ratio(x) -/
def spAs (K : PySem.W.Frag) : Sp := fun vs H Q _ => ∃ (x : V) (p : Int) (q : Nat), vs = [x] ∧ RatV K H x (some (p, q)) ∧ LowOk p q ∧ ∀ t, H t = none → Q (.ref t) (upd H t (.tup [.int (nrm p q).1, .int ((nrm p q).2 : Int)]))
/-- whole_power(b, n) -/
def spPow : Sp := fun vs H Q _ => ∃ (b : Int) (n a : Nat), vs = [.int b, .int (n : Int)] ∧ b.natAbs < 2 ^ a ∧ 0 < a ∧ a * n ≤ 400000 ∧ a ≤ 400000 ∧ Q (.int (b ^ n)) H
/-- digits_of(i) -/
def spDig : Sp := fun vs H Q _ => ∃ (i : Int), vs = [.int i] ∧ Q (.int ((ndig i.natAbs : Nat) : Int)) H
/-- newton_step(n, j + 1, g) -/
def spStep : Sp := fun vs H Q _ => ∃ (n j g : Nat), vs = [.int (n : Int), .int ((j + 1 : Nat) : Int), .int (g : Int)] ∧ n < 2 ^ 8000 ∧ j < 1000 ∧ 0 < g ∧ g < 2 ^ 8100 ∧ g ^ j < 2 ^ 13500 ∧ Q (.int ((nstep n j g : Nat) : Int)) H
/-- floor_root(n, k) -/
def spFloor : Sp := fun vs H Q _ => ∃ (n k : Nat), vs = [.int (n : Int), .int (k : Int)] ∧ n < 2 ^ 4000 ∧ 0 < k ∧ k < 1000 ∧ ∀ g, isRoot n k g → Q (.int (g : Int)) H
/-- whole_root(n, k) -/
def spRoot : Sp := fun vs H Q _ => ∃ (n k : Nat), vs = [.int (n : Int), .int (k : Int)] ∧ n < 2 ^ 4000 ∧ 0 < k ∧ k < 1000 ∧ (∀ r, r ^ k = n → Q (.int (r : Int)) H) ∧ ((∀ r, r ^ k ≠ n) → Q .non H)
/-- ratio_root((p, q), k) -/
def spRatRoot (K : PySem.W.Frag) : Sp := fun vs H Q _ => ∃ (t : Addr) (p q k : Nat), vs = [.ref t, .int (k : Int)] ∧ H t = some (.tup [.int (p : Int), .int (q : Int)]) ∧ p < 2 ^ 4000 ∧ q < 2 ^ 4000 ∧ 0 < k ∧ k < 1000 ∧
  (∀ a b t', a ^ k = p → b ^ k = q → H t' = none → Q (.ref t') (upd H t' (.tup [.int (a : Int), .int (b : Int)]))) ∧ ((∀ a b, ¬ (a ^ k = p ∧ b ^ k = q)) → Q .non H)
end AL
set_option Elab.async false
set_option maxRecDepth 100000
set_option exponentiation.threshold 70000
set_option maxHeartbeats 1000000
/-! What ratio_text and root_of promise. -/
namespace AL
open PySem L2
def numI (a : Int) : Str := Str.ofString (toString a)
/-- the shortest text of a ratio in lowest terms -/
def txt (a : Int) (b : Nat) : Str := if b = 1 then numI a else numI a ++ "/" ++ numI (b : Int)
def many (a : Int) (b : Nat) : Nat := max (ndig a.natAbs) (ndig b)
/-- ratio_text(x) -/
def spText (K : PySem.W.Frag) (BN TL : Addr) : Sp := fun vs H Q E => ∃ (x : V) (r : Option (Int × Nat)), vs = [x] ∧ RatV K H x r ∧
  (r = none → ∀ d H1, H1 d = none → Same H H1 → E (.ref BN) (some d) (upd H1 d (.xd [("number", x), ("what", .str "ratio")]))) ∧
  (∀ p q, r = some (p, q) → LowOk p q ∧
    (4000 < many (nrm p q).1 (nrm p q).2 → ∀ d H1, H1 d = none → Same H H1 → E (.ref TL) (some d) (upd H1 d (.xd [("limit", .int 4000), ("number", .int ((many (nrm p q).1 (nrm p q).2 : Nat) : Int)), ("what", .str "digits")]))) ∧
    (many (nrm p q).1 (nrm p q).2 ≤ 4000 → ∀ H1, Same H H1 → Q (.str (txt (nrm p q).1 (nrm p q).2)) H1))
theorem RatV.someSame {K : PySem.W.Frag} {H H' : Hp} {x : V} {r : Int × Nat} (h : RatV K H x (some r)) (s : Same H H') : RatV K H' x (some r) := by
  cases h with
  | int i => exact .int i
  | pair h h0 => exact .pair (s _ _ h) h0
theorem RatV.pos {K : PySem.W.Frag} {H : Hp} {x : V} {p : Int} {q : Nat} (h : RatV K H x (some (p, q))) : 0 < q := by
  cases h with
  | int i => decide
  | pair h h0 => exact h0
/-- what may be passed for a root -/
inductive RootV (K : PySem.W.Frag) (H : Hp) : V → Option Nat → Prop
  | ok (k : Nat) (h1 : 1 ≤ k) (h2 : k ≤ 60) : RootV K H (.int (k : Int)) (some k)
  | far (i : Int) (h : i < 1 ∨ 60 < i) : RootV K H (.int i) none
  | other {x : V} {u : Value} {b c : Bool} (h : ∀ H', Same H H' → TyX K H' x u) (hb : PySem.W.kitOne K u (.type "int") = some b) (hc : PySem.W.kitOne K u (.type "bool") = some c) (no : (b && !c) = false) : RootV K H x none
/-- the ratio is none, or below 0 -/
def badRat : Option (Int × Nat) → Bool
  | none => true
  | some (p, q) => decide ((nrm p q).1 < 0)
/-- root_of(x, y) -/
def spRootOf (K : PySem.W.Frag) (BN : Addr) : Sp := fun vs H Q E => ∃ (x y : V) (r : Option (Int × Nat)) (k : Option Nat), vs = [x, y] ∧ RatV K H x r ∧ RootV K H y k ∧ (∀ p q, r = some (p, q) → LowOk p q) ∧
  (badRat r = true → ∀ d H1, H1 d = none → Same H H1 → E (.ref BN) (some d) (upd H1 d (.xd [("number", x), ("what", .str "ratio")]))) ∧
  (badRat r = false → k = none → ∀ d H1, H1 d = none → Same H H1 → E (.ref BN) (some d) (upd H1 d (.xd [("number", y), ("what", .str "root")]))) ∧
  (∀ p q n, r = some (p, q) → badRat r = false → k = some n → (nrm p q).1.natAbs < 2 ^ 4000 ∧ (nrm p q).2 < 2 ^ 4000 ∧
    (∀ u v t H1, u ^ n = (nrm p q).1.natAbs → v ^ n = (nrm p q).2 → H1 t = none → Same H H1 → Q (.ref t) (upd H1 t (.tup [.int (u : Int), .int (v : Int)]))) ∧
    ((∀ u v, ¬ (u ^ n = (nrm p q).1.natAbs ∧ v ^ n = (nrm p q).2)) → ∀ H1, Same H H1 → Q .non H1))
theorem empty_app (x : Str) : Str.empty ++ x = x := by
  cases x with
  | mk a =>
    show (⟨#[] ++ a⟩ : Str) = ⟨a⟩
    rw [Array.empty_append]
theorem numI_len {a : Int} {k : Nat} (hk : 0 < k) (h : a.natAbs < 10 ^ k) : (numI a).length ≤ k + 1 := by
  have e : (numI a).length = (toString a).length := by
    unfold numI
    rw [Str.ofString_eq_toList]
    show (((toString a).toList.map Char.toNat).toArray).size = _
    rw [List.size_toArray, List.length_map, String.length_toList]
  rw [e]
  have := int_text_length_le10 hk h
  omega
end AL
set_option Elab.async false
set_option maxRecDepth 100000
set_option exponentiation.threshold 70000
set_option maxHeartbeats 1000000
/-! What the law's own helpers promise. -/
namespace AL
open PySem L2
/-- _law_written(t) -/
def spWritten : Sp := fun vs H Q _ => ∃ (t : Addr) (a : Int) (b : Nat), vs = [.ref t] ∧ H t = some (.tup [.int a, .int (b : Int)]) ∧ many a b ≤ 4000 ∧ Q (.str (txt a b)) H
/-- _law_passed(pen, t) -/
def spPassed (K : PySem.W.Frag) : Sp := fun vs H Q _ => ∃ (p c t : Addr) (m : Nat) (a b : Nat), vs = [.ref p, .ref t] ∧ Pen H p c m ∧ m < 800000000 ∧ H t = some (.tup [.int (a : Int), .int (b : Int)]) ∧ 0 < b ∧ a < 2 ^ 4000 ∧ b < 2 ^ 4000 ∧
  ∀ (x : V) (k : Nat) H', 0 < k → k ≤ 10 → RatV K H' x (some (((a * k : Nat) : Int), b * k)) → Pen H' p c (m + 2) → Keep p H H' → Q x H'
/-- _law_power(t, n) -/
def spPower : Sp := fun vs H Q _ => ∃ (t : Addr) (a b n e : Nat), vs = [.ref t, .int (n : Int)] ∧ H t = some (.tup [.int (a : Int), .int (b : Int)]) ∧ a < 2 ^ e ∧ b < 2 ^ e ∧ 0 < e ∧ e * n ≤ 400000 ∧ e ≤ 400000 ∧ n ≤ 60 ∧
  ∀ t' H', Same H H' → H' t' = some (.tup [.int ((a ^ n : Nat) : Int), .int ((b ^ n : Nat) : Int)]) → Q (.ref t') H'
/-- _law_whole_power(a, n) -/
def spWP : Sp := fun vs H Q _ => ∃ (a n e : Nat), vs = [.int (a : Int), .int (n : Int)] ∧ a < 2 ^ e ∧ 0 < e ∧ e * n ≤ 400000 ∧ e ≤ 400000 ∧ n ≤ 60 ∧ Q (.int ((a ^ n : Nat) : Int)) H
/-- _law_is_power(n, k) -/
def spIsPow : Sp := fun vs H Q _ => ∃ (n k : Nat), vs = [.int (n : Int), .int (k : Int)] ∧ n < 2 ^ 4000 ∧ 0 < k ∧ k ≤ 60 ∧ ∀ (w : Bool) H', Same H H' → (w = true ↔ ∃ r, r ^ k = n) → Q (.bl w) H'
theorem pow_fit {a e i n : Nat} (ha : a < 2 ^ e) (he : 0 < e) (hin : i ≤ n) (hn : e * n ≤ 400000) : ((a ^ i : Nat) : Int).natAbs < 2 ^ 400001 := by
  rw [Int.natAbs_natCast]
  refine Nat.lt_of_le_of_lt (Nat.pow_le_pow_left (Nat.le_of_lt ha) i) ?_
  rw [← Nat.pow_mul]
  have := Nat.mul_le_mul_left e hin
  exact Nat.pow_lt_pow_right (by decide) (by omega)
theorem half_le {w j : Nat} (h : w ≤ 2 ^ (j + 1)) : (w + 1) / 2 ≤ 2 ^ j := by
  rw [Nat.pow_succ] at h
  omega
end AL
set_option Elab.async false
set_option maxRecDepth 100000
set_option exponentiation.threshold 70000
set_option maxHeartbeats 1000000
/-! Sums and products of ratios: both sides' promises, and what they mean. -/
namespace AL
open PySem L2
def DivOk (a b : Int) : Prop := (a.natAbs < 2 ^ 13500 ∧ b.natAbs < 2 ^ 13500) ∨ Nat.gcd a.natAbs b.natAbs < 2 ^ 8000
/-- lowest terms, the bottom of any sign -/
def shr (a b : Int) : Int := if b < 0 then -((Nat.gcd a.natAbs b.natAbs : Nat) : Int) else ((Nat.gcd a.natAbs b.natAbs : Nat) : Int)
def lowI (a b : Int) : Int × Int := (a.fdiv (shr a b), b.fdiv (shr a b))
theorem nrm_spec (a : Int) {b : Nat} (hb : 0 < b) : 0 < (nrm a b).2 ∧ Nat.gcd (nrm a b).1.natAbs (nrm a b).2 = 1 ∧ (nrm a b).1 * (b : Int) = a * ((nrm a b).2 : Int) := by
  have hg : 0 < Nat.gcd a.natAbs b := Nat.gcd_pos_of_pos_right _ hb
  have d1 : ((Nat.gcd a.natAbs b : Nat) : Int) ∣ a := Int.ofNat_dvd_left.mpr (Nat.gcd_dvd_left _ _)
  have d2 := Nat.gcd_dvd_right a.natAbs b
  have e1 : (nrm a b).1 = a / ((Nat.gcd a.natAbs b : Nat) : Int) := by
    unfold nrm
    exact Int.fdiv_eq_ediv_of_nonneg _ (by omega)
  have e2 : (nrm a b).2 = b / Nat.gcd a.natAbs b := rfl
  refine ⟨?_, ?_, ?_⟩
  · rw [e2]; exact Nat.div_pos (Nat.le_of_dvd hb d2) hg
  · rw [e1, e2, Int.natAbs_ediv_of_dvd d1, Int.natAbs_natCast, Nat.gcd_div (Nat.gcd_dvd_left _ _) d2, Nat.div_self hg]
  · rw [e1, e2]
    generalize hgg : Nat.gcd a.natAbs b = g at *
    obtain ⟨x, hx⟩ := d1
    obtain ⟨y, hy⟩ := d2
    have hg0 : (g : Int) ≠ 0 := by omega
    rw [hx, hy, Int.mul_ediv_cancel_left _ hg0, Nat.mul_div_cancel_left _ hg, Int.natCast_mul]
    rw [Int.mul_assoc, Int.mul_left_comm]
/-- two ratios in lowest terms that are the same number -/
theorem low_unique {p a : Int} {q b : Nat} (hq : 0 < q) (hb : 0 < b) (c1 : Nat.gcd p.natAbs q = 1) (c2 : Nat.gcd a.natAbs b = 1) (e : p * (b : Int) = a * (q : Int)) : p = a ∧ q = b := by
  have en : p.natAbs * b = a.natAbs * q := by
    have := congrArg Int.natAbs e
    rwa [Int.natAbs_mul, Int.natAbs_mul, Int.natAbs_natCast, Int.natAbs_natCast] at this
  have d1 : q ∣ b := (Nat.Coprime.dvd_of_dvd_mul_left (Nat.Coprime.symm c1) ⟨a.natAbs, by rw [en, Nat.mul_comm]⟩)
  have d2 : b ∣ q := (Nat.Coprime.dvd_of_dvd_mul_left (Nat.Coprime.symm c2) ⟨p.natAbs, by rw [← en, Nat.mul_comm]⟩)
  have hqb := Nat.dvd_antisymm d1 d2
  refine ⟨?_, hqb⟩
  subst hqb
  exact Int.eq_of_mul_eq_mul_right (by omega) e
theorem nrm_eq {p a : Int} {q b : Nat} (hq : 0 < q) (hb : 0 < b) (c1 : Nat.gcd p.natAbs q = 1) (e : p * (b : Int) = a * (q : Int)) : nrm a b = (p, q) := by
  obtain ⟨h1, h2, h3⟩ := nrm_spec a hb
  have e2 : p * ((nrm a b).2 : Int) = (nrm a b).1 * (q : Int) := by
    have hb0 : (b : Int) ≠ 0 := by omega
    refine Int.eq_of_mul_eq_mul_right hb0 ?_
    calc p * ((nrm a b).2 : Int) * (b : Int) = p * (b : Int) * ((nrm a b).2 : Int) := by rw [Int.mul_assoc, Int.mul_assoc, Int.mul_comm ((nrm a b).2 : Int)]
      _ = a * (q : Int) * ((nrm a b).2 : Int) := by rw [e]
      _ = a * ((nrm a b).2 : Int) * (q : Int) := by rw [Int.mul_assoc, Int.mul_assoc, Int.mul_comm (q : Int)]
      _ = (nrm a b).1 * (b : Int) * (q : Int) := by rw [← h3]
      _ = (nrm a b).1 * (q : Int) * (b : Int) := by rw [Int.mul_assoc, Int.mul_assoc, Int.mul_comm (b : Int)]
  obtain ⟨r1, r2⟩ := low_unique hq h1 c1 h2 e2
  exact Prod.ext r1.symm r2.symm
theorem lowI_pos (a : Int) (b : Nat) : lowI a (b : Int) = ((nrm a b).1, ((nrm a b).2 : Int)) := by
  have hs : shr a (b : Int) = ((Nat.gcd a.natAbs b : Nat) : Int) := by
    unfold shr
    rw [if_neg (by omega), Int.natAbs_natCast]
  unfold lowI nrm
  rw [hs, fdiv_nat]
theorem lowI_neg (a : Int) {b : Int} (h : 0 < b) : lowI a (-b) = lowI (-a) b := by
  unfold lowI shr
  rw [if_pos (by omega), if_neg (by omega), Int.natAbs_neg, Int.natAbs_neg]
  generalize ((Nat.gcd a.natAbs b.natAbs : Nat) : Int) = g
  have e : ∀ x : Int, x.fdiv (-g) = (-x).fdiv g := fun x => by
    have := Int.neg_fdiv_neg (a := -x) (b := g)
    rw [Int.neg_neg] at this
    exact this
  rw [e, e, Int.neg_neg]
/-- lowest(a, b), _law_q(a, b) -/
def spLowG : Sp := fun vs H Q _ => ∃ (a b : Int), vs = [.int a, .int b] ∧ DivOk a b ∧ b ≠ 0 ∧ ∀ t, H t = none → Q (.ref t) (upd H t (.tup [.int (lowI a b).1, .int (lowI a b).2]))
def spQG : Sp := fun vs H Q _ => ∃ (a b : Int), vs = [.int a, .int b] ∧ a.natAbs < N6 ∧ b.natAbs < N6 ∧ DivOk a b ∧ b ≠ 0 ∧ ∀ t, H t = none → Q (.ref t) (upd H t (.tup [.int (lowI a b).1, .int (lowI a b).2]))
/-- a ratio at t -/
def RatAt (H : Hp) (t : Addr) (a : Int) (b : Nat) : Prop := H t = some (.tup [.int a, .int (b : Int)])
def Mid (a : Int) (b : Nat) : Prop := 0 < b ∧ a.natAbs < 2 ^ 6000 ∧ b < 2 ^ 6000
/-- what two ratios make -/
def spTwo (f : Int → Nat → Int → Nat → Int × Nat) : Sp := fun vs H Q _ => ∃ (s t : Addr) (a c : Int) (b d : Nat), vs = [.ref s, .ref t] ∧ RatAt H s a b ∧ RatAt H t c d ∧ Mid a b ∧ Mid c d ∧ ∀ u, H u = none → Q (.ref u) (upd H u (.tup [.int (f a b c d).1, .int ((f a b c d).2 : Int)]))
def sumR (a : Int) (b : Nat) (c : Int) (d : Nat) : Int × Nat := nrm (a * (d : Int) + c * (b : Int)) (b * d)
def difR (a : Int) (b : Nat) (c : Int) (d : Nat) : Int × Nat := nrm (a * (d : Int) - c * (b : Int)) (b * d)
def mulR (a : Int) (b : Nat) (c : Int) (d : Nat) : Int × Nat := nrm (a * c) (b * d)
theorem mid_mul {x y : Int} (hx : x.natAbs < 2 ^ 6000) (hy : y.natAbs < 2 ^ 6000) : CMulW x y ∧ (x * y).natAbs < 2 ^ 12000 := by
  refine ⟨wide_mul (a := 6000) (b := 6000) hx hy (by decide) (by decide) (by decide), ?_⟩
  rw [Int.natAbs_mul, show (2 : Nat) ^ 12000 = 2 ^ 6000 * 2 ^ 6000 by rw [← Nat.pow_add]]
  exact Nat.mul_lt_mul_of_lt_of_lt hx hy
theorem mid_div {x y : Int} (hx : x.natAbs < 2 ^ 12001) (hy : y.natAbs < 2 ^ 12001) : DivOk x y ∧ x.natAbs < N6 ∧ y.natAbs < N6 := by
  have h1 : (2 : Nat) ^ 12001 ≤ 2 ^ 13500 := Nat.pow_le_pow_right (by decide) (by decide)
  have h2 : (2 : Nat) ^ 12001 ≤ N6 := by unfold N6; decide +kernel
  exact ⟨.inl ⟨Nat.lt_of_lt_of_le hx h1, Nat.lt_of_lt_of_le hy h1⟩, Nat.lt_of_lt_of_le hx h2, Nat.lt_of_lt_of_le hy h2⟩
theorem up12 {x : Nat} (h : x < 2 ^ 12000) : x < 2 ^ 12001 := Nat.lt_trans h (Nat.pow_lt_pow_right (by decide) (by decide))
theorem add12 {x y : Int} (hx : x.natAbs < 2 ^ 12000) (hy : y.natAbs < 2 ^ 12000) : (x + y).natAbs < 2 ^ 12001 ∧ (x - y).natAbs < 2 ^ 12001 := by
  have e : (2 : Nat) ^ 12001 = 2 ^ 12000 + 2 ^ 12000 := by rw [show 12001 = 12000 + 1 from rfl, Nat.pow_succ, Nat.mul_two]
  rw [e]
  generalize (2 : Nat) ^ 12000 = z at hx hy ⊢
  omega
end AL
set_option Elab.async false
set_option maxRecDepth 100000
set_option exponentiation.threshold 70000
set_option maxHeartbeats 1000000
/-! Amounts: what stands in the heap, what each method promises, and the arithmetic of both sides. -/
namespace AL
open PySem L2
/-! ### ratios in lowest terms -/
def Low (p : Int) (q : Nat) : Prop := 0 < q ∧ Nat.gcd p.natAbs q = 1
theorem nrm_low {p : Int} {q : Nat} (h : Low p q) : nrm p q = (p, q) := nrm_eq h.1 h.1 h.2 rfl
theorem low_nrm (a : Int) {b : Nat} (hb : 0 < b) : Low (nrm a b).1 (nrm a b).2 := by
  obtain ⟨h1, h2, _⟩ := nrm_spec a hb
  exact ⟨h1, h2⟩
theorem nrm_le (a : Int) (b : Nat) : (nrm a b).1.natAbs ≤ a.natAbs ∧ (nrm a b).2 ≤ b := by
  unfold nrm
  refine ⟨?_, Nat.div_le_self _ _⟩
  rw [Int.fdiv_eq_ediv_of_nonneg _ (by omega), Int.natAbs_ediv_of_dvd (Int.ofNat_dvd_left.mpr (Nat.gcd_dvd_left _ _)), Int.natAbs_natCast]
  exact Nat.div_le_self _ _
theorem low_neg {p : Int} {q : Nat} (h : Low p q) : Low (-p) q := ⟨h.1, by rw [Int.natAbs_neg]; exact h.2⟩
theorem low_one (i : Int) : Low i 1 := ⟨by decide, Nat.gcd_one_right _⟩
def Sm (p : Int) (q : Nat) : Prop := p.natAbs < 2 ^ 1000 ∧ q < 2 ^ 1000
theorem sm_mid {p : Int} {q : Nat} (h : Sm p q) (l : 0 < q) : Mid p q :=
  ⟨l, Nat.lt_of_lt_of_le h.1 (Nat.pow_le_pow_right (by decide) (by decide)), Nat.lt_of_lt_of_le h.2 (Nat.pow_le_pow_right (by decide) (by decide))⟩
/-- what a quotient of two ratios is -/
def ovR (p : Int) (q : Nat) (c : Int) (d : Nat) : Int × Nat := if c < 0 then nrm (-(p * d)) (q * c.natAbs) else nrm (p * d) (q * c.natAbs)
theorem ovR_eq (p : Int) (q : Nat) (c : Int) (d : Nat) (hq : 0 < q) (hc : c ≠ 0) : lowI (p * d) ((q : Int) * c) = ((ovR p q c d).1, ((ovR p q c d).2 : Int)) := by
  unfold ovR
  by_cases h : c < 0
  · rw [if_pos h]
    have e : (q : Int) * c = -(((q * c.natAbs : Nat) : Int)) := by
      rw [Int.natCast_mul, show ((c.natAbs : Nat) : Int) = -c by omega, Int.mul_neg, Int.neg_neg]
    have pos : (0 : Int) < ((q * c.natAbs : Nat) : Int) := by
      have : 0 < q * c.natAbs := Nat.mul_pos hq (Int.natAbs_pos.mpr hc)
      omega
    rw [e, lowI_neg _ pos, lowI_pos]
  · rw [if_neg h]
    have e : (q : Int) * c = (((q * c.natAbs : Nat) : Int)) := by
      rw [Int.natCast_mul, show ((c.natAbs : Nat) : Int) = c by omega]
    rw [e, lowI_pos]
theorem ovR_low (p : Int) (q : Nat) (c : Int) (d : Nat) (hq : 0 < q) (hc : c ≠ 0) : Low (ovR p q c d).1 (ovR p q c d).2 := by
  have pos : 0 < q * c.natAbs := Nat.mul_pos hq (Int.natAbs_pos.mpr hc)
  unfold ovR
  split
  · exact low_nrm _ pos
  · exact low_nrm _ pos
theorem mul2 {x y : Nat} (a b : Nat) (hx : x < 2 ^ a) (hy : y < 2 ^ b) : x * y < 2 ^ (a + b) := by
  rw [Nat.pow_add]
  exact Nat.mul_lt_mul_of_lt_of_lt hx hy
theorem up6 {x a : Nat} (h : x < 2 ^ a) (ha : a ≤ 6000) : x < 2 ^ 6000 := Nat.lt_of_lt_of_le h (Nat.pow_le_pow_right (by decide) ha)
theorem nrm_mid {a : Int} {b : Nat} (hb : 0 < b) (h1 : a.natAbs < 2 ^ 6000) (h2 : b < 2 ^ 6000) : Mid (nrm a b).1 (nrm a b).2 :=
  ⟨(low_nrm a hb).1, Nat.lt_of_le_of_lt (nrm_le a b).1 h1, Nat.lt_of_le_of_lt (nrm_le a b).2 h2⟩
theorem sm_prod {a : Int} {b : Nat} (h1 : a.natAbs < 2 ^ 1000) (h2 : b < 2 ^ 1000) : (a * (b : Int)).natAbs < 2 ^ 2000 := by
  rw [Int.natAbs_mul, Int.natAbs_natCast]
  exact mul2 1000 1000 h1 h2
theorem sum_ok {p c : Int} {q d : Nat} (s : Sm p q) (t : Sm c d) (hq : 0 < q) (hd : 0 < d) : Low (sumR p q c d).1 (sumR p q c d).2 ∧ Mid (sumR p q c d).1 (sumR p q c d).2 := by
  have pos := Nat.mul_pos hq hd
  have n1 := sm_prod s.1 t.2
  have n2 := sm_prod t.1 s.2
  have e : (2 : Nat) ^ 2001 = 2 ^ 2000 + 2 ^ 2000 := by rw [show 2001 = 2000 + 1 from rfl, Nat.pow_succ, Nat.mul_two]
  have n3 : (p * (d : Int) + c * (q : Int)).natAbs < 2 ^ 2001 := by
    rw [e]; generalize (2 : Nat) ^ 2000 = z at n1 n2 ⊢; omega
  exact ⟨low_nrm _ pos, nrm_mid pos (up6 n3 (by decide)) (up6 (mul2 1000 1000 s.2 t.2) (by decide))⟩
theorem dif_eq (p : Int) (q : Nat) (c : Int) (d : Nat) : difR p q c d = sumR p q (-c) d := by
  unfold difR sumR
  rw [Int.neg_mul, Int.sub_eq_add_neg]
theorem sm_neg {p : Int} {q : Nat} (h : Sm p q) : Sm (-p) q := ⟨by rw [Int.natAbs_neg]; exact h.1, h.2⟩
theorem mul_ok {p c : Int} {q d : Nat} (s : Sm p q) (t : Sm c d) (hq : 0 < q) (hd : 0 < d) : Low (mulR p q c d).1 (mulR p q c d).2 ∧ Mid (mulR p q c d).1 (mulR p q c d).2 := by
  have pos := Nat.mul_pos hq hd
  refine ⟨low_nrm _ pos, nrm_mid pos ?_ (up6 (mul2 1000 1000 s.2 t.2) (by decide))⟩
  rw [Int.natAbs_mul]
  exact up6 (mul2 1000 1000 s.1 t.1) (by decide)
theorem ov_ok {p c : Int} {q d : Nat} (s : Sm p q) (t : Sm c d) (hq : 0 < q) (hc : c ≠ 0) : Low (ovR p q c d).1 (ovR p q c d).2 ∧ Mid (ovR p q c d).1 (ovR p q c d).2 := by
  have pos : 0 < q * c.natAbs := Nat.mul_pos hq (Int.natAbs_pos.mpr hc)
  have h1 : (p * (d : Int)).natAbs < 2 ^ 6000 := up6 (sm_prod s.1 t.2) (by decide)
  have h2 : q * c.natAbs < 2 ^ 6000 := up6 (mul2 1000 1000 s.2 t.1) (by decide)
  refine ⟨ovR_low p q c d hq hc, ?_⟩
  unfold ovR
  split
  · exact nrm_mid pos (by rw [Int.natAbs_neg]; exact h1) h2
  · exact nrm_mid pos h1 h2
/-- the power n -/
def pwR (p : Int) (q : Nat) (n : Int) : Int × Nat := if n < 0 then ovR ((q ^ n.natAbs : Nat) : Int) 1 (p ^ n.natAbs) 1 else (p ^ n.natAbs, q ^ n.natAbs)
theorem pow6 {x n : Nat} (h : x < 2 ^ 1000) (hn : n ≤ 6) : x ^ n < 2 ^ 6000 := by
  rcases Nat.eq_zero_or_pos n with rfl | h0
  · exact Nat.one_lt_two_pow (by decide)
  · refine Nat.lt_of_lt_of_le (Nat.pow_lt_pow_left h (by omega)) ?_
    rw [← Nat.pow_mul]
    exact Nat.pow_le_pow_right (by decide) (by omega)
theorem pw_ok {p : Int} {q : Nat} {n : Int} (s : Sm p q) (l : Low p q) (hn : n.natAbs ≤ 6) (h0 : ¬ (n < 0 ∧ p = 0)) : Low (pwR p q n).1 (pwR p q n).2 ∧ Mid (pwR p q n).1 (pwR p q n).2 := by
  have hp : (p ^ n.natAbs).natAbs < 2 ^ 6000 := by rw [Int.natAbs_pow]; exact pow6 s.1 hn
  have hq := pow6 s.2 hn
  unfold pwR
  by_cases h : n < 0
  · rw [if_pos h]
    have hp0 : p ≠ 0 := fun z => h0 ⟨h, z⟩
    have e0 : p ^ n.natAbs ≠ 0 := Int.pow_ne_zero hp0
    have pos : 0 < 1 * (p ^ n.natAbs).natAbs := by rw [Nat.one_mul]; exact Int.natAbs_pos.mpr e0
    refine ⟨ovR_low _ _ _ _ (by decide) e0, ?_⟩
    have h1 : (((q ^ n.natAbs : Nat) : Int) * ((1 : Nat) : Int)).natAbs < 2 ^ 6000 := by rw [Int.natCast_one, Int.mul_one, Int.natAbs_natCast]; exact hq
    have h2 : 1 * (p ^ n.natAbs).natAbs < 2 ^ 6000 := by rw [Nat.one_mul]; exact hp
    unfold ovR
    split
    · exact nrm_mid pos (by rw [Int.natAbs_neg]; exact h1) h2
    · exact nrm_mid pos h1 h2
  · rw [if_neg h]
    have hq0 : 0 < q ^ n.natAbs := Nat.pow_pos l.1
    refine ⟨⟨hq0, ?_⟩, hq0, hp, hq⟩
    show Nat.gcd (p ^ n.natAbs).natAbs (q ^ n.natAbs) = 1
    rw [Int.natAbs_pow]
    exact Nat.Coprime.pow _ _ l.2
/-! ### the heap -/
/-- all but dicts stays -/
def KeepP (H H' : Hp) : Prop := ∀ b o, H b = some o → (∀ l, o ≠ .dK l) → H' b = some o
/-- all but dicts and tables stays -/
def KeepD (H H' : Hp) : Prop := ∀ b o, H b = some o → (∀ l, o ≠ .dK l) → (∀ ps, o ≠ .tbl ps) → H' b = some o
theorem KeepD.refl (H : Hp) : KeepD H H := fun _ _ h _ _ => h
theorem KeepP.refl (H : Hp) : KeepP H H := fun _ _ h _ => h
theorem KeepD.trans {H H1 H2 : Hp} (a : KeepD H H1) (b : KeepD H1 H2) : KeepD H H2 := fun c o h n t => b c o (a c o h n t) n t
theorem KeepP.trans {H H1 H2 : Hp} (a : KeepP H H1) (b : KeepP H1 H2) : KeepP H H2 := fun c o h n => b c o (a c o h n) n
theorem KeepP.d {H H1 : Hp} (a : KeepP H H1) : KeepD H H1 := fun c o h n _ => a c o h n
theorem Same.p {H H' : Hp} (s : Same H H') : KeepP H H' := fun b o h _ => s b o h
theorem Same.d {H H' : Hp} (s : Same H H') : KeepD H H' := (Same.p s).d
theorem Keep.p {p c : Addr} {m : Nat} {H H' : Hp} (k : Keep p H H') (P : Pen H p c m) : KeepP H H' := fun _ _ h n => k.at P h n
theorem ext_d {H H' : Hp} (e : LamX.ExtN H H') : KeepD H H' := fun b o h _ t => e b o h t
theorem pen_ext {H H' : Hp} {p c : Addr} {m : Nat} (P : Pen H p c m) (e : LamX.ExtN H H') : Pen H' p c m :=
  P.keep (fun o h => by
    obtain ⟨l, z⟩ := P.dict
    rw [z] at h; cases h
    exact e _ _ z (fun ps w => by cases w)) (fun o h => by
    obtain ⟨ns, i, d, n, f, h1, h2, _⟩ := P.ex
    rw [h2] at h; cases h
    exact e _ _ h2 (fun ps w => by cases w))
theorem tabs_p {T : List (Addr × Str)} {H H' : Hp} (t : LamX.Tabs T H) (k : KeepP H H') : LamX.Tabs T H' := fun p hp => by
  obtain ⟨ps, h1, h2, h3⟩ := t p hp
  refine ⟨ps, k _ _ h1 (fun l z => by cases z), h2, fun pos cv hc => ?_⟩
  obtain ⟨c, e1, e2⟩ := h3 pos cv hc
  exact ⟨c, e1, k _ _ e2 (fun l z => by unfold LamX.CodeO at z; cases z)⟩
theorem KeepD.tup {H H' : Hp} (k : KeepD H H') {a : Addr} {xs : List V} (h : H a = some (.tup xs)) : H' a = some (.tup xs) := k a _ h (fun l z => by cases z) (fun l z => by cases z)
theorem KeepD.lst {H H' : Hp} (k : KeepD H H') {a : Addr} {xs : List V} (h : H a = some (.lst xs)) : H' a = some (.lst xs) := k a _ h (fun l z => by cases z) (fun l z => by cases z)
theorem kEN : ¬ (("exponents" : Str) = "number") := by decide +kernel
def flA (t r : Addr) : List (Str × V) := putF "number" (.ref r) (putF "exponents" (.ref t) [])
theorem flA_e (t r : Addr) : (flA t r).lookup ("exponents" : Str) = some (.ref t) := by
  unfold flA
  rw [lookup_putF, if_neg kEN, lookup_putF, if_pos rfl]
theorem flA_n (t r : Addr) : (flA t r).lookup ("number" : Str) = some (.ref r) := by
  unfold flA
  rw [lookup_putF, if_pos rfl]
theorem flA_no (t r : Addr) {m : Str} (h1 : ¬ m = "number") (h2 : ¬ m = "exponents") : (flA t r).lookup m = none := by
  unfold flA
  rw [lookup_putF, if_neg h1, lookup_putF, if_neg h2]
  all_goals rfl
def TupI (H : Hp) (t : Addr) (es : List Int) : Prop := H t = some (.tup (es.map V.int))
/-- an amount stands at x -/
structure Amt (CA : Addr) (H : Hp) (x : Addr) (es : List Int) (p : Int) (q : Nat) : Prop where
  ex : ∃ dx t r, H x = some (.ins CA dx (flA t r)) ∧ TupI H t es ∧ RatAt H r p q
  ne : es ≠ []
  le : es.length ≤ 60
  low : Low p q
  mid : Mid p q
theorem Amt.keep {CA x : Addr} {H H' : Hp} {es : List Int} {p : Int} {q : Nat} (h : Amt CA H x es p q) (k : KeepD H H') : Amt CA H' x es p q := by
  obtain ⟨dx, t, r, h1, h2, h3⟩ := h.ex
  exact ⟨⟨dx, t, r, k x _ h1 (fun l z => by cases z) (fun l z => by cases z), k.tup h2, k.tup h3⟩, h.ne, h.le, h.low, h.mid⟩
theorem Amt.ins {CA x : Addr} {H : Hp} {es : List Int} {p : Int} {q : Nat} (h : Amt CA H x es p q) : InsAt H x CA := by
  obtain ⟨dx, t, r, h1, _⟩ := h.ex
  exact ⟨dx, _, h1⟩
theorem dpAll_int {K : PySem.W.Frag} {H : Hp} : ∀ l : List Int, DpAll K H (l.map V.int) (l.map PyData.int)
  | [] => .nil
  | i :: l => .cons (.int i) (dpAll_int l)
theorem dp_ints {K : PySem.W.Frag} {H : Hp} {t : Addr} {es : List Int} (h : TupI H t es) : Dp K H (.ref t) (.tuple (es.map PyData.int)) := .tup (SqT.of h) (dpAll_int es)
theorem can_ints (l : List Int) : PyData.canLayAll0 (l.map PyData.int) = true ∧ PyData.depthAll (l.map PyData.int) = 0 := by
  induction l with
  | nil => exact ⟨rfl, rfl⟩
  | cons b l ih => exact ⟨by simp [PyData.canLayAll0, PyData.canLay0, ih.1], by simp [PyData.depthAll, PyData.depth, ih.2]⟩
theorem shaped_ints (l : List Int) : SeqAt.shaped (.tuple (l.map PyData.int)) = true := by
  unfold SeqAt.shaped
  rw [show PyData.canLay0 (.tuple (l.map PyData.int)) = true by simpa [PyData.canLay0] using (can_ints l).1]
  simp [PyData.depth, (can_ints l).2]
theorem eqv_ints (a b : List Int) : PyData.eqv (.tuple (a.map PyData.int)) (.tuple (b.map PyData.int)) = decide (a = b) := by
  rw [PyData.eqv]
  exact PySem.W.ked_eqvAll a b
theorem rat_ints {H : Hp} {r : Addr} {p : Int} {q : Nat} (h : RatAt H r p q) : TupI H r [p, (q : Int)] := h
/-! ### what may be passed for exponents -/
inductive BadExp (K : PySem.W.Frag) (H : Hp) : V → Prop
  | other {x : V} {u : Value} (h : TyX K H x u) (ht : PySem.W.kitOne K u (.type "tuple") = some false) : BadExp K H x
  | empty {t : Addr} (h : H t = some (.tup [])) : BadExp K H (.ref t)
  | item {t : Addr} {xs : List V} (f : V → Bool) (h : H t = some (.tup xs)) (ne : xs ≠ []) (hl : xs.length ≤ 100)
      (hf : ∀ H', Same H H' → ∀ x ∈ xs, ∃ u b c, TyX K H' x u ∧ PySem.W.kitOne K u (.type "int") = some b ∧ PySem.W.kitOne K u (.type "bool") = some c ∧ (b && !c) = f x) (no : xs.all f = false) : BadExp K H (.ref t)
/-- are_integers(t) -/
def spAreG (K : PySem.W.Frag) : Sp := fun vs H Q _ => ∃ (t : Addr) (xs : List V) (f : V → Bool), vs = [.ref t] ∧ H t = some (.tup xs) ∧ xs.length ≤ 100 ∧
  (∀ H', Same H H' → ∀ x ∈ xs, ∃ u b c, TyX K H' x u ∧ PySem.W.kitOne K u (.type "int") = some b ∧ PySem.W.kitOne K u (.type "bool") = some c ∧ (b && !c) = f x) ∧ ∀ H', Same H H' → Q (.bl (xs.all f)) H'
theorem flat_all {K : PySem.W.Frag} {H : Hp} {xs : List V} {f : V → Bool} (h : ∀ x ∈ xs, flatW x = some (f x)) : ∀ H', Same H H' → ∀ x ∈ xs, ∃ u b c, TyX K H' x u ∧ PySem.W.kitOne K u (.type "int") = some b ∧ PySem.W.kitOne K u (.type "bool") = some c ∧ (b && !c) = f x :=
  fun _ _ x hx => flat_ty (h x hx)
theorem ints_all {K : PySem.W.Frag} {H : Hp} (es : List Int) : ∀ H', Same H H' → ∀ x ∈ es.map V.int, ∃ u b c, TyX K H' x u ∧ PySem.W.kitOne K u (.type "int") = some b ∧ PySem.W.kitOne K u (.type "bool") = some c ∧ (b && !c) = (fun _ => true) x :=
  flat_all (K := K) (H := H) (f := fun _ => true) fun x hx => by
    obtain ⟨i, _, rfl⟩ := List.mem_map.mp hx
    rfl
/-! ### the methods' promises -/
def errN (what : Str) (v : V) : HO := .xd [("number", v), ("what", .str what)]
def errU (t u : Addr) : HO := .xd [("other", .ref u), ("one", .ref t), ("place", .int 0)]
def errZ : HO := .xd [("place", .int 0)]
/-- the error of unlike exponents, at H -/
def ThrowU (UL : Addr) (H : Hp) (es fs : List Int) (E : XK) : Prop := ∀ t u d H1, TupI H1 t es → TupI H1 u fs → H1 d = none → Same H H1 → E (.ref UL) (some d) (upd H1 d (errU t u))
def spLike (CA UL : Addr) : Sp := fun vs H Q E => ∃ x y es fs p q c d, vs = [.ref x, .ref y] ∧ Amt CA H x es p q ∧ Amt CA H y fs c d ∧ (es = fs → Q .non H) ∧ (es ≠ fs → ThrowU UL H es fs E)
/-- Amount.__init__(self, exponents, number) -/
def spIniA (K : PySem.W.Frag) (CA BN : Addr) : Sp := fun vs H Q E => ∃ (x dx : Addr) (e n : V), vs = [.ref x, e, n] ∧ H x = some (.ins CA dx []) ∧
  ((BadExp K H e ∧ ∀ d H1, H1 d = none → Same H H1 → E (.ref BN) (some d) (upd H1 d (errN "exponents" e))) ∨
   (∃ t es, e = .ref t ∧ TupI H t es ∧ es ≠ [] ∧ es.length ≤ 60 ∧
     ((RatV K H n none ∧ ∀ d H1, H1 d = none → Same H H1 → E (.ref BN) (some d) (upd H1 d (errN "number" n))) ∨
      ∃ p q, RatV K H n (some (p, q)) ∧ Mid p q ∧
        ∀ r H', (∀ b o, b ≠ x → H b = some o → H' b = some o) → H' x = some (.ins CA dx (flA t r)) → RatAt H' r (nrm p q).1 (nrm p q).2 → Q .non H')))
/-- x + y, x - y -/
def spSumA (CA UL : Addr) (f : Int → Nat → Int → Nat → Int × Nat) : Sp := fun vs H Q E => ∃ x y es fs p q c d, vs = [.ref x, .ref y] ∧ Amt CA H x es p q ∧ Amt CA H y fs c d ∧ Sm p q ∧ Sm c d ∧
  (es = fs → ∀ z H', Same H H' → Amt CA H' z es (f p q c d).1 (f p q c d).2 → Q (.ref z) H') ∧ (es ≠ fs → ThrowU UL H es fs E)
def spLessA (CA UL : Addr) : Sp := fun vs H Q E => ∃ x y es fs p q c d, vs = [.ref x, .ref y] ∧ Amt CA H x es p q ∧ Amt CA H y fs c d ∧ (es = fs → Q (.bl (decide (p * (d : Int) < c * (q : Int)))) H) ∧ (es ≠ fs → ThrowU UL H es fs E)
def spMulA (CA : Addr) : Sp := fun vs H Q _ => ∃ x y es fs p q c d, vs = [.ref x, .ref y] ∧ Amt CA H x es p q ∧ Amt CA H y fs c d ∧ Sm p q ∧ Sm c d ∧ es.length = fs.length ∧
  ∀ z H', Same H H' → Amt CA H' z (List.zipWith (· + ·) es fs) (mulR p q c d).1 (mulR p q c d).2 → Q (.ref z) H'
def spNegA (CA : Addr) : Sp := fun vs H Q _ => ∃ x es p q, vs = [.ref x] ∧ Amt CA H x es p q ∧ ∀ z H', Same H H' → Amt CA H' z es (-p) q → Q (.ref z) H'
def spOverA (CA BZ : Addr) : Sp := fun vs H Q E => ∃ x y es fs p q c d, vs = [.ref x, .ref y] ∧ Amt CA H x es p q ∧ Amt CA H y fs c d ∧ Sm p q ∧ Sm c d ∧ es.length = fs.length ∧
  (c = 0 → ∀ dd, H dd = none → E (.ref BZ) (some dd) (upd H dd errZ)) ∧
  (c ≠ 0 → ∀ z H', Same H H' → Amt CA H' z (List.zipWith (· - ·) es fs) (ovR p q c d).1 (ovR p q c d).2 → Q (.ref z) H')
def spPowA (K : PySem.W.Frag) (CA BN BZ : Addr) : Sp := fun vs H Q E => ∃ x v es p q, vs = [.ref x, v] ∧ Amt CA H x es p q ∧ Sm p q ∧
  ((∃ u b c, TyX K H v u ∧ PySem.W.kitOne K u (.type "int") = some b ∧ PySem.W.kitOne K u (.type "bool") = some c ∧ (b && !c) = false ∧ ∀ dd, H dd = none → E (.ref BN) (some dd) (upd H dd (errN "power" v))) ∨
   ∃ n : Int, v = .int n ∧ n.natAbs ≤ 6 ∧ ((n < 0 ∧ p = 0) → ∀ dd, H dd = none → E (.ref BZ) (some dd) (upd H dd errZ)) ∧
     (¬ (n < 0 ∧ p = 0) → ∀ z H', Same H H' → Amt CA H' z (es.map (n * ·)) (pwR p q n).1 (pwR p q n).2 → Q (.ref z) H'))
def spEqA (K : PySem.W.Frag) (CA : Addr) : Sp := fun vs H Q _ => ∃ x v es p q, vs = [.ref x, v] ∧ Amt CA H x es p q ∧
  ((∃ y fs c d, v = .ref y ∧ Amt CA H y fs c d ∧ Q (.bl (decide (es = fs) && decide (p = c ∧ q = d))) H) ∨ (∃ tb, TyX K H v tb ∧ PySem.W.kitOne K tb (.ref CA) = some false ∧ Q (.bl false) H))
end AL
set_option Elab.async false
set_option maxRecDepth 100000
set_option exponentiation.threshold 70000
set_option maxHeartbeats 1000000
/-! Sums and products of ratios in lowest terms, with small divisors. -/
namespace AL
open PySem L2
theorem tyx_same {K : PySem.W.Frag} {H H' : Hp} (s : Same H H') {x : V} {u : Value} (h : TyX K H x u) : TyX K H' x u := by
  cases h with
  | base b =>
    refine .base ?_
    cases b with
    | non => exact .non
    | bl x => exact .bl x
    | int i => exact .int i
    | str x => exact .str x
    | flt x => exact .flt x
    | lst e => exact .lst (s _ _ e)
    | frz e => exact .frz (s _ _ e)
    | tup e => exact .tup (s _ _ e)
    | dK e => exact .dK (s _ _ e)
    | dT e => exact .dT (s _ _ e)
    | ins e cl ha hn htk hm => exact .ins (s _ _ e) cl ha hn htk hm
  | byt b => exact .byt b
  | set e => exact .set (s _ _ e)
  | kList e c => exact .kList e c
  | kTuple e c => exact .kTuple e c
  | kDict e c => exact .kDict e c
  | fTuple e => exact .fTuple (s _ _ e)
  | fDict e => exact .fDict (s _ _ e)
theorem ratV_same {K : PySem.W.Frag} {H H' : Hp} {x : V} {r : Option (Int × Nat)} (h : RatV K H x r) (s : Same H H') : RatV K H' x r := h.same s fun _ z => tyx_same s z
theorem cop_mul {x y z : Nat} (h1 : Nat.gcd x y = 1) (h2 : Nat.gcd x z = 1) : Nat.gcd x (y * z) = 1 := Nat.Coprime.mul_right h1 h2
/-- the sum's parts -/
def shG (b d : Nat) : Nat := Nat.gcd b d
def totS (a : Int) (b : Nat) (c : Int) (d : Nat) : Int := a * ((d / Nat.gcd b d : Nat) : Int) + c * ((b / Nat.gcd b d : Nat) : Int)
def lefS (a : Int) (b : Nat) (c : Int) (d : Nat) : Nat := Nat.gcd (totS a b c d).natAbs (Nat.gcd b d)
theorem sum_short {a c : Int} {b d : Nat} (h : Low a b) (k : Low c d) : sumR a b c d = ((totS a b c d).fdiv ((lefS a b c d : Nat) : Int), b / lefS a b c d * (d / Nat.gcd b d)) := by
  have g0 : 0 < Nat.gcd b d := Nat.gcd_pos_of_pos_left _ h.1
  have l0 : 0 < lefS a b c d := Nat.gcd_pos_of_pos_right _ g0
  have co' : Nat.gcd (b / Nat.gcd b d) (d / Nat.gcd b d) = 1 := Nat.coprime_div_gcd_div_gcd g0
  have eb : b / Nat.gcd b d * Nat.gcd b d = b := Nat.div_mul_cancel (Nat.gcd_dvd_left _ _)
  have ed : d / Nat.gcd b d * Nat.gcd b d = d := Nat.div_mul_cancel (Nat.gcd_dvd_right _ _)
  have lt : lefS a b c d ∣ (totS a b c d).natAbs := Nat.gcd_dvd_left _ _
  have lg : lefS a b c d ∣ Nat.gcd b d := Nat.gcd_dvd_right _ _
  have eg : Nat.gcd b d / lefS a b c d * lefS a b c d = Nat.gcd b d := Nat.div_mul_cancel lg
  have cg : Nat.gcd ((totS a b c d).natAbs / lefS a b c d) (Nat.gcd b d / lefS a b c d) = 1 := Nat.coprime_div_gcd_div_gcd l0
  have lI : ((lefS a b c d : Nat) : Int) ∣ totS a b c d := Int.ofNat_dvd_left.mpr lt
  have eT : (totS a b c d).fdiv ((lefS a b c d : Nat) : Int) * ((lefS a b c d : Nat) : Int) = totS a b c d := by
    rw [Int.fdiv_eq_ediv_of_nonneg _ (by omega)]
    exact Int.ediv_mul_cancel lI
  have aT : ((totS a b c d).fdiv ((lefS a b c d : Nat) : Int)).natAbs = (totS a b c d).natAbs / lefS a b c d := by
    rw [Int.fdiv_eq_ediv_of_nonneg _ (by omega), Int.natAbs_ediv_of_dvd lI, Int.natAbs_natCast]
  have defT : totS a b c d = a * ((d / Nat.gcd b d : Nat) : Int) + c * ((b / Nat.gcd b d : Nat) : Int) := rfl
  generalize lefS a b c d = l at *
  generalize totS a b c d = T at *
  generalize hg : Nat.gcd b d = g at *
  generalize hb' : b / g = b' at *
  generalize hd' : d / g = d' at *
  generalize hg' : g / l = g' at *
  have hbl : b / l = b' * g' := by
    rw [← eb, ← eg, ← Nat.mul_assoc, Nat.mul_div_cancel _ l0]
  have hT0 : (T.fdiv (l : Int)).natAbs * l = T.natAbs := by rw [aT]; exact Nat.div_mul_cancel lt
  have dT : (T.fdiv (l : Int)).natAbs ∣ T.natAbs := ⟨l, hT0.symm⟩
  -- no divisor with b', none with d'
  have key : ∀ {x : Int} {y z w : Nat}, Nat.gcd x.natAbs (y * g) = 1 → Nat.gcd y z = 1 → (∀ e : Nat, e ∣ y → e ∣ T.natAbs → e ∣ (x * (z : Int)).natAbs) → Nat.gcd (T.fdiv (l : Int)).natAbs y = 1 := by
    intro x y z w h1 h2 h3
    have e1 := Nat.gcd_dvd_left (T.fdiv (l : Int)).natAbs y
    have e2 := Nat.gcd_dvd_right (T.fdiv (l : Int)).natAbs y
    generalize Nat.gcd (T.fdiv (l : Int)).natAbs y = e at e1 e2 ⊢
    have e3 := h3 e e2 (Nat.dvd_trans e1 dT)
    rw [Int.natAbs_mul, Int.natAbs_natCast] at e3
    have ce : Nat.gcd e z = 1 := Nat.Coprime.coprime_dvd_left e2 h2
    have e4 : e ∣ x.natAbs := Nat.Coprime.dvd_of_dvd_mul_right ce e3
    have e5 : e ∣ y * g := Nat.dvd_trans e2 (Nat.dvd_mul_right _ _)
    have e6 : e ∣ Nat.gcd x.natAbs (y * g) := Nat.dvd_gcd e4 e5
    rw [h1] at e6
    exact Nat.dvd_one.mp e6
  have dvd_sub : ∀ {e : Nat} {x y : Int}, e ∣ (x + y).natAbs → e ∣ y.natAbs → e ∣ x.natAbs := by
    intro e x y h1 h2
    have i1 := Int.ofNat_dvd_left.mpr h1
    have i2 := Int.ofNat_dvd_left.mpr h2
    have i3 := Int.dvd_sub i1 i2
    rw [Int.add_sub_cancel] at i3
    exact Int.ofNat_dvd_left.mp i3
  have k1 : Nat.gcd (T.fdiv (l : Int)).natAbs b' = 1 := by
    refine key (x := a) (z := d') (w := 0) (by rw [eb]; exact h.2) co' fun e he ht => ?_
    rw [defT] at ht
    refine dvd_sub ht ?_
    rw [Int.natAbs_mul, Int.natAbs_natCast]
    exact Nat.dvd_trans he (Nat.dvd_mul_left _ _)
  have k2 : Nat.gcd (T.fdiv (l : Int)).natAbs d' = 1 := by
    refine key (x := c) (z := b') (w := 0) (by rw [ed]; exact k.2) (by rw [Nat.gcd_comm]; exact co') fun e he ht => ?_
    rw [defT, Int.add_comm] at ht
    refine dvd_sub ht ?_
    rw [Int.natAbs_mul, Int.natAbs_natCast]
    exact Nat.dvd_trans he (Nat.dvd_mul_left _ _)
  have k3 : Nat.gcd (T.fdiv (l : Int)).natAbs g' = 1 := by rw [aT]; exact cg
  have b'0 : 0 < b' := Nat.pos_of_ne_zero fun z => by rw [z, Nat.zero_mul] at eb; have := h.1; omega
  have d'0 : 0 < d' := Nat.pos_of_ne_zero fun z => by rw [z, Nat.zero_mul] at ed; have := k.1; omega
  have g'0 : 0 < g' := Nat.pos_of_ne_zero fun z => by rw [z, Nat.zero_mul] at eg; omega
  unfold sumR
  refine nrm_eq ?_ (Nat.mul_pos h.1 k.1) ?_ ?_
  · rw [hbl]; exact Nat.mul_pos (Nat.mul_pos b'0 g'0) d'0
  · rw [hbl]; exact cop_mul (cop_mul k1 k3) k2
  · rw [hbl]
    have eb2 : (b : Int) = (b' : Int) * (g' : Int) * (l : Int) := by rw [← eb, ← eg]; push_cast; rw [Int.mul_assoc]
    have ed2 : (d : Int) = (d' : Int) * (g' : Int) * (l : Int) := by rw [← ed, ← eg]; push_cast; rw [Int.mul_assoc]
    have eS : a * (d : Int) + c * (b : Int) = T * ((g' : Int) * (l : Int)) := by
      rw [defT, eb2, ed2, Int.add_mul]
      congr 1
      · simp only [Int.mul_assoc]
      · simp only [Int.mul_assoc]
    rw [eS, Int.natCast_mul, Int.natCast_mul, Int.natCast_mul]
    have e3 : T * ((g' : Int) * (l : Int)) = T.fdiv (l : Int) * (l : Int) * ((g' : Int) * (l : Int)) := by rw [eT]
    rw [e3, eb2, ed2]
    generalize T.fdiv (l : Int) = t
    simp only [Int.mul_assoc, Int.mul_comm, Int.mul_left_comm]
theorem mul_short {a c : Int} {b d : Nat} (h : Low a b) (k : Low c d) : mulR a b c d = (a.fdiv ((Nat.gcd a.natAbs d : Nat) : Int) * c.fdiv ((Nat.gcd c.natAbs b : Nat) : Int), b / Nat.gcd c.natAbs b * (d / Nat.gcd a.natAbs d)) := by
  have f0 : 0 < Nat.gcd a.natAbs d := Nat.gcd_pos_of_pos_right _ k.1
  have s0 : 0 < Nat.gcd c.natAbs b := Nat.gcd_pos_of_pos_right _ h.1
  have part : ∀ {x : Int} {y : Nat}, 0 < Nat.gcd x.natAbs y → x.fdiv ((Nat.gcd x.natAbs y : Nat) : Int) * ((Nat.gcd x.natAbs y : Nat) : Int) = x ∧ (x.fdiv ((Nat.gcd x.natAbs y : Nat) : Int)).natAbs = x.natAbs / Nat.gcd x.natAbs y ∧ Nat.gcd (x.natAbs / Nat.gcd x.natAbs y) (y / Nat.gcd x.natAbs y) = 1 ∧ y / Nat.gcd x.natAbs y * Nat.gcd x.natAbs y = y := by
    intro x y g0
    have dI : ((Nat.gcd x.natAbs y : Nat) : Int) ∣ x := Int.ofNat_dvd_left.mpr (Nat.gcd_dvd_left _ _)
    refine ⟨?_, ?_, Nat.coprime_div_gcd_div_gcd g0, Nat.div_mul_cancel (Nat.gcd_dvd_right _ _)⟩
    · rw [Int.fdiv_eq_ediv_of_nonneg _ (by omega)]
      exact Int.ediv_mul_cancel dI
    · rw [Int.fdiv_eq_ediv_of_nonneg _ (by omega), Int.natAbs_ediv_of_dvd dI, Int.natAbs_natCast]
  obtain ⟨a1, a2, a3, a4⟩ := part f0
  obtain ⟨c1, c2, c3, c4⟩ := part s0
  have da : a.natAbs / Nat.gcd a.natAbs d ∣ a.natAbs := Nat.div_dvd_of_dvd (Nat.gcd_dvd_left _ _)
  have dc : c.natAbs / Nat.gcd c.natAbs b ∣ c.natAbs := Nat.div_dvd_of_dvd (Nat.gcd_dvd_left _ _)
  have db : b / Nat.gcd c.natAbs b ∣ b := Nat.div_dvd_of_dvd (Nat.gcd_dvd_right _ _)
  have dd : d / Nat.gcd a.natAbs d ∣ d := Nat.div_dvd_of_dvd (Nat.gcd_dvd_right _ _)
  have x1 : Nat.gcd (a.natAbs / Nat.gcd a.natAbs d) (b / Nat.gcd c.natAbs b) = 1 := Nat.Coprime.coprime_dvd_left da (Nat.Coprime.coprime_dvd_right db h.2)
  have x2 : Nat.gcd (c.natAbs / Nat.gcd c.natAbs b) (d / Nat.gcd a.natAbs d) = 1 := Nat.Coprime.coprime_dvd_left dc (Nat.Coprime.coprime_dvd_right dd k.2)
  have b0 : 0 < b / Nat.gcd c.natAbs b := Nat.div_pos (Nat.le_of_dvd h.1 (Nat.gcd_dvd_right _ _)) s0
  have d0 : 0 < d / Nat.gcd a.natAbs d := Nat.div_pos (Nat.le_of_dvd k.1 (Nat.gcd_dvd_right _ _)) f0
  unfold mulR
  refine nrm_eq (Nat.mul_pos b0 d0) (Nat.mul_pos h.1 k.1) ?_ ?_
  · rw [Int.natAbs_mul, a2, c2]
    exact Nat.Coprime.mul_left (cop_mul x1 a3) (cop_mul c3 x2)
  · generalize Nat.gcd a.natAbs d = f at *
    generalize Nat.gcd c.natAbs b = s at *
    have eb2 : (b : Int) = ((b / s : Nat) : Int) * (s : Int) := by rw [← Int.natCast_mul, c4]
    have ed2 : (d : Int) = ((d / f : Nat) : Int) * (f : Int) := by rw [← Int.natCast_mul, a4]
    have e1 : a * c = a.fdiv (f : Int) * (f : Int) * (c.fdiv (s : Int) * (s : Int)) := by rw [a1, c1]
    rw [e1, Int.natCast_mul, Int.natCast_mul, eb2, ed2]
    generalize a.fdiv (f : Int) = x
    generalize c.fdiv (s : Int) = y
    generalize ((b / s : Nat) : Int) = u
    generalize ((d / f : Nat) : Int) = v
    simp only [Int.mul_assoc, Int.mul_comm, Int.mul_left_comm]
/-- what two ratios in lowest terms make -/
def spTwoL (f : Int → Nat → Int → Nat → Int × Nat) : Sp := fun vs H Q _ => ∃ (s t : Addr) (a c : Int) (b d : Nat), vs = [.ref s, .ref t] ∧ RatAt H s a b ∧ RatAt H t c d ∧ Mid a b ∧ Mid c d ∧ Low a b ∧ Low c d ∧ ∀ u, H u = none → Q (.ref u) (upd H u (.tup [.int (f a b c d).1, .int ((f a b c d).2 : Int)]))
/-- the same, where more than the answer may be new -/
def spTwoS (f : Int → Nat → Int → Nat → Int × Nat) : Sp := fun vs H Q _ => ∃ (s t : Addr) (a c : Int) (b d : Nat), vs = [.ref s, .ref t] ∧ RatAt H s a b ∧ RatAt H t c d ∧ Mid a b ∧ Mid c d ∧ Low a b ∧ Low c d ∧ ∀ u H', Same H H' → RatAt H' u (f a b c d).1 (f a b c d).2 → Q (.ref u) H'
/-- over -/
def spTwoO : Sp := fun vs H Q _ => ∃ (s t : Addr) (a c : Int) (b d : Nat), vs = [.ref s, .ref t] ∧ RatAt H s a b ∧ RatAt H t c d ∧ Mid a b ∧ Mid c d ∧ c ≠ 0 ∧ ∀ u, H u = none → Q (.ref u) (upd H u (.tup [.int (ovR a b c d).1, .int ((ovR a b c d).2 : Int)]))
def spLessL : Sp := fun vs H Q _ => ∃ (s t : Addr) (a c : Int) (b d : Nat), vs = [.ref s, .ref t] ∧ RatAt H s a b ∧ RatAt H t c d ∧ Mid a b ∧ Mid c d ∧ Q (.bl (decide (a * (d : Int) < c * (b : Int)))) H
def spPowR : Sp := fun vs H Q _ => ∃ (s : Addr) (a : Int) (b : Nat) (n : Int), vs = [.ref s, .int n] ∧ RatAt H s a b ∧ Sm a b ∧ Low a b ∧ n.natAbs ≤ 6 ∧ ¬ (n < 0 ∧ a = 0) ∧ ∀ u, H u = none → Q (.ref u) (upd H u (.tup [.int (pwR a b n).1, .int ((pwR a b n).2 : Int)]))
/-- the law's own power -/
def spPowL : Sp := fun vs H Q _ => ∃ (s : Addr) (a : Int) (b : Nat) (n : Int), vs = [.ref s, .int n] ∧ RatAt H s a b ∧ Sm a b ∧ Low a b ∧ n.natAbs ≤ 6 ∧ ¬ (n < 0 ∧ a = 0) ∧ ∀ u H', Same H H' → RatAt H' u (pwR a b n).1 (pwR a b n).2 → Q (.ref u) H'
def spAsG (K : PySem.W.Frag) : Sp := fun vs H Q _ => ∃ (x : V) (p : Int) (q : Nat), vs = [x] ∧ RatV K H x (some (p, q)) ∧ Mid p q ∧ ∀ t, H t = none → Q (.ref t) (upd H t (.tup [.int (nrm p q).1, .int ((nrm p q).2 : Int)]))
end AL
set_option Elab.async false
set_option linter.all false
set_option maxRecDepth 100000
/-! sorted(d.items()) for dicts whose keys are tuples of so many ints. -/
namespace AL
open PySem PySem.W PySem.Spec PyProof.Rows L2
theorem lex_code {B : Int} : ∀ (k : Nat) (ns ms : List Int) (i : Nat), ns.length = i + k → ms.length = i + k → TS.Bd B ns → TS.Bd B ms →
    Ob.lexAt (fun j => decide (ns.getD j 0 = ms.getD j 0)) (fun j => decide (ns.getD j 0 < ms.getD j 0)) false i k = decide (TS.code B (ns.drop i) < TS.code B (ms.drop i))
  | 0, ns, ms, i, l1, l2, _, _ => by
    rw [Ob.lexAt_zero, List.drop_eq_nil_of_le (by omega), List.drop_eq_nil_of_le (by omega)]
    exact (decide_eq_false (Int.lt_irrefl _)).symm
  | k + 1, ns, ms, i, l1, l2, b1, b2 => by
    have i1 : i < ns.length := by omega
    have i2 : i < ms.length := by omega
    have ih := lex_code k ns ms (i + 1) (by omega) (by omega) b1 b2
    have dl : (ns.drop (i + 1)).length = (ms.drop (i + 1)).length := by rw [List.length_drop, List.length_drop]; omega
    have c1 : TS.Bd B (ns.drop (i + 1)) := fun m hm => b1 m (List.mem_of_mem_drop hm)
    have c2 : TS.Bd B (ms.drop (i + 1)) := fun m hm => b2 m (List.mem_of_mem_drop hm)
    rw [Ob.lexAt_succ, List.drop_eq_getElem_cons i1, List.drop_eq_getElem_cons i2]
    have g1 : ns.getD i 0 = ns[i] := by simp [List.getD, i1]
    have g2 : ms.getD i 0 = ms[i] := by simp [List.getD, i2]
    rw [g1, g2]
    generalize ns[i] = x
    generalize ms[i] = y
    by_cases e : x = y
    · rw [decide_eq_true e, if_pos rfl, ih, e]
      exact (decide_eq_decide.mpr (TS.code_same dl)).symm
    · rw [decide_eq_false e, if_neg (by decide)]
      refine decide_eq_decide.mpr ⟨fun z => TS.code_lt dl c1 c2 z, fun z => ?_⟩
      rcases Int.lt_trichotomy x y with w1 | w1 | w1
      · exact w1
      · exact absurd w1 e
      · have := TS.code_lt dl.symm c2 c1 w1
        omega
theorem inl_inj : ∀ u v : List Int, (u.map Sum.inl : List L2.Key) = v.map Sum.inl → u = v
  | [], [], _ => rfl
  | [], _ :: _, t => nomatch t
  | _ :: _, [], t => nomatch t
  | a :: u, b :: v, t => by
    injection t with t1 t2
    injection t1 with t1
    rw [t1, inl_inj u v t2]
section
variable {prog : Program} {w : World} {A : Around} {E : Value → Shared → Prop} {s : Shared}
theorem lt_ints {B : Int} {l b : Addr} {xs ys : Array Value} {ns ms : List Int} {Q : Value → Shared → Prop} (hl : IsTup s.heap l xs) (hb : IsTup s.heap b ys) (ix : IntsAre xs.toList ns) (iy : IntsAre ys.toList ms)
    (len : ns.length = ms.length) (b1 : TS.Bd B ns) (b2 : TS.Bd B ms) (hu : A.units < cLine) (h : Q (.bool (decide (TS.code B ns < TS.code B ms))) s) :
    wpAny (model prog w) A (compareOp .Lt (.ref l) (.ref b)) Q E s := by
  have e1 : xs.size = ns.length := by rw [← Array.length_toList]; exact ix.length
  have e2 : ys.size = ms.length := by rw [← Array.length_toList]; exact iy.length
  have at1 : ∀ j (z : j < xs.size), ∃ t, xs[j] = .int (ns.getD j 0) t := fun j z => IntsAre.int_at ix _ _ (by rw [Array.getElem?_toList]; exact Array.getElem?_eq_getElem z)
  have at2 : ∀ j (z : j < ys.size), ∃ t, ys[j] = .int (ms.getD j 0) t := fun j z => IntsAre.int_at iy _ _ (by rw [Array.getElem?_toList]; exact Array.getElem?_eq_getElem z)
  have R := Ob.RcOp.tuples_lt (A := A) (s := s) (e := fun j => decide (ns.getD j 0 = ms.getD j 0)) (r := fun j => decide (ns.getD j 0 < ms.getD j 0)) hl hb hu
    (fun j z1 z2 => by
      obtain ⟨t, et⟩ := at1 j z1
      obtain ⟨t', et'⟩ := at2 j z2
      rw [et, et', show decide (ns.getD j 0 = ms.getD j 0) = (ns.getD j 0 == ms.getD j 0) from rfl]
      exact SeqAt.EqAt.int_int _ _ _ _)
    (fun j z1 z2 _ => by
      obtain ⟨t, et⟩ := at1 j z1
      obtain ⟨t', et'⟩ := at2 j z2
      rw [et, et']
      exact Ob.RcOp.lt_int _ _ _ _)
  have hs : decide (xs.size < ys.size) = false := decide_eq_false (by omega)
  rw [hs, show min xs.size ys.size = ns.length by omega, lex_code (B := B) ns.length ns ms 0 (by omega) (by omega) b1 b2, List.drop_zero, List.drop_zero] at R
  exact R prog w E Q h
/-- v: a pair of a tuple of the ints y and a tuple of m -/
def PrD (prog : Program) (w : World) (h : Heap) (v : Value) (y : List Int) (m : List L2.Key) : Prop :=
  ∃ (a k b : Addr) (xs : Array Value), v = .ref a ∧ IsTup h a #[.ref k, .ref b] ∧ IsTup h k xs ∧ IntsAre xs.toList y ∧ IsTupleKey (L2.mixKind prog w) h (y.map Sum.inl) k ∧ IsTupleKey (L2.mixKind prog w) h m b
def keyD (h : Heap) (v : Value) : List Int := TS.intsOf h (.ref (DT.refOf (DT.seqAt0 h (DT.refOf (some v)))))
theorem PrD.key {h : Heap} {v : Value} {y : List Int} {m : List L2.Key} (x : PrD prog w h v y m) : keyD h v = y := by
  obtain ⟨a, k, b, xs, rfl, h1, h2, h3, _⟩ := x
  have e : DT.refOf (DT.seqAt0 h (DT.refOf (some (Value.ref a)))) = k := by
    show DT.refOf (DT.seqAt0 h a) = k
    rw [DT.seqAt0_of h1]
    rfl
  unfold keyD
  rw [e]
  exact TS.TupInts.ints ⟨k, xs, rfl, h2, h3⟩
theorem heads {h : Heap} {M : List Int → List L2.Key} : ∀ vs : List Value, (∀ v ∈ vs, ∃ y, PrD prog w h v y (M y)) →
    ∃ fs : List Value, KatTups h vs fs ∧ fs.length = vs.length ∧ ∀ f ∈ fs, ∃ (q : Addr) (o : Obj), f = Value.ref q ∧ h.get? q = some o ∧ o.cls = .type "tuple" := by
  intro vs
  induction vs with
  | nil => exact fun _ => ⟨[], .nil, rfl, fun f z => absurd z List.not_mem_nil⟩
  | cons v r ih =>
    intro x
    obtain ⟨fs, c1, c2, c3⟩ := ih fun u z => x u (.tail _ z)
    obtain ⟨y, a, k, b, xs, rfl, ⟨o, o1, o2, n, o3⟩, ⟨p, p1, p2, _⟩, _⟩ := x v (.head _)
    refine ⟨.ref k :: fs, .cons o1 o2 o3 rfl c1, congrArg Nat.succ c2, fun f z => ?_⟩
    cases z with
    | head => exact ⟨k, p, rfl, p1, p2⟩
    | tail _ z => exact c3 f z
theorem kindD {B : Int} {d : Nat} {vs : List Value} {M : List Int → List L2.Key} (few : 2 ≤ vs.length) (hu : A.units < cLine) (x : ∀ v ∈ vs, ∃ y, PrD prog w s.heap v y (M y) ∧ y.length = d ∧ TS.Bd B y) (Q : SortKind → Shared → Prop)
    (h : ∀ κ, TS.Cmp prog w A s κ (pairsOf vs) (fun v => TS.code B (keyD s.heap v)) → Q κ s) : wpAny (model prog w) A (keyKind' vs.toArray) Q E s := by
  obtain ⟨fs, c1, c2, c3⟩ := heads (M := M) vs fun v z => let ⟨y, p, _⟩ := x v z; ⟨y, p⟩
  refine kat_kind (T := Value.type "tuple") c1 (by omega) (fun f z => ?_) rfl (h _ ?_)
  · obtain ⟨q, o, rfl, o1, o2⟩ := c3 f z
    exact o2 ▸ (PySem.W.Looks.ld o1).andThen .now
  · have nb : (Value.type "tuple" != Value.type "tuple") = false := by first | rfl | decide | simp
    rw [nb]
    intro p q hp hq Q2 E2 z2
    rw [pairsOf_toList] at hp hq
    obtain ⟨y, py, ly, by_⟩ := x _ (mem_zip_self hp).2
    obtain ⟨z, pz, lz, bz⟩ := x _ (mem_zip_self hq).2
    have z3 : Q2 (decide (TS.code B y < TS.code B z)) s := by
      have z4 : Q2 (decide (TS.code B (keyD s.heap p.1) < TS.code B (keyD s.heap q.1))) s := z2
      rwa [py.key, pz.key] at z4
    obtain ⟨a, k, b, xs, e1, ⟨o, o1, o2, n, o3⟩, k1, k2, k3, k4⟩ := py
    obtain ⟨a', k', b', xs', e1', ⟨o', o1', o2', n', o3'⟩, k1', k2', k3', k4'⟩ := pz
    rw [e1, e1']
    refine kat_lt o1 o3 o1' o3' (kat_cons ?_)
    refine wpAny_eqBool_tuple hu k3 k3' ?_
    by_cases e : y = z
    · subst e
      rw [decide_eq_true rfl]
      rw [decide_eq_false (Int.lt_irrefl _)] at z3
      refine kat_yes (kat_cons (wpAny_eqBool_tuple hu k4 k4' ?_))
      rw [decide_eq_true rfl]
      exact kat_yes (kat_nil z3)
    · have ne : (y.map Sum.inl : List L2.Key) ≠ z.map Sum.inl := fun t => e (inl_inj _ _ t)
      rw [decide_eq_false ne]
      refine kat_no ?_
      show wpAny _ _ (oneLt' false _ _) _ _ _
      exact kat_one _ _ (lt_ints k1 k1' k2 k2' (by omega) by_ bz hu z3)
end
section
variable {X : Cx} {pins : List (Addr × Obj)} {σ : L2.St} {H : Hp} {s : Shared}
abbrev KDT (X : Cx) : HeapKind X.prog X.w (List L2.Key) := tupleKind (mixKind X.prog X.w)
/-- what the j-th pair that was made holds -/
theorem made_pair {kvs : List (List L2.Key × V)} {xs : List (List L2.Key × Addr × Value)} {es : Array DictEntry} {lo : Addr} {h' : Heap} {as : List Addr} (rel : KT H kvs xs) (hes : es.toList = xs.map (entryOfKey (KDT X))) (g : DT.Made es lo h' as)
    {j : Nat} {b : Addr} (hj : as[j]? = some b) : ∃ (e : List L2.Key × V) (kq : Addr) (v : Value), kvs[j]? = some e ∧ H kq = some (.tup (e.1.map kV)) ∧ RelV e.2 v ∧ h'.get? b = some { cls := .type "tuple", data := .seq #[Value.ref kq, v] } := by
  obtain ⟨en, ee, hb⟩ := g.pairs j b hj
  have z := entry_at hes j
  rw [ee] at z
  cases q : xs[j]? with
  | none => rw [q] at z; exact nomatch z
  | some x =>
    rw [q] at z
    cases Option.some.inj z
    obtain ⟨e, r0, r1, r2, r3⟩ := DX.pget rel q
    exact ⟨e, x.2.1, x.2.2, r0, r2, r3, hb⟩
/-- the pairs and the list of them are tracked -/
theorem track_pairs (I : Inv X pins σ H s) {kvs : List (List L2.Key × V)} {as rs : List Addr} {L : Addr} {hF : Heap} {tk c : Nat} {acc : Array Value} (nd : as.Nodup) (up : ∀ b ∈ as, s.heap.objs.size ≤ b ∧ b ≠ L) (uL : s.heap.objs.size ≤ L)
    (kS : ∀ b o, s.heap.get? b = some o → hF.get? b = some o) (hL : hF.get? L = some { cls := .type "list", dict := none, data := .seq acc c, slots := #[] }) (ea : acc.toList = rs.map Value.ref) (sz : rs.length ≤ sizeLine)
    (pr : ∀ (j : Nat) (b : Addr), as[j]? = some b → ∃ (e : List L2.Key × V) (kq : Addr) (v : Value), kvs[j]? = some e ∧ H kq = some (.tup (e.1.map kV)) ∧ RelV e.2 v ∧ hF.get? b = some { cls := .type "tuple", data := .seq #[Value.ref kq, v] }) :
    ∃ H2 : Hp, Inv X pins σ H2 { s with heap := hF, toks := tk } ∧ Gw H H2 ∧ H2 L = some (.lst (rs.map V.ref)) ∧
      ∀ (j : Nat) (b : Addr), as[j]? = some b → ∃ (e : List L2.Key × V) (kq : Addr), kvs[j]? = some e ∧ H kq = some (.tup (e.1.map kV)) ∧ H2 b = some (.tup [.ref kq, e.2]) := by
  have nL : H L = none := I.hok.fresh uL
  have I1 : Inv X pins σ H { s with heap := hF, toks := tk } := I.kept (t' := tk) kS
  have I2 : Inv X pins σ (upd H L (.lst (rs.map V.ref))) { s with heap := hF, toks := tk } :=
    I1.take (h' := hF) (t' := tk) (fun _ _ _ r => r) (I.fpOk uL nL) ⟨by rw [List.length_map]; exact sz, acc.toList, c, by rw [ea]; exact vals_refs rs, by rw [Array.toArray_toList]; exact hL⟩
  obtain ⟨H2, I3, w1, w2⟩ := DX.takeT (P := fun b vs => ∃ (j : Nat) (e : List L2.Key × V) (kq : Addr), as[j]? = some b ∧ kvs[j]? = some e ∧ H kq = some (.tup (e.1.map kV)) ∧ vs = [.ref kq, e.2]) I as _ I2 nd fun b hb => by
    obtain ⟨j, hj⟩ := List.mem_iff_getElem?.mp hb
    obtain ⟨e, kq, v, c1, c2, c3, c4⟩ := pr j b hj
    obtain ⟨u1, u2⟩ := up b hb
    refine ⟨u1, by rw [upd_ne u2]; exact I.hok.fresh u1, [.ref kq, e.2], ⟨j, e, kq, hj, c1, c2, rfl⟩, fun _ => ⟨by rw [sizeLine_eq]; exact (by decide : 2 ≤ 16777216), [Value.ref kq, v], .cons rfl (.cons c3 .nil), ⟨_, c4, rfl, 0, rfl⟩⟩⟩
  refine ⟨H2, I3, fun b o z => w1 b o (by rw [upd_ne (ne_of_none z nL)]; exact z), w1 _ _ upd_same, fun j b hj => ?_⟩
  obtain ⟨vs, ⟨i, e, kq, d1, d2, d3, rfl⟩, d4⟩ := w2 b (List.mem_of_getElem? hj)
  cases (List.getElem?_inj (List.getElem?_eq_some_iff.mp hj).1 nd).mp (hj.trans d1.symm)
  exact ⟨e, kq, d2, d3, d4⟩
theorem made_nodup {es : Array DictEntry} {lo : Addr} {h : Heap} {as : List Addr} (g : DT.Made es lo h as) : as.Nodup := g.rise.imp fun z => Nat.ne_of_lt z
/-- list(v), v the view d.items() -/
def rListD : List V → Hp → VK → Prop := fun vs H Q => ∃ (p a : Addr) (kvs : List (List L2.Key × V)), vs = [.ref p] ∧ H p = some (DX.itemsO p a) ∧ H a = some (.dT kvs) ∧
  ∀ (H' : Hp) (l : Addr) (ts : List Addr), Gw H H' → H' l = some (.lst (ts.map V.ref)) → ts.length = kvs.length → H l = none →
    (∀ (j : Nat) (b : Addr), ts[j]? = some b → ∃ (e : List L2.Key × V) (kq : Addr), kvs[j]? = some e ∧ H kq = some (.tup (e.1.map kV)) ∧ H' b = some (.tup [.ref kq, e.2])) → Q (.ref l) H'
abbrev entI (e : List Int × Addr) : List L2.Key × V := (e.1.map Sum.inl, V.ref e.2)
/-- sorted(v), v the view d.items(): keys tuples of d ints in [0, B), values tuples, M of the key -/
def rSortD (B : Int) : List V → Hp → VK → Prop := fun vs H Q => ∃ (p a : Addr) (ks : List (List Int × Addr)) (d : Nat) (M : List Int → List L2.Key), vs = [.ref p] ∧ H p = some (DX.itemsO p a) ∧ H a = some (.dT (ks.map entI)) ∧ ks.length < 64 ∧
  (∀ e ∈ ks, H e.2 = some (.tup ((M e.1).map kV)) ∧ e.1.length = d ∧ TS.Bd B e.1) ∧
  ∀ (H' : Hp) (l : Addr) (ps : List (Addr × List Int × Addr)), Gw H H' → H l = none → (ps.map (·.2)).Perm ks → (ps.map (·.2)).Pairwise (fun e f => TS.code B e.1 ≤ TS.code B f.1) → H' l = some (.lst (ps.map fun z => V.ref z.1)) →
    (∀ z ∈ ps, ∃ q, H' z.1 = some (.tup [.ref q, .ref z.2.2]) ∧ H' q = some (.tup (z.2.1.map V.int))) → Q (.ref l) H'
theorem kV_ints (y : List Int) : (y.map Sum.inl : List L2.Key).map kV = y.map V.int := by rw [List.map_map]; rfl
theorem cr_sortD {B : Int} (hc : X.calm = true) (hu : X.A.units + 64 < cLine) : CallR X (.builtin "sorted") (rSortD B) := by
  intro pins s σ H xs us Q I r h
  obtain ⟨p, a, ks, d, M, rfl, hp, ha, few, hv, q⟩ := h
  obtain rfl := Vals.ref1 r
  have view : s.heap.IsItemsView p a := (show ObjOk X.prog X.w H s.heap p (DX.itemsO p a) from I.hok p _ hp).1
  obtain ⟨z, hd, xs', rel, o, es, ep, ho, hx, hdat, hes, his, hn⟩ := dt_of I.hok ha
  have n1 : ks.length = xs'.length := (List.length_map (f := entI) (as := ks)).symm.trans (Paired.length rel)
  have n2 : es.size = xs'.length := size_of_entries hes
  refine DT.sortedI (es := es) (ep := ep) (I.ok.hd hc) view ⟨o, ho, hx, hdat⟩ (by rw [sizeLine_eq]; omega) fun h' tk as hk hlt hl hG => ?_
  have nd := made_nodup hG
  have lk : as.length = ks.length := by omega
  have mp := fun (j : Nat) (b : Addr) (hj : as[j]? = some b) => made_pair (X := X) rel hes hG hj
  have new : ∀ b u, h'.get? b = some u → b ≠ h'.objs.size := fun b u w1 => Nat.ne_of_lt (Heap.lt_size w1)
  have atL : (h'.push { cls := .type "list", data := .seq (as.map Value.ref).toArray }).get? h'.objs.size = some (seqObj "list" (as.map Value.ref).toArray 0) := Heap.get?_push_size _ rfl
  have old : ∀ b u, h'.get? b = some u → (h'.push { cls := .type "list", data := .seq (as.map Value.ref).toArray }).get? b = some u := fun b u w1 => Heap.get?_push_of_some _ w1
  generalize h'.push { cls := .type "list", data := .seq (as.map Value.ref).toArray } = hS at atL old ⊢
  -- each pair in the heap of the comparisons
  have cmp : ∀ (j : Nat) (b : Addr), as[j]? = some b → ∃ e : List Int × Addr, ks[j]? = some e ∧ PrD X.prog X.w (TS.midHeap hS h'.objs.size (as.map Value.ref)) (.ref b) e.1 (M e.1) := by
    intro j b hj
    obtain ⟨e0, kq, v, c1, c2, c3, c4⟩ := mp j b hj
    rw [List.getElem?_map] at c1
    cases ej : ks[j]? with
    | none => rw [ej] at c1; exact nomatch c1
    | some e =>
      rw [ej] at c1
      cases Option.some.inj c1
      cases (show v = Value.ref e.2 from c3)
      have mid : ∀ b u, h'.get? b = some u → (TS.midHeap hS h'.objs.size (as.map Value.ref)).get? b = some u := fun b u w1 => TS.midHeap_old (new b u w1) (old b u w1)
      have c2' : H kq = some (.tup (e.1.map V.int)) := by rw [← kV_ints]; exact c2
      obtain ⟨_, its, rv, ot, t1, t2, nt, t3⟩ := (show ObjOk X.prog X.w H s.heap kq (.tup (e.1.map V.int)) from I.hok kq _ c2')
      obtain ⟨ok, ik, nk, k1, k2, k3, k4⟩ := (show IsTupleKey (mixKind X.prog X.w) s.heap (e.1.map Sum.inl) kq from key_of I.hok c2)
      obtain ⟨ov, iv, nv, v1, v2, v3, v4⟩ := (show IsTupleKey (mixKind X.prog X.w) s.heap (M e.1) e.2 from key_of I.hok (hv e (List.mem_of_getElem? ej)).1)
      exact ⟨e, rfl, b, kq, e.2, its.toArray, rfl, ⟨_, mid _ _ c4, rfl, 0, rfl⟩, ⟨ot, mid _ _ (hk _ _ t1), t2, nt, t3⟩, Vals.ints rv, ⟨ok, ik, nk, mid _ _ (hk _ _ k1), k2, k3, k4⟩, ⟨ov, iv, nv, mid _ _ (hk _ _ v1), v2, v3, v4⟩⟩
  have rk : ∀ (j : Nat) (b : Addr) (e : List Int × Addr), as[j]? = some b → ks[j]? = some e → keyD (TS.midHeap hS h'.objs.size (as.map Value.ref)) (.ref b) = e.1 := fun j b e hj he => by
    obtain ⟨f, f1, f2⟩ := cmp j b hj
    cases Option.some.inj (he.symm.trans f1)
    exact f2.key
  refine wpAny_call_entry slot_list_sort ⟨_, atL, rfl⟩ entry_list_sort
    (SK.plain_sort (s := { s with heap := hS, toks := tk }) (r := fun v => TS.code B (keyD (TS.midHeap hS h'.objs.size (as.map Value.ref)) v)) atL (by rw [List.length_map]; omega) (fun two Qk hQk => ?_) fun ps out o1 o2 o3 => ⟨.none, rfl, ?_⟩) (args_list_sort _)
  · refine kindD (s := { s with heap := TS.midHeap hS h'.objs.size (as.map Value.ref), toks := tk }) (d := d) (M := M) two (by show X.A.units + 1 + 1 < cLine; omega) (fun v w1 => ?_) Qk hQk
    obtain ⟨b, hb, rfl⟩ := List.mem_map.mp w1
    obtain ⟨j, hj⟩ := List.mem_iff_getElem?.mp hb
    obtain ⟨e, f1, f2⟩ := cmp j b hj
    exact ⟨e.1, f2, (hv e (List.mem_of_getElem? f1)).2⟩
  · show EP X pins σ Q (.ref h'.objs.size) { s with heap := sortedHeap hS h'.objs.size (as.map Value.ref) out, toks := tk }
    obtain ⟨zs, pz, ez⟩ := perm_lift (fun z : Addr × List Int × Addr => (Value.ref z.1, Value.ref z.1)) o2 (as.zip ks) (DX.zip_self Value.ref as ks lk)
    have idx : ∀ z ∈ zs, ∃ j : Nat, as[j]? = some z.1 ∧ ks[j]? = some z.2 := fun z hz => by
      obtain ⟨j, hj⟩ := List.mem_iff_getElem?.mp (pz.mem_iff.mp hz)
      exact ⟨j, List.getElem?_zip_eq_some.mp hj⟩
    have outs : out.toList = (zs.map (·.1)).map Value.ref := by
      rw [o1, ← ez, List.map_map, List.map_map]
      rfl
    have perm : (zs.map (·.2)).Perm ks := by
      have w1 := pz.map (fun z : Addr × List Int × Addr => z.2)
      rwa [List.map_snd_zip (by omega)] at w1
    have asc : (zs.map (·.2)).Pairwise (fun e f => TS.code B e.1 ≤ TS.code B f.1) := by
      rw [← ez, List.pairwise_map] at o3
      rw [List.pairwise_map]
      refine o3.imp_of_mem fun {x y} m1 m2 w1 => ?_
      obtain ⟨j, j1, j2⟩ := idx x m1
      obtain ⟨i, i1, i2⟩ := idx y m2
      have w2 : TS.code B (keyD (TS.midHeap hS h'.objs.size (as.map Value.ref)) (.ref x.1)) ≤ TS.code B (keyD (TS.midHeap hS h'.objs.size (as.map Value.ref)) (.ref y.1)) := w1
      rwa [rk j _ _ j1 j2, rk i _ _ i1 i2] at w2
    obtain ⟨eF, heF⟩ := sortedHeap_at (vs := as.map Value.ref) (out := out) atL
    have kF : ∀ b u, h'.get? b = some u → (sortedHeap hS h'.objs.size (as.map Value.ref) out).get? b = some u := fun b u w1 => (sortedHeap_old (new b u w1) (Heap.lt_size (old b u w1))).trans (old b u w1)
    have len : zs.length = ks.length := by rw [← perm.length_eq, List.length_map]
    obtain ⟨H2, I3, g1, g2, g3⟩ := track_pairs (tk := tk) (rs := zs.map (·.1)) I nd (fun b hb => ⟨Nat.le_of_lt (hG.above b hb), Nat.ne_of_lt (hG.there hb)⟩) (Nat.le_of_lt hlt) (fun b u w1 => kF b u (hk b u w1)) (by rw [← Array.toArray_toList (xs := out)]; exact heF) outs (by rw [List.length_map, sizeLine_eq]; omega)
      fun j b hj => by
        obtain ⟨e, kq, v, c1, c2, c3, c4⟩ := mp j b hj
        exact ⟨e, kq, v, c1, c2, c3, kF _ _ c4⟩
    refine ⟨.ref h'.objs.size, H2, I3, rfl, q H2 h'.objs.size zs g1 (I.hok.fresh (Nat.le_of_lt hlt)) perm asc (by rw [g2, List.map_map]; rfl) fun z hz => ?_⟩
    obtain ⟨j, j1, j2⟩ := idx z hz
    obtain ⟨e, kq, d1, d2, d3⟩ := g3 j z.1 j1
    rw [List.getElem?_map, j2] at d1
    cases Option.some.inj d1
    exact ⟨kq, d3, by rw [← kV_ints]; exact g1 _ _ d2⟩
end
section
variable {prog : Program} {w : World} {A : Around} {E : Value → Shared → Prop} {s : Shared} {r d : Addr} {es : Array DictEntry} {ep : Nat}
/-- list() of a view d.items() -/
theorem list_view {Q : Value → Shared → Prop} (hh : A.handled = none) (hv : s.heap.IsItemsView r d) (hm : DT.Raw s.heap d es ep) (hn : es.size ≤ sizeLine)
    (q : ∀ h' tk acc c as, (∀ b o, s.heap.get? b = some o → h'.get? b = some o) → h'.get? s.heap.objs.size = some { cls := .type "list", dict := none, data := .seq acc c, slots := #[] } → as.length = es.size → DT.Made es s.heap.objs.size h' as →
      acc.toList = as.map Value.ref → Q (.ref s.heap.objs.size) { s with heap := h', toks := tk }) :
    wpAny (model prog w) A (call (.type "list") [.ref r]) Q E s := by
  have lr : r < s.heap.objs.size := let ⟨_, z, _⟩ := hv; Heap.lt_size z
  have ld := hm.lt
  refine PySem.callType_codes (Q₁ := fun x t => x = .ref s.heap.objs.size ∧ t = { s with heap := s.heap.push { cls := .type "list", data := .seq #[] } }) F.called_list (F.typeCall_list_1 _) F.entry_list_init (code_list_new _ ⟨rfl, rfl⟩) fun x t e => ?_
  obtain ⟨rfl, rfl⟩ := e
  have top : (s.heap.push { cls := .type "list", data := .seq #[] }).get? s.heap.objs.size = some { cls := .type "list", data := .seq #[] } := Heap.get?_push_size _ rfl
  refine ⟨⟨_, top, rfl⟩, F.args_list_init_2 _ _, ?_⟩
  show wpAny _ _ (Builtin.List.listItems (.ref s.heap.objs.size) >>= fun was => Builtin.List.listUpdate (.ref s.heap.objs.size) (fun _ => #[]) >>= fun _ => letGo was.toList.reverse >>= fun _ => Builtin.List.listExtendWith (.ref s.heap.objs.size) (.ref r) .none) _ _ _
  unfold Builtin.List.listItems
  refine wpAny_bind (wpAny_bind (wpAny_seqItems top rfl (wpAny_pure ?_)))
  show wpAny _ _ (updateSeq s.heap.objs.size (fun _ => #[]) >>= fun _ => letGo (#[] : Array Value).toList.reverse >>= fun _ => Builtin.List.listExtendWith (.ref s.heap.objs.size) (.ref r) .none) _ _ _
  refine wpAny_bind (wpAny_updateSeq top rfl ?_)
  have top2 := Heap.get?_update_self (Obj.mapSeq (fun _ => (#[] : Array Value))) top rfl
  have keep : ∀ b o, b ≠ s.heap.objs.size → s.heap.get? b = some o → ((s.heap.push { cls := .type "list", data := .seq #[] }).update s.heap.objs.size (Obj.mapSeq (fun _ => (#[] : Array Value)))).get? b = some o := fun b o nb z =>
    (Heap.get?_update_other _ _ (Ne.symm nb)).trans (Heap.get?_push_of_some _ z)
  show wpAny _ _ (Builtin.List.listExtendWith (.ref s.heap.objs.size) (.ref r) .none) _ _ _
  refine DT.extI (A := A.in1) (s := { s with heap := (s.heap.push { cls := .type "list", data := .seq #[] }).update s.heap.objs.size (Obj.mapSeq (fun _ => (#[] : Array Value))) }) (es := es) (ep := ep) hh (let ⟨o, z, zz⟩ := hv; ⟨o, keep r o (Nat.ne_of_lt lr) z, zz⟩) (hm.at' fun o z => keep d o (Nat.ne_of_lt ld) z) s.heap.objs.size (Nat.ne_of_gt lr) (Nat.ne_of_lt ld) .none _ top2 (fun h' tk acc c as kp tp l1 g l2 => ?_) hn
  exact ⟨rfl, q h' tk acc c as (fun b o z => kp b o (Nat.ne_of_lt (Heap.lt_size z)) (keep b o (Nat.ne_of_lt (Heap.lt_size z)) z)) tp l1 (g.low (Nat.le_of_lt (Heap.lt_size top2))) l2⟩
end
section
variable {X : Cx}
theorem cr_listD (hc : X.calm = true) : CallR X (.type "list") rListD := by
  intro pins s σ H xs us Q I r h
  obtain ⟨p, a, kvs, rfl, hp, ha, q⟩ := h
  obtain rfl := Vals.ref1 r
  have view : s.heap.IsItemsView p a := (show ObjOk X.prog X.w H s.heap p (DX.itemsO p a) from I.hok p _ hp).1
  obtain ⟨z, hd, xs', rel, o, es, ep, ho, hx, hdat, hes, his, hn⟩ := dt_of I.hok ha
  have n1 : kvs.length = xs'.length := Paired.length rel
  have n2 : es.size = xs'.length := size_of_entries hes
  refine list_view (es := es) (ep := ep) (I.ok.hd hc) view ⟨o, ho, hx, hdat⟩ (by omega) fun h' tk acc c as hk hL hl g e => ?_
  obtain ⟨H2, I3, g1, g2, g3⟩ := track_pairs (tk := tk) (rs := as) I (made_nodup g) (fun b hb => ⟨Nat.le_of_lt (g.above b hb), Nat.ne_of_gt (g.above b hb)⟩) (Nat.le_refl _) hk hL e (by omega) fun j b hj => made_pair (X := X) rel hes g hj
  exact ⟨.ref s.heap.objs.size, H2, I3, rfl, q H2 _ as g1 g2 (by omega) (I.hok.fresh (Nat.le_refl _)) g3⟩
end
end AL
set_option Elab.async false
set_option maxRecDepth 100000
set_option exponentiation.threshold 70000
/-! Polynomials as lists of terms; ratios as Rat. -/
namespace AL
open PySem L2
def RQ (H : Hp) (t : Addr) (x : Rat) : Prop := RatAt H t x.num x.den
theorem low_rat (x : Rat) : Low x.num x.den := ⟨Nat.pos_of_ne_zero x.den_nz, x.reduced⟩
theorem nrm_rat (a : Int) {b : Nat} (hb : 0 < b) : nrm a b = ((mkRat a b).num, (mkRat a b).den) := by
  have e : mkRat (mkRat a b).num (mkRat a b).den = mkRat a b := Rat.mkRat_self _
  exact nrm_eq (low_rat _).1 hb (low_rat _).2 ((Rat.mkRat_eq_iff (mkRat a b).den_nz (by omega)).mp e)
theorem sum_rat (x y : Rat) : sumR x.num x.den y.num y.den = ((x + y).num, (x + y).den) := by
  unfold sumR
  rw [nrm_rat _ (Nat.mul_pos (low_rat x).1 (low_rat y).1), ← Rat.mkRat_add_mkRat _ _ x.den_nz y.den_nz, Rat.mkRat_self, Rat.mkRat_self]
theorem mul_rat (x y : Rat) : mulR x.num x.den y.num y.den = ((x * y).num, (x * y).den) := by
  unfold mulR
  rw [nrm_rat _ (Nat.mul_pos (low_rat x).1 (low_rat y).1), ← Rat.mkRat_mul_mkRat, Rat.mkRat_self, Rat.mkRat_self]
theorem dif_rat (x y : Rat) : difR x.num x.den y.num y.den = ((x - y).num, (x - y).den) := by
  have e := sum_rat x (-y)
  rw [Rat.neg_num, Rat.neg_den, ← Rat.sub_eq_add_neg] at e
  rw [← e]
  unfold difR sumR
  rw [Int.neg_mul, ← Int.sub_eq_add_neg]
/-- x is X / D, |X| at most B * D -/
def Sz (D B : Nat) (x : Rat) : Prop := 0 < D ∧ ∃ X : Int, X.natAbs ≤ B * D ∧ x = mkRat X D
theorem Sz.le {D B : Nat} {x : Rat} (h : Sz D B x) : x.num.natAbs ≤ B * D ∧ x.den ≤ D := by
  obtain ⟨h0, X, hX, e⟩ := h
  obtain ⟨n, d, z, c⟩ := x
  obtain ⟨m, m0, e1, e2⟩ := Rat.mkRat_num_den (by omega) e.symm
  refine ⟨Nat.le_trans ?_ hX, ?_⟩
  · rw [e1, Int.natAbs_mul, Int.natAbs_natCast]
    exact Nat.le_mul_of_pos_right _ (by omega)
  · rw [e2]
    exact Nat.le_mul_of_pos_right _ (by omega)
theorem Sz.mid {D B : Nat} {x : Rat} (h : Sz D B x) (h1 : B * D < 2 ^ 6000) (h2 : D < 2 ^ 6000) : Mid x.num x.den :=
  ⟨(low_rat x).1, Nat.lt_of_le_of_lt h.le.1 h1, Nat.lt_of_le_of_lt h.le.2 h2⟩
theorem Sz.mono {D B C : Nat} {x : Rat} (h : Sz D B x) (hb : B ≤ C) : Sz D C x := let ⟨h0, X, hX, e⟩ := h; ⟨h0, X, Nat.le_trans hX (Nat.mul_le_mul_right _ hb), e⟩
theorem Sz.up {D B : Nat} {x : Rat} (h : Sz D B x) {E : Nat} (hE : 0 < E) : Sz (D * E) B x := by
  obtain ⟨h0, X, hX, e⟩ := h
  refine ⟨Nat.mul_pos h0 hE, X * (E : Int), ?_, ?_⟩
  · rw [Int.natAbs_mul, Int.natAbs_natCast, ← Nat.mul_assoc]
    exact Nat.mul_le_mul_right _ hX
  · rw [e]
    refine (Rat.mkRat_eq_iff (by omega) (Nat.ne_of_gt (Nat.mul_pos h0 hE))).mpr ?_
    rw [Int.natCast_mul, Int.mul_assoc, Int.mul_comm (D : Int)]
theorem Sz.add {D B C : Nat} {x y : Rat} (h : Sz D B x) (k : Sz D C y) : Sz D (B + C) (x + y) := by
  obtain ⟨h0, X, hX, e⟩ := h
  obtain ⟨_, Y, hY, f⟩ := k
  refine ⟨h0, X + Y, ?_, ?_⟩
  · rw [Nat.add_mul]
    exact Nat.le_trans (Int.natAbs_add_le _ _) (Nat.add_le_add hX hY)
  · rw [e, f, Rat.mkRat_add_mkRat _ _ (by omega) (by omega)]
    refine (Rat.mkRat_eq_iff (Nat.ne_of_gt (Nat.mul_pos h0 h0)) (by omega)).mpr ?_
    rw [Int.natCast_mul, ← Int.add_mul, Int.mul_assoc]
theorem Sz.neg {D B : Nat} {x : Rat} (h : Sz D B x) : Sz D B (-x) := by
  obtain ⟨h0, X, hX, e⟩ := h
  exact ⟨h0, -X, by rw [Int.natAbs_neg]; exact hX, by rw [e, Rat.neg_mkRat]⟩
theorem Sz.mul {D B E C : Nat} {x y : Rat} (h : Sz D B x) (k : Sz E C y) : Sz (D * E) (B * C) (x * y) := by
  obtain ⟨h0, X, hX, e⟩ := h
  obtain ⟨k0, Y, hY, f⟩ := k
  refine ⟨Nat.mul_pos h0 k0, X * Y, ?_, ?_⟩
  · rw [Int.natAbs_mul, Nat.mul_mul_mul_comm]
    exact Nat.mul_le_mul hX hY
  · rw [e, f, Rat.mkRat_mul_mkRat]
theorem Sz.frac {a : Int} {b D B : Nat} (hb : 0 < b) (hd : b ∣ D) (h0 : 0 < D) (ha : a.natAbs ≤ B) : Sz D B (mkRat a b) := by
  obtain ⟨E, rfl⟩ := hd
  have hE : 0 < E := Nat.pos_of_ne_zero fun z => by rw [z] at h0; omega
  refine Sz.up (D := b) ⟨hb, a, Nat.le_trans ha (Nat.le_mul_of_pos_right _ hb), rfl⟩ hE
theorem Sz.int {D B : Nat} (i : Int) (h0 : 0 < D) (h : i.natAbs ≤ B) : Sz D B (mkRat i 1) := Sz.frac (by decide) (Nat.one_dvd _) h0 h

/-! ### terms -/
abbrev Ex := List Nat
abbrev PM := List (Ex × Rat)
def ki (e : Ex) : List Int := e.map fun k : Nat => (k : Int)
theorem ki_inj : ∀ {a b : Ex}, ki a = ki b → a = b
  | [], [], _ => rfl
  | [], _ :: _, h => nomatch h
  | _ :: _, [], h => nomatch h
  | a :: r, b :: s, h => by
    have h' : (a : Int) :: ki r = (b : Int) :: ki s := h
    injection h' with h1 h2
    rw [ki_inj h2, show a = b by omega]
def lin (φ : Ex → Rat) : PM → Rat
  | [] => 0
  | p :: r => p.2 * φ p.1 + lin φ r
theorem lin_append (φ : Ex → Rat) : ∀ a b : PM, lin φ (a ++ b) = lin φ a + lin φ b
  | [], b => by rw [List.nil_append]; exact (Rat.zero_add _).symm
  | p :: r, b => by
    show p.2 * φ p.1 + lin φ (r ++ b) = p.2 * φ p.1 + lin φ r + lin φ b
    rw [lin_append φ r b, Rat.add_assoc]
theorem lin_congr {φ ψ : Ex → Rat} : ∀ {m : PM}, (∀ p ∈ m, φ p.1 = ψ p.1) → lin φ m = lin ψ m
  | [], _ => rfl
  | p :: r, h => by
    show p.2 * φ p.1 + lin φ r = p.2 * ψ p.1 + lin ψ r
    rw [h p (List.mem_cons_self ..), lin_congr fun q hq => h q (List.mem_cons_of_mem _ hq)]
theorem lin_zero : ∀ (m : PM), lin (fun _ => 0) m = 0
  | [] => rfl
  | p :: r => by
    show p.2 * 0 + lin _ r = 0
    rw [lin_zero r, Rat.mul_zero, Rat.zero_add]
theorem lin_mulr (φ : Ex → Rat) (c : Rat) : ∀ m : PM, lin (fun e => φ e * c) m = lin φ m * c
  | [] => by show (0 : Rat) = 0 * c; grind
  | p :: r => by
    show p.2 * (φ p.1 * c) + lin _ r = (p.2 * φ p.1 + lin φ r) * c
    rw [lin_mulr φ c r]
    grind
theorem lin_perm (φ : Ex → Rat) {a b : PM} (h : a.Perm b) : lin φ a = lin φ b := by
  induction h with
  | nil => rfl
  | cons x _ ih => show _ + lin φ _ = _ + lin φ _; rw [ih]
  | swap x y l =>
    show y.2 * φ y.1 + (x.2 * φ x.1 + lin φ l) = x.2 * φ x.1 + (y.2 * φ y.1 + lin φ l)
    grind
  | trans _ _ i1 i2 => exact i1.trans i2
/-- the same polynomial -/
def Eqp (a b : PM) : Prop := ∀ φ : Ex → Rat, lin φ a = lin φ b
theorem Eqp.rfl' {a : PM} : Eqp a a := fun _ => rfl
theorem Eqp.symm {a b : PM} (h : Eqp a b) : Eqp b a := fun φ => (h φ).symm
theorem Eqp.trans {a b c : PM} (h : Eqp a b) (k : Eqp b c) : Eqp a c := fun φ => (h φ).trans (k φ)
theorem Eqp.append {a b c d : PM} (h : Eqp a b) (k : Eqp c d) : Eqp (a ++ c) (b ++ d) := fun φ => by rw [lin_append, lin_append, h φ, k φ]
def nzM (m : PM) : PM := m.filter fun p => decide (p.2 ≠ 0)
theorem nz_eqp : ∀ m : PM, Eqp (nzM m) m
  | [], _ => rfl
  | p :: r, φ => by
    have ih := nz_eqp r φ
    unfold nzM at ih ⊢
    by_cases h : p.2 = 0
    · rw [List.filter_cons_of_neg (by simp [h]), ih]
      show lin φ r = p.2 * φ p.1 + lin φ r
      rw [h]; grind
    · rw [List.filter_cons_of_pos (by simp [h])]
      show p.2 * φ p.1 + lin φ _ = _
      rw [ih]; rfl
def getM (m : PM) (e : Ex) : Option Rat := (m.find? fun p => decide (p.1 = e)).map (·.2)
def hasM (m : PM) (e : Ex) : Bool := m.any fun p => decide (p.1 = e)
def putM (m : PM) (e : Ex) (v : Rat) : PM := if hasM m e = true then m.map (fun p => if p.1 = e then (p.1, v) else p) else m ++ [(e, v)]
theorem has_get (e : Ex) : ∀ m : PM, hasM m e = (getM m e).isSome
  | [] => rfl
  | p :: r => by
    have ih := has_get e r
    unfold hasM getM at ih ⊢
    rw [List.any_cons, List.find?_cons]
    by_cases h : p.1 = e
    · simp [h]
    · rw [decide_eq_false h, Bool.false_or]; exact ih
theorem put_keys (m : PM) (e : Ex) (v : Rat) : (putM m e v).map (·.1) = if hasM m e = true then m.map (·.1) else m.map (·.1) ++ [e] := by
  unfold putM
  split
  · rw [List.map_map]
    refine List.map_congr_left fun p _ => ?_
    show (if p.1 = e then (p.1, v) else p).1 = p.1
    split <;> rfl
  · rw [List.map_append]; rfl
theorem has_mem {m : PM} {e : Ex} : hasM m e = true ↔ e ∈ m.map (·.1) := by
  unfold hasM
  rw [List.any_eq_true, List.mem_map]
  exact ⟨fun ⟨p, h1, h2⟩ => ⟨p, h1, of_decide_eq_true h2⟩, fun ⟨p, h1, h2⟩ => ⟨p, h1, decide_eq_true h2⟩⟩
theorem put_nodup {m : PM} (nd : (m.map (·.1)).Nodup) (e : Ex) (v : Rat) : ((putM m e v).map (·.1)).Nodup := by
  rw [put_keys]
  split
  · exact nd
  · rename_i h
    rw [List.nodup_append]
    refine ⟨nd, by simp, fun a ha b hb z => h (has_mem.mpr ?_)⟩
    rw [List.mem_singleton] at hb
    rw [← hb, ← z]; exact ha
theorem put_len (m : PM) (e : Ex) (v : Rat) : (putM m e v).length ≤ m.length + 1 := by
  unfold putM
  split
  · rw [List.length_map]; omega
  · rw [List.length_append]; exact Nat.le_refl _
theorem lin_put (φ : Ex → Rat) (e : Ex) (v : Rat) : ∀ m : PM, (m.map (·.1)).Nodup → lin φ (putM m e v) = lin φ m + (v - (getM m e).getD 0) * φ e
  | [], _ => by
    show v * φ e + 0 = 0 + (v - 0) * φ e
    grind
  | p :: r, nd => by
    rw [List.map_cons, List.nodup_cons] at nd
    have ih := lin_put φ e v r nd.2
    by_cases h : p.1 = e
    · have h1 : hasM (p :: r) e = true := by unfold hasM; rw [List.any_cons, decide_eq_true h, Bool.true_or]
      have h2 : getM (p :: r) e = some p.2 := by unfold getM; rw [List.find?_cons, decide_eq_true h]; rfl
      have h3 : r.map (fun p => if p.1 = e then (p.1, v) else p) = r := by
        refine (List.map_congr_left fun q hq => ?_).trans (List.map_id r)
        rw [if_neg fun z => nd.1 (List.mem_map.mpr ⟨q, hq, by rw [z, h]⟩)]; rfl
      unfold putM
      rw [if_pos h1, h2, List.map_cons, if_pos h, h3]
      show v * φ p.1 + lin φ r = p.2 * φ p.1 + lin φ r + (v - p.2) * φ e
      rw [h]; grind
    · have h1 : hasM (p :: r) e = hasM r e := by unfold hasM; rw [List.any_cons, decide_eq_false h, Bool.false_or]
      have h2 : getM (p :: r) e = getM r e := by unfold getM; rw [List.find?_cons, decide_eq_false h]
      have h3 : putM (p :: r) e v = p :: putM r e v := by
        unfold putM
        rw [h1]
        split
        · rw [List.map_cons, if_neg h]
        · rfl
      rw [h3, h2]
      show p.2 * φ p.1 + lin φ (putM r e v) = p.2 * φ p.1 + lin φ r + _
      rw [ih]; grind
def addM (m : PM) (e : Ex) (v : Rat) : PM := putM m e ((getM m e).getD 0 + v)
def joinM (m l : PM) : PM := l.foldl (fun a p => addM a p.1 p.2) m
theorem join_take {m l : PM} {i : Nat} {p : Ex × Rat} (h : l[i]? = some p) : joinM m (l.take (i + 1)) = addM (joinM m (l.take i)) p.1 p.2 := by
  unfold joinM
  rw [List.take_add_one, h, List.foldl_append]; rfl
theorem join_lin (φ : Ex → Rat) : ∀ (l m : PM), (m.map (·.1)).Nodup → lin φ (joinM m l) = lin φ m + lin φ l ∧ ((joinM m l).map (·.1)).Nodup
  | [], m, nd => ⟨(Rat.add_zero _).symm, nd⟩
  | p :: r, m, nd => by
    have nd2 := put_nodup nd p.1 ((getM m p.1).getD 0 + p.2)
    obtain ⟨h1, h2⟩ := join_lin φ r (addM m p.1 p.2) nd2
    refine ⟨?_, h2⟩
    show lin φ (joinM (addM m p.1 p.2) r) = lin φ m + (p.2 * φ p.1 + lin φ r)
    rw [h1]
    unfold addM
    rw [lin_put φ _ _ _ nd]
    grind
theorem join_eqp (l : PM) : Eqp (joinM [] l) l := fun φ => by rw [(join_lin φ l [] List.nodup_nil).1]; exact Rat.zero_add _
theorem join_nodup (l : PM) : ((joinM [] l).map (·.1)).Nodup := (join_lin (fun _ => 0) l [] List.nodup_nil).2
/-- keys of n numbers up to E, ratios within D and B -/
def PB (n E D B : Nat) (m : PM) : Prop := ∀ p ∈ m, p.1.length = n ∧ (∀ k ∈ p.1, k ≤ E) ∧ Sz D B p.2
theorem PB.mono {n E D B C F : Nat} {m : PM} (h : PB n E D B m) (h1 : B ≤ C) (h2 : E ≤ F) : PB n F D C m := fun p hp => let ⟨a, b, c⟩ := h p hp; ⟨a, fun k hk => Nat.le_trans (b k hk) h2, c.mono h1⟩
theorem PB.up {n E D B F : Nat} {m : PM} (h : PB n E D B m) (hF : 0 < F) : PB n E (D * F) B m := fun p hp => let ⟨a, b, c⟩ := h p hp; ⟨a, b, c.up hF⟩
theorem PB.append {n E D B : Nat} {m l : PM} (h : PB n E D B m) (k : PB n E D B l) : PB n E D B (m ++ l) := fun p hp => (List.mem_append.mp hp).elim (h p) (k p)
theorem PB.sub {n E D B : Nat} {m l : PM} (h : PB n E D B m) (k : ∀ p ∈ l, p ∈ m) : PB n E D B l := fun p hp => h p (k p hp)
theorem PB.nz {n E D B : Nat} {m : PM} (h : PB n E D B m) : PB n E D B (nzM m) := h.sub fun _ hp => (List.mem_filter.mp hp).1
theorem get_mem {m : PM} {e : Ex} {v : Rat} (h : getM m e = some v) : (e, v) ∈ m := by
  unfold getM at h
  rw [Option.map_eq_some_iff] at h
  obtain ⟨p, h1, h2⟩ := h
  have h3 : p.1 = e := by have z := List.find?_some h1; exact of_decide_eq_true z
  have h4 := List.mem_of_find?_eq_some h1
  rw [← h3, ← h2]; exact h4
theorem PB.add {n E D B C : Nat} {m : PM} (h : PB n E D B m) {e : Ex} {v : Rat} (hl : e.length = n) (he : ∀ k ∈ e, k ≤ E) (hv : Sz D C v) : PB n E D (B + C) (addM m e v) := by
  have hg : Sz D (B + C) ((getM m e).getD 0 + v) := by
    cases z : getM m e with
    | none =>
      rw [Option.getD_none, Rat.zero_add]
      exact hv.mono (by omega)
    | some x => exact (h _ (get_mem z)).2.2.add hv
  intro p hp
  unfold addM putM at hp
  split at hp
  · obtain ⟨q, hq, rfl⟩ := List.mem_map.mp hp
    split
    · exact ⟨(h q hq).1, (h q hq).2.1, hg⟩
    · exact ⟨(h q hq).1, (h q hq).2.1, (h q hq).2.2.mono (by omega)⟩
  · rcases List.mem_append.mp hp with hp | hp
    · exact ⟨(h p hp).1, (h p hp).2.1, (h p hp).2.2.mono (by omega)⟩
    · rw [List.mem_singleton] at hp
      rw [hp]; exact ⟨hl, he, hg⟩
theorem PB.join {n E D C : Nat} : ∀ {l m : PM} {B : Nat}, PB n E D B m → PB n E D C l → PB n E D (B + C * l.length) (joinM m l)
  | [], m, B, h, _ => by rw [List.length_nil, Nat.mul_zero]; exact h
  | p :: r, m, B, h, k => by
    have k1 := k p (List.mem_cons_self ..)
    have z := PB.join (l := r) (h.add k1.1 k1.2.1 k1.2.2) fun q hq => k q (List.mem_cons_of_mem _ hq)
    refine PB.mono z ?_ (Nat.le_refl _)
    rw [List.length_cons, Nat.mul_add]; omega
theorem join_len : ∀ (l m : PM), (joinM m l).length ≤ m.length + l.length
  | [], m => Nat.le_refl _
  | p :: r, m => by
    have h := join_len r (addM m p.1 p.2)
    have h2 := put_len m p.1 ((getM m p.1).getD 0 + p.2)
    unfold addM at h
    show (joinM (addM m p.1 p.2) r).length ≤ m.length + (r.length + 1)
    unfold addM
    omega
/-! ### in their order -/
def cd (e : Ex) : Int := TS.code 128 (ki e)
def Asc (m : PM) : Prop := m.Pairwise fun p q => cd p.1 < cd q.1
def NZ (m : PM) : Prop := ∀ p ∈ m, p.2 ≠ 0
def ind (e : Ex) : Ex → Rat := fun f => if f = e then 1 else 0
theorem ind_none {e : Ex} : ∀ {m : PM}, (∀ p ∈ m, p.1 ≠ e) → lin (ind e) m = 0
  | [], _ => rfl
  | p :: r, h => by
    have ih := ind_none fun q hq => h q (List.mem_cons_of_mem _ hq)
    show p.2 * (if p.1 = e then 1 else 0) + lin (ind e) r = 0
    rw [if_neg (h p (List.mem_cons_self ..)), ih]
    grind
theorem ind_head {p : Ex × Rat} {r : PM} (h : Asc (p :: r)) : lin (ind p.1) (p :: r) = p.2 := by
  have h2 := (List.pairwise_cons.mp h).1
  show p.2 * (if p.1 = p.1 then 1 else 0) + lin (ind p.1) r = p.2
  rw [if_pos rfl, ind_none fun q hq z => by have := h2 q hq; rw [z] at this; omega]
  grind
theorem uniq : ∀ {a b : PM}, Asc a → Asc b → NZ a → NZ b → Eqp a b → a = b
  | [], [], _, _, _, _, _ => rfl
  | [], q :: s, _, hb, _, nb, h => by
    have z := h (ind q.1)
    rw [ind_head hb] at z
    exact absurd z.symm (nb q (List.mem_cons_self ..))
  | p :: r, [], ha, _, na, _, h => by
    have z := h (ind p.1)
    rw [ind_head ha] at z
    exact absurd z (na p (List.mem_cons_self ..))
  | p :: r, q :: s, ha, hb, na, nb, h => by
    obtain ⟨a1, a2⟩ := List.pairwise_cons.mp ha
    obtain ⟨b1, b2⟩ := List.pairwise_cons.mp hb
    have z1 := h (ind p.1)
    have z2 := h (ind q.1)
    rw [ind_head ha] at z1
    rw [ind_head hb] at z2
    have m1 : ∃ x ∈ q :: s, x.1 = p.1 := by
      refine Classical.byContradiction fun w => na p (List.mem_cons_self ..) ?_
      rw [z1, ind_none fun x hx z => w ⟨x, hx, z⟩]
    have m2 : ∃ x ∈ p :: r, x.1 = q.1 := by
      refine Classical.byContradiction fun w => nb q (List.mem_cons_self ..) ?_
      rw [← z2, ind_none fun x hx z => w ⟨x, hx, z⟩]
    obtain ⟨x, hx, ex⟩ := m1
    obtain ⟨y, hy, ey⟩ := m2
    have ek : p.1 = q.1 := by
      rcases List.mem_cons.mp hx with rfl | hx
      · exact ex.symm
      · rcases List.mem_cons.mp hy with rfl | hy
        · exact ey
        · have w1 := b1 x hx
          have w2 := a1 y hy
          rw [ex] at w1
          rw [ey] at w2
          omega
    have ev : p.2 = q.2 := by
      rw [z1, ek, ind_head hb]
    have e : p = q := Prod.ext ek ev
    subst e
    rw [uniq a2 b2 (fun x hx => na x (List.mem_cons_of_mem _ hx)) (fun x hx => nb x (List.mem_cons_of_mem _ hx)) fun φ => Rat.add_left_cancel _ (h φ)]
theorem code_inj : ∀ {a b : List Int}, a.length = b.length → TS.Bd 128 a → TS.Bd 128 b → TS.code 128 a = TS.code 128 b → a = b
  | [], [], _, _, _, _ => rfl
  | [], _ :: _, h, _, _, _ => nomatch h
  | _ :: _, [], h, _, _, _ => nomatch h
  | x :: r, y :: s, h, ha, hb, e => by
    have h' : r.length = s.length := by simpa using h
    rcases Int.lt_trichotomy x y with w | w | w
    · have := TS.code_lt (B := 128) h' ha.tail hb.tail w
      omega
    · subst w
      have e2 : TS.code 128 r = TS.code 128 s := by
        have e' : x * 128 ^ r.length + TS.code 128 r = x * 128 ^ s.length + TS.code 128 s := e
        rw [h'] at e'
        omega
      rw [code_inj h' ha.tail hb.tail e2]
    · have := TS.code_lt (B := 128) h'.symm hb.tail ha.tail w
      omega
theorem bd_ki {e : Ex} (h : ∀ k ∈ e, k ≤ 80) : TS.Bd 128 (ki e) := fun m hm => by
  obtain ⟨k, hk, rfl⟩ := List.mem_map.mp hm
  have := h k hk
  omega
theorem len_ki (e : Ex) : (ki e).length = e.length := by unfold ki; exact List.length_map _
/-! ### products, values -/
def plE (e f : Ex) : Ex := List.zipWith (· + ·) e f
def mulM (a b : PM) : PM := a.flatMap fun p => b.map fun q => (plE p.1 q.1, p.2 * q.2)
theorem lin_map (φ : Ex → Rat) (p : Ex × Rat) : ∀ b : PM, lin φ (b.map fun q => (plE p.1 q.1, p.2 * q.2)) = p.2 * lin (fun f => φ (plE p.1 f)) b
  | [] => by show (0 : Rat) = p.2 * 0; grind
  | q :: s => by
    rw [List.map_cons]
    show p.2 * q.2 * φ (plE p.1 q.1) + lin φ _ = p.2 * (q.2 * φ (plE p.1 q.1) + lin _ s)
    rw [lin_map φ p s]
    grind
theorem lin_mul (φ : Ex → Rat) : ∀ a b : PM, lin φ (mulM a b) = lin (fun e => lin (fun f => φ (plE e f)) b) a
  | [], _ => rfl
  | p :: r, b => by
    have e : mulM (p :: r) b = (b.map fun q => (plE p.1 q.1, p.2 * q.2)) ++ mulM r b := List.flatMap_cons
    rw [e, lin_append, lin_map, lin_mul φ r b]
    rfl
theorem Eqp.mul {a b c d : PM} (h : Eqp a b) (k : Eqp c d) : Eqp (mulM a c) (mulM b d) := fun φ => by
  rw [lin_mul, lin_mul, h]
  exact lin_congr fun p _ => k _
def sclM (c : Rat) (a : PM) : PM := a.map fun p => (p.1, p.2 * c)
theorem lin_scl (φ : Ex → Rat) (c : Rat) : ∀ a : PM, lin φ (sclM c a) = lin φ a * c
  | [] => by show (0 : Rat) = 0 * c; grind
  | p :: r => by
    show p.2 * c * φ p.1 + lin φ (sclM c r) = (p.2 * φ p.1 + lin φ r) * c
    rw [lin_scl φ c r]
    grind
theorem Eqp.scl {a b : PM} (h : Eqp a b) (c : Rat) : Eqp (sclM c a) (sclM c b) := fun φ => by rw [lin_scl, lin_scl, h]
def mon : Ex → List Rat → Rat
  | k :: e, x :: p => x ^ k * mon e p
  | _, _ => 1
def ev (p : List Rat) (m : PM) : Rat := lin (fun e => mon e p) m
theorem mon_add : ∀ (e f : Ex) (p : List Rat), e.length = p.length → f.length = p.length → mon (plE e f) p = mon e p * mon f p
  | [], [], [], _, _ => by show (1 : Rat) = 1 * 1; grind
  | [], _ :: _, [], _, k => nomatch k
  | _ :: _, [], [], h, _ => nomatch h
  | i :: e, j :: f, x :: p, h, k => by
    show x ^ (i + j) * mon (plE e f) p = x ^ i * mon e p * (x ^ j * mon f p)
    rw [mon_add e f p (by simpa using h) (by simpa using k)]
    grind
theorem ev_mul {n E D B F C G : Nat} {a b : PM} {p : List Rat} (ha : PB n E D B a) (hb : PB n F G C b) (hp : p.length = n) : ev p (mulM a b) = ev p a * ev p b := by
  unfold ev
  rw [lin_mul, ← lin_mulr]
  refine lin_congr fun x hx => ?_
  have e : ∀ y ∈ b, mon (plE x.1 y.1) p = mon y.1 p * mon x.1 p := fun y hy => by
    rw [mon_add _ _ _ ((ha x hx).1.trans hp.symm) ((hb y hy).1.trans hp.symm)]
    grind
  rw [lin_congr (m := b) (φ := fun f => mon (plE x.1 f) p) (ψ := fun f => mon f p * mon x.1 p) e, lin_mulr]
  grind
theorem PB.mul {n E D B F C G : Nat} {a b : PM} (ha : PB n E D B a) (hb : PB n F G C b) : PB n (E + F) (D * G) (B * C) (mulM a b) := fun p hp => by
  obtain ⟨x, hx, hp⟩ := List.mem_flatMap.mp hp
  obtain ⟨y, hy, rfl⟩ := List.mem_map.mp hp
  refine ⟨?_, fun k hk => ?_, (ha x hx).2.2.mul (hb y hy).2.2⟩
  · show (plE x.1 y.1).length = n
    unfold plE
    rw [List.length_zipWith, (ha x hx).1, (hb y hy).1, Nat.min_self]
  · obtain ⟨i, hi⟩ := List.mem_iff_getElem?.mp hk
    have hi' : (plE x.1 y.1)[i]? = some k := hi
    unfold plE at hi'
    rw [List.getElem?_zipWith] at hi'
    cases h1 : x.1[i]? with
    | none => rw [h1] at hi'; exact nomatch hi'
    | some u =>
      cases h2 : y.1[i]? with
      | none => rw [h1, h2] at hi'; exact nomatch hi'
      | some v =>
        rw [h1, h2] at hi'
        have e : u + v = k := Option.some.inj hi'
        have := (ha x hx).2.1 u (List.mem_of_getElem? h1)
        have := (hb y hy).2.1 v (List.mem_of_getElem? h2)
        omega
theorem PB.scl {n E D B : Nat} {a : PM} (ha : PB n E D B a) : PB n E D B (sclM (-1) a) := fun p hp => by
  obtain ⟨x, hx, rfl⟩ := List.mem_map.mp hp
  refine ⟨(ha x hx).1, (ha x hx).2.1, ?_⟩
  show Sz D B (x.2 * -1)
  rw [Rat.mul_neg, Rat.mul_one]
  exact (ha x hx).2.2.neg
end AL
set_option Elab.async false
set_option linter.all false
set_option maxRecDepth 100000
/-! dict(pairs) where the keys are tuples, all unlike. -/
namespace AL
open PySem PySem.W PySem.Spec PyProof.Rows L2
theorem stored_all {κ : Type} [DecidableEq κ] : ∀ (ps xs : List (κ × Addr × Value)), ((xs ++ ps).map (·.1)).Nodup → storedAllH xs ps = xs ++ ps
  | [], xs, _ => by rw [List.append_nil]; rfl
  | p :: ps, xs, h => by
    have no : atKey xs p.1 = none := by
      unfold atKey
      rw [Option.map_eq_none_iff, List.find?_eq_none]
      intro x hx z
      rw [List.map_append, List.nodup_append] at h
      exact h.2.2 _ (List.mem_map.mpr ⟨x, hx, rfl⟩) p.1 (by simp) (of_decide_eq_true z)
    have e : storedAllH xs (p :: ps) = storedAllH (storedH xs p.1 p.2.1 p.2.2) ps := rfl
    rw [e, storedH_new no, stored_all ps _ (by rw [List.append_assoc]; exact h), List.append_assoc]
    rfl
section
variable {X : Cx} {pins : List (Addr × Obj)} {σ : L2.St} {H : Hp} {s : Shared}
/-- the pairs as they lie -/
theorem lie_pairs (I : Inv X pins σ H s) {ps : List Addr} {kvs : List (List L2.Key × V)} (h : Paired (fun p (kv : List L2.Key × V) => ∃ b, H p = some (.tup [.ref b, kv.2]) ∧ H b = some (.tup (kv.1.map kV))) ps kvs) :
    ∃ xs : List (List L2.Key × Addr × Value), KT H kvs xs ∧ xs.length = ps.length ∧ ∀ (j : Nat) (x : List L2.Key × Addr × Value), xs[j]? = some x → ∃ p, ps[j]? = some p ∧ PairAt s.heap p (.ref x.2.1) x.2.2 := by
  induction h with
  | nil => exact ⟨[], .nil, rfl, fun j x e => by simp at e⟩
  | @cons p kv ps kvs h t ih =>
    obtain ⟨xs, r, l, q⟩ := ih
    obtain ⟨b, h1, h2⟩ := h
    obtain ⟨_, its, rv, o, ho, hc, n, hd⟩ := (show ObjOk X.prog X.w H s.heap p (.tup [.ref b, kv.2]) from I.hok p _ h1)
    obtain ⟨u, v, rfl, ru, rv2⟩ := vals2 rv
    cases ru
    refine ⟨(kv.1, b, v) :: xs, .cons ⟨rfl, h2, rv2⟩ r, by rw [List.length_cons, List.length_cons, l], fun j x e => ?_⟩
    cases j with
    | zero =>
      cases Option.some.inj e
      exact ⟨p, rfl, .inl ⟨o, ho, hc, n, hd⟩⟩
    | succ j =>
      obtain ⟨p2, e1, e2⟩ := q j x (by simpa using e)
      exact ⟨p2, by simpa using e1, e2⟩
theorem kt_keys {kvs : List (List L2.Key × V)} {xs : List (List L2.Key × Addr × Value)} (r : KT H kvs xs) : kvs.map (·.1) = xs.map (·.1) := by
  induction r with
  | nil => rfl
  | cons h t ih => rw [List.map_cons, List.map_cons, h.1, ih]
end
section
variable {X : Cx}
/-- dict(l), l a list of pairs (tuple, value) with keys all unlike -/
def rDictT (K : PySem.W.Frag) : List V → Hp → VK → Prop := fun vs H Q => ∃ (a : Addr) (ps : List Addr) (kvs : List (List L2.Key × V)), vs = [.ref a] ∧ H a = some (.lst (ps.map V.ref)) ∧ (kvs.map (·.1)).Nodup ∧
  Paired (fun p (kv : List L2.Key × V) => ∃ b, H p = some (.tup [.ref b, kv.2]) ∧ H b = some (.tup (kv.1.map kV))) ps kvs ∧ ∀ p, H p = none → Q (.ref p) (upd H p (.dT kvs))
theorem cr_dictT (hc : X.calm = true) (hu : X.A.units + 64 < cLine) : CallR X (.type "dict") (rDictT X.K) := by
  intro pins s σ H vs us Q I r h
  obtain ⟨a, ps, kvs, rfl, ha, nd, hp, q⟩ := h
  obtain rfl := Vals.ref1 r
  obtain ⟨its, rv, pl, hz⟩ := I.list (SqL.of ha)
  cases refs_at rv
  rw [List.length_map] at hz
  obtain ⟨xs, kt, hl, hx⟩ := lie_pairs I hp
  obtain ⟨o, n, ho, hcl, hd, hdat⟩ := pl
  have P := PairArg.list (prog := X.prog) (w := X.w) a (ps.map Value.ref).toArray (fun j => ps.getD j 0) (xs.map fun x => (Value.ref x.2.1, x.2.2))
  have kis : ∀ h' : Heap, (∀ b o, s.heap.get? b = some o → h'.get? b = some o) → ∀ x ∈ xs, (KDT X).is h' x.1 x.2.1 := fun h' k x hx => by
    obtain ⟨j, hj⟩ := List.mem_iff_getElem?.mp hx
    obtain ⟨e, _, r1, r2, _⟩ := DX.pget kt hj
    have r2' : H x.2.1 = some (.tup (x.1.map kV)) := r1 ▸ r2
    obtain ⟨ok, ik, nk, k1, k2, k3, k4⟩ := (show IsTupleKey (mixKind X.prog X.w) s.heap x.1 x.2.1 from key_of I.hok r2')
    exact ⟨ok, ik, nk, k _ _ k1, k2, k3, k4⟩
  refine call_dict_pairsH (knd := KDT X) (ps := xs) P (I.ok.hd hc) (by show X.A.units + 1 + 1 < cLine; omega) ⟨⟨o, n, ho, hcl, hd, hdat⟩, ?_, fun j k v e => ?_⟩ ⟨(by rw [List.length_map]), fun i key v e => ?_⟩ (fun h' k x hx => kis h' (fun b o z => k b o (Nat.ne_of_lt (Heap.lt_size z)) List.not_mem_nil z) x hx) (by rw [List.length_map, hl]; exact hz) fun h' tk dd kp => ?_
  · rw [List.size_toArray, List.length_map, List.length_map, hl]
  · rw [List.getElem?_map] at e
    cases ex : xs[j]? with
    | none => rw [ex] at e; cases e
    | some x =>
      rw [ex] at e
      cases Option.some.inj e
      obtain ⟨p, e1, e2⟩ := hx j x ex
      have e3 : ps.getD j 0 = p := by rw [List.getD, e1]; rfl
      dsimp only
      rw [e3]
      exact ⟨by rw [List.getElem?_toArray, List.getElem?_map, e1]; rfl, e2⟩
  · have e' : (xs.map fun x => (Value.ref x.2.1, x.2.2))[i]? = some (key, v) := e
    rw [List.getElem?_map] at e'
    cases ex : xs[i]? with
    | none => rw [ex] at e'; cases e'
    | some x =>
      rw [ex] at e'
      cases Option.some.inj e'
      exact ⟨x.1, x.2.1, rfl, rfl⟩
  · have hm : (s.heap.objs.size == sysModules) = false := beq_eq_false_iff_ne.mpr (Nat.ne_of_gt I.big)
    rw [stored_all xs [] (by rw [List.nil_append, ← kt_keys kt]; exact nd), List.nil_append] at dd
    obtain ⟨od, es, ep, d1, d2, d3, d4, _, d6⟩ := dd
    have nw : H s.heap.objs.size = none := I.hok.fresh (Nat.le_refl _)
    refine ⟨.ref s.heap.objs.size, upd H s.heap.objs.size (.dT kvs), I.laid (t' := tk) (fun b o z => kp b o List.not_mem_nil z) (Nat.le_refl _) ⟨?_, hm, xs, kt.keeps fun b ys z => by rw [upd_ne (ne_of_none z nw)]; exact z, od, es, ep, d1, d2, d3, d4, d6⟩, rfl, q _ nw⟩
    rw [Paired.length kt, hl]; exact hz
end
end AL
set_option Elab.async false
set_option linter.all false
set_option maxRecDepth 100000
/-! Loops over a list or a tuple alike; isinstance(x, (list, tuple)); a statement that is not reached. -/
namespace AL
open PySem PySem.Spec PyProof.Rows L2
def SqB (K : PySem.W.Frag) (H : Hp) (a : Addr) (xs : List V) : Bool → Prop
  | true => SqL K H a xs
  | false => SqT K H a xs
def ItB (K : PySem.W.Frag) (a : Addr) : Bool → It
  | true => Itl K a
  | false => Itt K a
def iSeq (K : PySem.W.Frag) (tl : TE) : TI := fun σ H R => tl σ H fun x H1 => ∃ a k, x = .ref a ∧ (∃ xs, SqB K H1 a xs k) ∧ R (ItB K a k) H1
theorem pi_seq {X : Cx} {tg l : Expr} {tl : TE} (hl : PE X l tl) : PI X tg l (iSeq X.K tl) := by
  refine ⟨fun pins s σ H R I h => thn (hl.run pins s σ H _ I h) fun v t ⟨x, H1, J, r, a, k, e, ⟨xs, hs⟩, q⟩ => ?_⟩
  subst e
  cases r
  have fp : ∀ b ∈ [t.heap.objs.size], FpOk X pins H1 b := fun b hb => by
    rw [List.mem_singleton] at hb
    rw [hb]
    exact J.fpOk (Nat.le_refl _) (J.hok.fresh (Nat.le_refl _))
  have kp : ∀ o : Obj, Inv X pins σ H1 { t with heap := t.heap.push o, toks := t.toks } := fun o => J.kept (t' := t.toks) fun b u z => Heap.get?_push_of_some _ z
  cases k with
  | true =>
    obtain ⟨its, _, p, _⟩ := J.list hs
    exact wpAny_pyIter_list p.isList ⟨_, _, _, _, H1, rfl, kp _, turn_list a _, ⟨_, Heap.get?_push_size _ rfl, rfl, rfl⟩, fp, q⟩
  | false =>
    obtain ⟨its, _, p, _⟩ := J.tuple hs
    exact wpAny_pyIter_tuple (show t.heap.IsTuple a its.toArray from p) ⟨_, _, _, _, H1, rfl, kp _, turn_tuple a _, ⟨_, Heap.get?_push_size _ rfl, rfl, rfl⟩, fp, q⟩
theorem for_seq {K : PySem.W.Frag} {k : Bool} {a : Addr} {xs : List V} {g : TG} {tb : TS} {D : Ends} {σ : L2.St} {H : Hp} (Pv : Nat → L2.St → Hp → Prop) (h0 : Pv 0 σ H) (hl : ∀ i σ H, i ≤ xs.length → Pv i σ H → SqB K H a xs k)
    (hs : ∀ i x σ H, xs[i]? = some x → Pv i σ H → g x σ H fun σ2 H2 => tb { D with nx := Pv (i + 1), ct := Pv (i + 1), bk := D.nx } σ2 H2) (hd : ∀ σ H, Pv xs.length σ H → D.nx σ H) :
    ∃ W : Nat → Nat → L2.St → Hp → Prop, (∃ m, W 0 m σ H) ∧ ∀ i m σ H, W i m σ H →
      ((ItB K a k).stop i H ∧ D.nx σ H) ∨ ((ItB K a k).go i H ∧ ∃ N : L2.St → Hp → Prop, (∀ σ' H', N σ' H' → ∃ m', m' < m ∧ W (i + 1) m' σ' H') ∧ ∀ x H', (ItB K a k).yld i H x H' → g x σ H' fun σ2 H2 => tb { D with nx := N, ct := N, bk := D.nx } σ2 H2) := by
  cases k with
  | true => exact for_list Pv h0 hl hs hd
  | false => exact for_tup Pv h0 hl hs hd
theorem lc_seq {K : PySem.W.Frag} {k : Bool} {a : Addr} {xs : List V} {g : TG} {tt : TT} {te : TE} {vs : List Nat} {σ : L2.St} {H1 : Hp} {D : Addr} {Qd : Hp → Prop} (Pv : Nat → Hp → Prop) (h0 : Pv 0 (upd H1 D (.lst []))) (hl : ∀ i H, i ≤ xs.length → Pv i H → SqB K H a xs k)
    (hs : ∀ i x H, xs[i]? = some x → Pv i H → g x (wipe σ vs) H fun σ2 H2 => wipe σ2 vs = wipe σ vs ∧ tt σ2 H2 fun b H3 =>
      if b = true then te σ2 H3 fun y H4 => ∃ acc, H4 D = some (.lst acc) ∧ acc.length < sizeLine ∧ Pv (i + 1) (upd H4 D (.lst (acc ++ [y]))) else Pv (i + 1) H3) (hd : ∀ H, Pv xs.length H → Qd H) :
    ∃ W : Nat → Nat → Hp → Prop, (∃ m, W 0 m (upd H1 D (.lst []))) ∧ ∀ i m H, W i m H →
      ((ItB K a k).stop i H ∧ Qd H) ∨ ((ItB K a k).go i H ∧ ∃ Nx : Hp → Prop, (∀ H', Nx H' → ∃ m', m' < m ∧ W (i + 1) m' H') ∧ ∀ x H', (ItB K a k).yld i H x H' → g x (wipe σ vs) H' fun σ2 H2 => wipe σ2 vs = wipe σ vs ∧ tt σ2 H2 fun b H3 =>
        if b = true then te σ2 H3 fun y H4 => ∃ acc, H4 D = some (.lst acc) ∧ acc.length < sizeLine ∧ Nx (upd H4 D (.lst (acc ++ [y]))) else Nx H3) := by
  cases k with
  | true => exact lc_list Pv h0 hl hs hd
  | false => exact lc_tup Pv h0 hl hs hd
theorem ps_never {X : Cx} {st : Stmt} : PS X st (fun _ _ _ => False) := ⟨fun _ _ _ _ _ _ h => h.elim⟩
end AL
set_option Elab.async false
set_option maxRecDepth 100000
set_option exponentiation.threshold 70000
/-! Polynomials in the heap. -/
namespace AL
open PySem PySem.Spec PyProof.Rows L2
def KeyAt (H : Hp) (k : Addr) (e : Ex) : Prop := H k = some (.tup ((ki e).map V.int))
def EntAt (H : Hp) (b : Addr) (e : Ex × Rat) : Prop := ∃ k r, H b = some (.tup [.ref k, .ref r]) ∧ KeyAt H k e.1 ∧ RQ H r e.2
/-- a term as it may be passed -/
def TermV (K : PySem.W.Frag) (H : Hp) (b : Addr) (e : Ex × Rat) : Prop := ∃ (k : Addr) (v : V) (p : Int) (q : Nat), H b = some (.tup [.ref k, v]) ∧ KeyAt H k e.1 ∧ RatV K H v (some (p, q)) ∧ Mid p q ∧ mkRat p q = e.2
abbrev DRow (H : Hp) (k : List Int × Addr) (e : Ex × Rat) : Prop := k.1 = ki e.1 ∧ RQ H k.2 e.2
def DicM (H : Hp) (a : Addr) (m : PM) : Prop := ∃ ks : List (List Int × Addr), H a = some (.dT (ks.map entI)) ∧ Paired (DRow H) ks m
theorem paired_mono {α β : Type} {R S : α → β → Prop} {as : List α} {bs : List β} (h : Paired R as bs) (k : ∀ a b, R a b → S a b) : Paired S as bs := by
  induction h with
  | nil => exact .nil
  | cons h _ ih => exact .cons (k _ _ h) ih
theorem EntAt.same {H H' : Hp} {b : Addr} {e : Ex × Rat} (h : EntAt H b e) (s : Same H H') : EntAt H' b e := let ⟨k, r, h1, h2, h3⟩ := h; ⟨k, r, s _ _ h1, s _ _ h2, s _ _ h3⟩
theorem TermV.same {K : PySem.W.Frag} {H H' : Hp} {b : Addr} {e : Ex × Rat} (h : TermV K H b e) (s : Same H H') : TermV K H' b e := let ⟨k, v, p, q, h1, h2, h3, h4⟩ := h; ⟨k, v, p, q, s _ _ h1, s _ _ h2, ratV_same h3 s, h4⟩
theorem EntAt.term {K : PySem.W.Frag} {H : Hp} {b : Addr} {e : Ex × Rat} (h : EntAt H b e) (m : Mid e.2.num e.2.den) : TermV K H b e :=
  let ⟨k, r, h1, h2, h3⟩ := h; ⟨k, .ref r, e.2.num, e.2.den, h1, h2, .pair h3 (low_rat _).1, m, Rat.mkRat_self _⟩
theorem DicM.same {H H' : Hp} {a : Addr} {m : PM} (h : DicM H a m) (s : Same H H') : DicM H' a m := let ⟨ks, h1, h2⟩ := h; ⟨ks, s _ _ h1, paired_mono h2 fun _ _ z => ⟨z.1, s _ _ z.2⟩⟩
theorem DicM.tup {H H' : Hp} {a : Addr} {m : PM} (h : DicM H a m) (ha : H' a = H a) (s : ∀ b ys, H b = some (.tup ys) → H' b = some (.tup ys)) : DicM H' a m := let ⟨ks, h1, h2⟩ := h; ⟨ks, by rw [ha]; exact h1, paired_mono h2 fun _ _ z => ⟨z.1, s _ _ z.2⟩⟩
theorem DicM.nil {H : Hp} {a : Addr} (h : H a = some (.dT [])) : DicM H a [] := ⟨[], h, .nil⟩
abbrev keyL (e : Ex) : List L2.Key := (ki e).map Sum.inl
theorem keyL_inj {a b : Ex} (h : keyL a = keyL b) : a = b := ki_inj (inl_inj _ _ h)
theorem keyAt_L {H : Hp} {k : Addr} {e : Ex} (h : KeyAt H k e) : H k = some (.tup ((keyL e).map kV)) := by rw [kV_ints]; exact h
theorem row_get {H : Hp} {e : Ex} : ∀ {ks : List (List Int × Addr)} {m : PM}, Paired (DRow H) ks m → (valV (ks.map entI) (keyL e) = none ∧ getM m e = none) ∨ ∃ r x, valV (ks.map entI) (keyL e) = some (.ref r) ∧ getM m e = some x ∧ RQ H r x
  | _, _, .nil => .inl ⟨rfl, rfl⟩
  | _, _, .cons (a := k) (b := p) (l₁ := ks) (l₂ := m) h t => by
    by_cases z : p.1 = e
    · refine .inr ⟨k.2, p.2, ?_, ?_, h.2⟩
      · rw [List.map_cons, valV_pos (show (entI k).1 = keyL e by show k.1.map Sum.inl = keyL e; rw [h.1, z])]
      · unfold getM; rw [List.find?_cons, decide_eq_true z]; rfl
    · have nz : ¬ (entI k).1 = keyL e := fun w => z (keyL_inj (by rw [← w]; show keyL p.1 = k.1.map Sum.inl; rw [h.1]))
      have g : getM (p :: m) e = getM m e := by unfold getM; rw [List.find?_cons, decide_eq_false z]
      rw [List.map_cons, valV_neg nz, g]
      exact row_get t
/-- d.get(key, zero) -/
theorem dic_get {H : Hp} {a k z : Addr} {m : PM} {e : Ex} (D : DicM H a m) (hk : KeyAt H k e) (hz : RQ H z 0) : ∃ o r, DGet H a (.ref k) o ∧ o.getD (.ref z) = .ref r ∧ RQ H r ((getM m e).getD 0) := by
  obtain ⟨ks, h1, h2⟩ := D
  rcases row_get (e := e) h2 with ⟨v, g⟩ | ⟨r, x, v, g, q⟩
  · exact ⟨_, z, .t h1 (keyAt_L hk), by rw [v]; rfl, by rw [g]; exact hz⟩
  · exact ⟨_, r, .t h1 (keyAt_L hk), by rw [v]; rfl, by rw [g]; exact q⟩
/-- d[key] -/
theorem dic_at {H : Hp} {a k : Addr} {m : PM} {e : Ex} {x : Rat} (D : DicM H a m) (hk : KeyAt H k e) (h : getM m e = some x) : ∃ r, DGet H a (.ref k) (some (.ref r)) ∧ RQ H r x := by
  obtain ⟨ks, h1, h2⟩ := D
  rcases row_get (e := e) h2 with ⟨v, g⟩ | ⟨r, y, v, g, q⟩
  · rw [h] at g; cases g
  · rw [h] at g; cases g
    exact ⟨r, by rw [← v]; exact .t h1 (keyAt_L hk), q⟩
theorem row_put {H : Hp} {e : Ex} {r : Addr} {v : Rat} (hr : RQ H r v) {ks : List (List Int × Addr)} {m : PM} (h : Paired (DRow H) ks m) : ∃ ls : List (List Int × Addr), putK (ks.map entI) (keyL e) (.ref r) = ls.map entI ∧ Paired (DRow H) ls (putM m e v) := by
  have any : (ks.map entI).any (fun kv => decide (kv.1 = keyL e)) = hasM m e := by
    rw [valV_any, has_get]
    rcases row_get (e := e) h with ⟨w, g⟩ | ⟨r, x, w, g, q⟩
    · rw [w, g]; rfl
    · rw [w, g]; rfl
  unfold putK putM
  rw [any]
  by_cases z : hasM m e = true
  · rw [if_pos z, if_pos z]
    refine ⟨ks.map fun k => if k.1 = ki e then (k.1, r) else k, ?_, ?_⟩
    · rw [List.map_map, List.map_map]
      refine List.map_congr_left fun k _ => ?_
      show (if (entI k).1 = keyL e then ((entI k).1, V.ref r) else entI k) = entI (if k.1 = ki e then (k.1, r) else k)
      by_cases w : k.1 = ki e
      · rw [if_pos w, if_pos (show k.1.map Sum.inl = keyL e by rw [w])]
      · rw [if_neg w, if_neg (fun u => w (inl_inj _ _ u))]
    · clear z any
      induction h with
      | nil => exact .nil
      | @cons k p ks m hd _ ih =>
        rw [List.map_cons, List.map_cons]
        refine .cons ?_ ih
        by_cases w : p.1 = e
        · rw [if_pos w, if_pos (by rw [hd.1, w])]
          exact ⟨hd.1, hr⟩
        · rw [if_neg w, if_neg (fun u => w (ki_inj (by rw [← hd.1, u])))]
          exact hd
  · rw [if_neg z, if_neg z]
    refine ⟨ks ++ [(ki e, r)], by rw [List.map_append]; rfl, ?_⟩
    clear z any
    induction h with
    | nil => exact .cons ⟨rfl, hr⟩ .nil
    | cons hd _ ih => exact .cons hd ih
theorem DicM.len {H : Hp} {a : Addr} {m : PM} (D : DicM H a m) : ∃ kvs, H a = some (.dT kvs) ∧ kvs.length = m.length := let ⟨ks, h1, h2⟩ := D; ⟨_, h1, by rw [List.length_map]; exact Paired.length h2⟩
/-- d[key] = ratio -/
theorem dic_put {H : Hp} {a k r : Addr} {m : PM} {e : Ex} {v : Rat} (D : DicM H a m) (hk : KeyAt H k e) (hr : RQ H r v) (few : m.length < sizeLine) : ∃ o, DPut H a (.ref k) (.ref r) (upd H a o) ∧ DicM (upd H a o) a (putM m e v) := by
  obtain ⟨ks, h1, h2⟩ := D
  obtain ⟨ls, e1, e2⟩ := row_put (e := e) hr h2
  refine ⟨.dT (putK (ks.map entI) (keyL e) (.ref r)), .t h1 (keyAt_L hk) (by rw [List.length_map, Paired.length h2]; exact few), ls, by rw [upd_same, e1], paired_mono e2 fun k p z => ⟨z.1, ?_⟩⟩
  have ne : k.2 ≠ a := fun w => by have := z.2; rw [w] at this; rw [show H a = _ from this] at h1; cases h1
  exact Eq.trans (upd_ne ne) z.2
/-- in its order, nothing 0 -/
structure Can (n E D B : Nat) (m : PM) : Prop where
  asc : Asc m
  nz : NZ m
  pb : PB n E D B m
/-- a Poly -/
def PolyAt (CP : Addr) (H : Hp) (x : Addr) (n : Nat) (m : PM) : Prop := ∃ dx T ts, H x = some (.ins CP dx [("size", .int (n : Int)), ("terms", .ref T)]) ∧ H T = some (.tup (ts.map V.ref)) ∧ Paired (EntAt H) ts m
theorem PolyAt.same {CP : Addr} {H H' : Hp} {x : Addr} {n : Nat} {m : PM} (h : PolyAt CP H x n m) (s : Same H H') : PolyAt CP H' x n m := let ⟨dx, T, ts, h1, h2, h3⟩ := h; ⟨dx, T, ts, s _ _ h1, s _ _ h2, paired_mono h3 fun _ _ z => z.same s⟩
/-- what sorted tells -/
theorem sorted_pm {H : Hp} {ks : List (List Int × Addr)} {m : PM} {ps : List (Addr × List Int × Addr)} (h : Paired (DRow H) ks m) (pm : (ps.map (·.2)).Perm ks) : ∃ m' : PM, m'.Perm m ∧ Paired (DRow H) (ps.map (·.2)) m' := by
  generalize ps.map (·.2) = ls at pm
  induction pm generalizing m with
  | nil => cases h; exact ⟨[], .nil, .nil⟩
  | cons x p ih =>
    cases h with
    | cons hd tl =>
      obtain ⟨m', p1, p2⟩ := ih tl
      exact ⟨_ :: m', p1.cons _, .cons hd p2⟩
  | swap x y l =>
    cases h with
    | cons hd tl =>
      cases tl with
      | cons hd2 tl2 => exact ⟨_, List.Perm.swap _ _ _, .cons hd2 (.cons hd tl2)⟩
  | trans p1 p2 i1 i2 =>
    obtain ⟨m', q1, q2⟩ := i2 h
    obtain ⟨m'', q3, q4⟩ := i1 q2
    exact ⟨m'', q3.trans q1, q4⟩
theorem asc_of {H : Hp} {n E D B : Nat} {ls : List (List Int × Addr)} {m : PM} (h : Paired (DRow H) ls m) (o : ls.Pairwise fun e f => TS.code 128 e.1 ≤ TS.code 128 f.1) (nd : (m.map (·.1)).Nodup) (b : PB n E D B m) (hE : E ≤ 80) : Asc m := by
  induction h with
  | nil => exact .nil
  | @cons k p ks m hd tl ih =>
    obtain ⟨o1, o2⟩ := List.pairwise_cons.mp o
    rw [List.map_cons, List.nodup_cons] at nd
    refine List.pairwise_cons.mpr ⟨fun q hq => ?_, ih o2 nd.2 (b.sub fun _ z => List.mem_cons_of_mem _ z)⟩
    obtain ⟨i, hi⟩ := List.mem_iff_getElem?.mp hq
    obtain ⟨k2, e1, e2⟩ := DX.pget tl hi
    have le := o1 k2 (List.mem_of_getElem? e1)
    rw [hd.1, e2.1] at le
    have b1 := b p (List.mem_cons_self ..)
    have b2 := b q (List.mem_cons_of_mem _ hq)
    have ne : cd p.1 ≠ cd q.1 := fun z => nd.1 (List.mem_map.mpr ⟨q, hq, (ki_inj (code_inj (by rw [len_ki, len_ki, b1.1, b2.1]) (bd_ki fun k hk => Nat.le_trans (b1.2.1 k hk) hE) (bd_ki fun k hk => Nat.le_trans (b2.2.1 k hk) hE) z)).symm⟩)
    have le' : cd p.1 ≤ cd q.1 := le
    omega
end AL
namespace AL
open PySem PySem.Spec PyProof.Rows L2
theorem prd_get {α β : Type} {R : α → β → Prop} : ∀ {as : List α} {bs : List β} {i : Nat} {a : α}, Paired R as bs → as[i]? = some a → ∃ b, bs[i]? = some b ∧ R a b
  | _, _, _, _, .nil, h => by simp at h
  | _, _, 0, _, .cons (b := b) r _, h => by
    cases Option.some.inj h
    exact ⟨b, rfl, r⟩
  | _, _, i + 1, _, .cons _ t, h => prd_get (i := i) t (by simpa using h)
theorem prd_len {α β : Type} {R : α → β → Prop} {as : List α} {bs : List β} (h : Paired R as bs) : as.length = bs.length := Paired.length h
theorem prd_snoc {α β : Type} {R : α → β → Prop} {as : List α} {bs : List β} {a : α} {b : β} (h : Paired R as bs) (r : R a b) : Paired R (as ++ [a]) (bs ++ [b]) := by
  induction h with
  | nil => exact .cons r .nil
  | cons q _ ih => exact .cons q ih
theorem map_ref {ts : List Addr} {i : Nat} {x : V} (h : (ts.map V.ref)[i]? = some x) : ∃ b, ts[i]? = some b ∧ x = .ref b := by
  rw [List.getElem?_map] at h
  cases e : ts[i]? with
  | none => rw [e] at h; cases h
  | some b => rw [e] at h; exact ⟨b, rfl, (Option.some.inj h).symm⟩
theorem sz_zero {D B : Nat} (h : 0 < D) : Sz D B 0 := ⟨h, 0, Nat.zero_le _, by simp⟩
theorem PB.getD {n E D B : Nat} {m : PM} (h : PB n E D B m) (h0 : 0 < D) (e : Ex) : Sz D B ((getM m e).getD 0) := by
  cases z : getM m e with
  | none => exact sz_zero h0
  | some x => exact (h _ (get_mem z)).2.2
theorem get_of {m : PM} {e : Ex} {x : Rat} (nd : (m.map (·.1)).Nodup) (h : (e, x) ∈ m) : getM m e = some x := by
  induction m with
  | nil => cases h
  | cons p r ih =>
    rw [List.map_cons, List.nodup_cons] at nd
    unfold getM
    rw [List.find?_cons]
    by_cases w : p.1 = e
    · rw [decide_eq_true w]
      rcases List.mem_cons.mp h with z | z
      · rw [← z]; rfl
      · exact absurd (List.mem_map.mpr ⟨_, z, w.symm⟩) nd.1
    · rw [decide_eq_false w]
      rcases List.mem_cons.mp h with z | z
      · exact absurd (by rw [← z]) w
      · exact ih nd.2 z
/-- the ratio at a key, as keys -/
def MV (m : PM) (y : List Int) : List L2.Key := [Sum.inl ((getM m (y.map Int.toNat)).getD 0).num, Sum.inl (((getM m (y.map Int.toNat)).getD 0).den : Int)]
theorem ki_nat : ∀ e : Ex, (ki e).map Int.toNat = e
  | [] => rfl
  | k :: r => by
    show (k : Int).toNat :: (ki r).map Int.toNat = k :: r
    rw [ki_nat r, Int.toNat_natCast]
theorem rows_M {H : Hp} {n E D B : Nat} {ks : List (List Int × Addr)} {m : PM} (h : Paired (DRow H) ks m) (nd : (m.map (·.1)).Nodup) (pb : PB n E D B m) (hE : E ≤ 80) : ∀ k ∈ ks, H k.2 = some (.tup ((MV m k.1).map kV)) ∧ k.1.length = n ∧ TS.Bd 128 k.1 := by
  intro k hk
  obtain ⟨i, hi⟩ := List.mem_iff_getElem?.mp hk
  obtain ⟨p, e1, e2, e3⟩ := prd_get h hi
  have hp := List.mem_of_getElem? e1
  obtain ⟨b1, b2, b3⟩ := pb p hp
  refine ⟨?_, by rw [e2, len_ki, b1], by rw [e2]; exact bd_ki fun k hk => Nat.le_trans (b2 k hk) hE⟩
  unfold MV
  rw [e2, ki_nat, get_of nd hp]
  exact e3
theorem join_pb {n E D B : Nat} {l : PM} (pb : PB n E D B l) (i : Nat) (hi : i ≤ l.length) : PB n E D (B * i) (joinM [] (l.take i)) := by
  have z := PB.join (m := []) (B := 0) (l := l.take i) (fun p hp => nomatch hp) (pb.sub fun p hp => List.mem_of_mem_take hp)
  rw [List.length_take, Nat.min_eq_left hi, Nat.zero_add] at z
  exact z
theorem low6 {x : Nat} (h : x < 2 ^ 5999) : x < 2 ^ 6000 := Nat.lt_trans h (Nat.pow_lt_pow_right (by decide) (by decide))
theorem nz_take_true {m : PM} {i : Nat} {p : Ex × Rat} (h : m[i]? = some p) (hp : p.2 ≠ 0) : nzM (m.take (i + 1)) = nzM (m.take i) ++ [p] := by
  unfold nzM
  rw [List.take_add_one, h, List.filter_append]
  simp [hp]
theorem nz_take_false {m : PM} {i : Nat} {p : Ex × Rat} (h : m[i]? = some p) (hp : p.2 = 0) : nzM (m.take (i + 1)) = nzM (m.take i) := by
  unfold nzM
  rw [List.take_add_one, h, List.filter_append]
  simp [hp]
theorem num_zero {x : Rat} : x.num = 0 ↔ x = 0 := Rat.num_eq_zero
theorem nz_NZ (m : PM) : NZ (nzM m) := fun _ hp => of_decide_eq_true (List.mem_filter.mp hp).2
theorem nz_asc {m : PM} (h : Asc m) : Asc (nzM m) := List.Pairwise.sublist List.filter_sublist h
theorem nz_len (m : PM) : (nzM m).length ≤ m.length := List.length_filter_le _ _
end AL
namespace AL
open PySem PySem.Spec PyProof.Rows L2
theorem EntAt.tups {H H' : Hp} {b : Addr} {e : Ex × Rat} (h : EntAt H b e) (s : ∀ c ys, H c = some (.tup ys) → H' c = some (.tup ys)) : EntAt H' b e := let ⟨k, r, h1, h2, h3⟩ := h; ⟨k, r, s _ _ h1, s _ _ h2, s _ _ h3⟩
theorem upd_tups {H : Hp} {a : Addr} {o p : HO} (h : H a = some p) (np : ∀ ys, p ≠ .tup ys) : ∀ c ys, H c = some (.tup ys) → upd H a o c = some (.tup ys) := fun c ys z => by
  rw [upd_ne (fun w => by rw [w, h] at z; exact np ys (Option.some.inj z))]
  exact z
theorem perm_can {H : Hp} {n E D B : Nat} {m m' : PM} {ls : List (List Int × Addr)} (pm : m'.Perm m) (h : Paired (DRow H) ls m') (o : ls.Pairwise fun e f => TS.code 128 e.1 ≤ TS.code 128 f.1) (nd : (m.map (·.1)).Nodup) (b : PB n E D B m) (hE : E ≤ 80) :
    Can n E D B (nzM m') ∧ Eqp (nzM m') m ∧ (nzM m').length ≤ m.length := by
  have nd' : (m'.map (·.1)).Nodup := (List.Perm.nodup_iff (pm.map _)).mpr nd
  have b' : PB n E D B m' := b.sub fun p hp => pm.mem_iff.mp hp
  exact ⟨⟨nz_asc (asc_of h o nd' b' hE), nz_NZ _, b'.nz⟩, (nz_eqp m').trans fun φ => lin_perm φ pm, by rw [← pm.length_eq]; exact nz_len m'⟩
end AL
set_option Elab.async false
set_option maxRecDepth 100000
set_option maxHeartbeats 4000000
/-! try with several named clauses: the wish is asked where all names have their slots. -/
namespace AL
open PySem PySem.Spec PyProof.Rows L2
section
variable {X : Cx} {body : List Stmt} {h0 : ExceptHandler} {hd : List ExceptHandler} {l : List Cl} {pos : Pos} {tb : WX → TS} {W0 : WX}
theorem ps_tryL (stk : X.stack = X.env :: X.outer) (frm : X.env.frame = some X.env.locals) (nd : X.N.Nodup) (tk : Takes X W0)
    (inner : ∀ (W : WX) (pn : List (Addr × Obj)) (xe : Value → Shared → Prop), Takes (X.tr pn xe) W → PassesOwn (model X.prog X.w) X.A X.env xe → PSs (X.tr pn xe) body (tb W)) (cls : Named X (h0 :: hd) l) :
    PS X (.Try body (h0 :: hd) [] [] pos) (fun D σ H => tb (fun cls d σ H => σ.length = X.N.length → wNamed X.K W0 D l cls d σ H) D σ H) := by
  constructor
  intro pins s σ H D I h
  have frames : X.A.frames = some (X.env :: X.outer) := by rw [I.ok.frames, stk]
  let back : Value → Shared → Prop := fun e t1 => wpAny (model X.prog X.w) X.A (noteFrame e X.env) (fun _ t2 => wpAny (model X.prog X.w) X.A (setFlight e none) (fun _ t3 => wpAny (model X.prog X.w) X.A (handleBy e X.env (h0 :: hd)) (SP X pins D) X.xe t3) X.xe t2) X.xe t1
  have caught : ∀ u t, XE (X.tr (X.pn ++ pins) back) (fun cls d σ H => σ.length = X.N.length → wNamed X.K W0 D l cls d σ H) u t → back u t := by
    rintro u t ⟨a, B, t0, pins0, σ1, H1, ec, ed, rfl, J0, ground, up, sky, fresh, oss, bare, wish⟩
    have J : Inv X pins σ1 H1 t0 := J0.ofTry I.ok
    have sky1 : Sky B (X.env :: X.outer) a (Zc ec ed) X.env.locals t.heap := by rw [← stk]; exact sky
    show wpAny (model X.prog X.w) X.A (noteFrame (.ref a) X.env) _ _ _
    refine Sky.land Zc.steady frames frm sky1 fun g3 fl3 up3 => ?_
    have J3 : Inv X pins σ1 H1 { t with heap := g3 } := J.landed ground fl3.1 (up.trans up3) oss bare
    obtain ⟨o3, v3, at3, z3, dat3⟩ := fl3.there
    have apart : a ∉ frs (X.env :: X.outer) := fun m => by
      obtain ⟨_, o', e', no⟩ := fl3.2.2.1.mem m
      rw [at3] at e'
      cases e'
      exact no _ dat3
    have notL : a ≠ X.env.locals := fun z => apart (List.mem_filterMap.mpr ⟨X.env, List.mem_cons_self, by rw [frm, z]⟩)
    have notF : a ∉ X.fs := fun m => by
      obtain ⟨en, hen, q⟩ := List.mem_filterMap.mp m
      exact apart (List.mem_filterMap.mpr ⟨en, List.mem_cons_of_mem _ hen, q⟩)
    have S3 := J3.suite at3 dat3 fresh notL notF
    suffices all : ∀ {hd' : List ExceptHandler} {l' : List Cl}, Named X hd' l' → wNamed X.K W0 D l' ec ed σ1 H1 → wpAny (model X.prog X.w) X.A (handleBy (.ref a) X.env hd') (SP X pins D) X.xe { t with heap := g3 } from all cls (wish J.len)
    intro hd' l' nm
    induction nm with
    | nil =>
      intro w0
      refine wpAny_handleBy_nil ?_
      obtain ⟨_, _, _, oe, fv, T, oT, ts', he, hz, hdt, h1, _⟩ := id fl3
      unfold PySem.passOn
      refine wpAny_bind (wpAny_field he hdt h1 ?_)
      have notNone : ¬ ((Value.ref T == Value.none) = true) := by simp
      rw [if_neg notNone]
      have fly : wpAny (model X.prog X.w) X.A (setFlight (.ref a) X.env.frame) (fun _ t4 => wpAny (model X.prog X.w) X.A (throw (.ref a) : Sem Flow) (SP X pins D) X.xe t4) X.xe { t with heap := g3 } := by
        rw [frm]
        exact HandSPX.setFlight_upZ fl3 fun g4 held up4 => wpAny_throw (tk _ _ ⟨a, B, t0, pins, σ1, H1, ec, ed, rfl, J, ground, (up.trans up3).trans up4, .inr (.inr (by rw [stk]; exact held)), fresh, oss, bare, w0⟩)
      first
        | exact wpAny_bind (wpAny_pure (wpAny_bind fly))
        | exact wpAny_bind fly
    | @cons x n c i ts b0 rest q1 q2 hd2 l2 cl sl lo su r ih =>
      rintro ⟨b, isb, yes, no⟩
      refine wpAny_handleBy_cons (codeAny_handlers_test ?_) (by intro q; cases q)
      have LT : PySem.W.Looks (model X.prog X.w) g3 (typeOf (.ref a)) ec := fun A' Q' E' s' k' q' => wpAny_typeOf_ref (k' _ _ at3) (by rw [z3.1]; exact q')
      have LM := PySem.W.exm_one (M := model X.prog X.w) (J3.kIn) LT isb
      have asks : ∀ {Q' : Value → Shared → Prop} {E' : Value → Shared → Prop}, Q' c { t with heap := g3 } → wpAny (model X.prog X.w) (X.A.mark (some (.ref a))) (eval (.Name x q1) X.env) Q' E' { t with heap := g3 } := by
        intro Q' E' q'
        obtain ⟨gl, nodb, known⟩ := cl
        rcases known with hm | ⟨hm, hv, hnn⟩
        · exact ld_glob (X := X.suite a ((a, o3) :: (X.pn ++ pins))) S3 gl hm q' nodb
        · exact ld_blt (X := X.suite a ((a, o3) :: (X.pn ++ pins))) S3 gl hm hv q' hnn nodb
      refine asks (LM.here ?_)
      cases b with
      | false =>
        show wpAny _ X.A (handleBy (.ref a) X.env hd2) _ _ _
        exact ih (no rfl)
      | true =>
        refine codeAny_handlers_suite_as (HandSPX.lands_againZ fl3 fun g4 fl4 up4 => ?_)
        have J4 : Inv X pins σ1 H1 { t with heap := g4 } := J.landed ground fl4.1 ((up.trans up3).trans up4) oss bare
        obtain ⟨o4, v4, at4, z4, dat4⟩ := fl4.there
        have S4 := J4.suite at4 dat4 fresh notL notF
        refine store_ok (X := X.suite a ((a, o4) :: (X.pn ++ pins))) (v := .ref a) S4 nd sl (.inl lo) rfl (fun t5 S5 => ?_) (.inr lo)
        refine wpAny_mono ((su a o4 ec ed (X.pn ++ pins) z4 ⟨_, dat4⟩).run [] t5 _ H1 _ S5 (yes rfl a fresh)) (fun fl6 t6 sp6 => ?_) (fun _ _ z => False.elim z)
        have over : ∀ {σ6 : L2.St} {H6 : Hp} {Q6 : Shared → Prop}, Inv (X.suite a ((a, o4) :: (X.pn ++ pins))) [] σ6 H6 t6 → (∀ t7, Inv X pins (σ6.set i none) H6 t7 → Q6 t7) →
            wpAny (model X.prog X.w) X.A (do bindName X.env n .none; unbindBehindTheSuite X.env n q2) (fun _ t7 => Q6 t7) X.xe t6 := fun S6 q6 => gone_ok (S6.unsuite I.ok) nd sl lo q6
        cases fl6 with
        | next => obtain ⟨σ6, H6, S6, q6⟩ := sp6; exact over S6 fun t7 J7 => ⟨_, _, J7, q6⟩
        | brk => obtain ⟨σ6, H6, S6, q6⟩ := sp6; exact over S6 fun t7 J7 => ⟨_, _, J7, q6⟩
        | cont => obtain ⟨σ6, H6, S6, q6⟩ := sp6; exact over S6 fun t7 J7 => ⟨_, _, J7, q6⟩
        | ret u => obtain ⟨v6, σ6, H6, S6, r6, q6⟩ := sp6; exact over S6 fun t7 J7 => ⟨_, _, _, J7, r6, q6⟩
  refine wpAny_Try_except (wpAny_mono ((inner (fun cls d σ H => σ.length = X.N.length → wNamed X.K W0 D l cls d σ H) (X.pn ++ pins) back caught PassesOwn.looking).run [] s σ H D (I.toTry _) h) (fun fl t sp => ?_) (fun _ _ z => z))
  cases fl with
  | next => obtain ⟨σ', H', J', q⟩ := sp; exact wpAny_execs_nil ⟨σ', H', J'.ofTry I.ok, q⟩
  | brk => obtain ⟨σ', H', J', q⟩ := sp; exact ⟨σ', H', J'.ofTry I.ok, q⟩
  | cont => obtain ⟨σ', H', J', q⟩ := sp; exact ⟨σ', H', J'.ofTry I.ok, q⟩
  | ret u => obtain ⟨v, σ', H', J', r, q⟩ := sp; exact ⟨v, σ', H', J'.ofTry I.ok, r, q⟩
end
end AL
set_option Elab.async false
set_option maxRecDepth 100000
set_option exponentiation.threshold 70000
set_option maxHeartbeats 4000000
/-! Names and words of units as rows of codes. -/
namespace AL
open PySem PySem.Spec PyProof.Rows L2
def isL (c : Nat) : Bool := decide (97 ≤ c) && decide (c ≤ 122)
def isLD (c : Nat) : Bool := isL c || isD c
def fstL : List Nat → Bool | [] => false | c :: _ => isL c
/-- a name -/
def nmOk (l : List Nat) : Bool := decide (l.length ≤ 12) && (fstL l && l.all isLD)
/-- the codes of str(k) -/
def dg (k : Int) : List Nat := (Str.ofString (toString k)).cps.toList
theorem dg_str (k : Int) : (Str.ofString (toString k) : Str) = S (dg k) := by
  unfold dg S
  cases Str.ofString (toString k); rfl
def noneOf (cs l : List Nat) : Bool := l.all fun c => !cs.contains c
theorem noneOf_mem {cs l : List Nat} (h : noneOf cs l = true) {c : Nat} (hc : c ∈ cs) : c ∉ l := by
  intro m
  have := (List.all_eq_true.mp h) c m
  simp [hc] at this
/-- what is_exponent says -/
def exOk (l : List Nat) : Bool :=
  let d := l.drop (neg l).toNat
  (decide (d.length = 1) || decide (d.length = 2)) && (d.all isD && (decide (l = [48]) || decide (d[0]? ≠ some 48)))
def dgOk (k : Int) : Bool := decide (PySem.intText? (S (dg k)) = some k) && (exOk (dg k) && (decide ((dg k).length ≤ 3) && (decide (1 ≤ (dg k).length) && noneOf [32, 10, 94] (dg k))))
theorem dg_all : ∀ n : Fin 199, dgOk ((n.val : Int) - 99) = true := by decide +kernel
theorem dg_ok {k : Int} (h1 : -99 ≤ k) (h2 : k ≤ 99) : PySem.intText? (S (dg k)) = some k ∧ exOk (dg k) = true ∧ (dg k).length ≤ 3 ∧ 1 ≤ (dg k).length ∧ noneOf [32, 10, 94] (dg k) = true := by
  have h := dg_all ⟨(k + 99).toNat, by omega⟩
  have e : (((⟨(k + 99).toNat, by omega⟩ : Fin 199).val : Int) - 99) = k := by show ((k + 99).toNat : Int) - 99 = k; omega
  rw [e] at h
  unfold dgOk at h
  simp only [Bool.and_eq_true, decide_eq_true_eq] at h
  exact ⟨h.1, h.2.1, h.2.2.1, h.2.2.2.1, h.2.2.2.2⟩
theorem nm_len {l : List Nat} (h : nmOk l = true) : l.length ≤ 12 := by unfold nmOk at h; simp only [Bool.and_eq_true, decide_eq_true_eq] at h; exact h.1
theorem nm_all {l : List Nat} (h : nmOk l = true) : l.all isLD = true := by unfold nmOk at h; simp only [Bool.and_eq_true, decide_eq_true_eq] at h; exact h.2.2
theorem nm_fst {l : List Nat} (h : nmOk l = true) : fstL l = true := by unfold nmOk at h; simp only [Bool.and_eq_true, decide_eq_true_eq] at h; exact h.2.1
theorem nm_ne {l : List Nat} (h : nmOk l = true) : l ≠ [] := by rintro rfl; have := nm_fst h; simp [fstL] at this
theorem nm_no {l : List Nat} (h : nmOk l = true) {c : Nat} (hc : isLD c = false) : c ∉ l := fun m => by
  have := (List.all_eq_true.mp (nm_all h)) c m
  rw [hc] at this; cases this
/-- a word of units: a name, a power, and whether the power is written -/
structure UW where
  nm : List Nat
  k : Int
  e : Bool
def UW.tx (u : UW) : List Nat := if u.e = true then u.nm ++ 94 :: dg u.k else u.nm
structure UW.Ok (u : UW) : Prop where
  nm : nmOk u.nm = true
  lo : -99 ≤ u.k
  hi : u.k ≤ 99
  one : u.e = false → u.k = 1
/-- the words of a row of them -/
def wtx (us : List UW) : List (List Nat) := if us.isEmpty = true then [[49]] else us.map UW.tx
theorem tx_no {u : UW} (h : u.Ok) {c : Nat} (hc : c = 32 ∨ c = 10) : c ∉ u.tx := by
  unfold UW.tx
  have a : isLD c = false := by rcases hc with rfl | rfl <;> decide
  have b := dg_ok h.lo h.hi
  split
  · intro m
    rcases List.mem_append.mp m with m | m
    · exact nm_no h.nm a m
    · rcases List.mem_cons.mp m with e | m
      · rcases hc with rfl | rfl <;> cases e
      · exact noneOf_mem b.2.2.2.2 (by rcases hc with rfl | rfl <;> decide) m
  · exact nm_no h.nm a
theorem tx_len {u : UW} (h : u.Ok) : 1 ≤ u.tx.length ∧ u.tx.length ≤ 16 := by
  have b := dg_ok h.lo h.hi
  have l := nm_len h.nm
  have p : 0 < u.nm.length := List.length_pos_iff.mpr (nm_ne h.nm)
  unfold UW.tx
  split
  · rw [List.length_append, List.length_cons]; omega
  · omega
theorem tx_fst {u : UW} (h : u.Ok) : ∃ c, u.tx[0]? = some c ∧ isL c = true := by
  have f := nm_fst h.nm
  have n := nm_ne h.nm
  unfold UW.tx
  cases e : u.nm with
  | nil => exact absurd e n
  | cons c l =>
    rw [e] at f
    exact ⟨c, by split <;> rfl, f⟩
theorem tx_ne1 {u : UW} (h : u.Ok) : u.tx ≠ [49] := fun e => by
  obtain ⟨c, h1, h2⟩ := tx_fst h
  rw [e] at h1
  have : c = 49 := by simpa using h1.symm
  rw [this] at h2; revert h2; decide
theorem hatS : ("^" : Str) = S [94] := by kernel_rfl
theorem part_hat {u : UW} (h : u.Ok) (he : u.e = true) : Txt.partition (S u.tx) "^" = (S u.nm, ("^" : Str), S (dg u.k)) := by
  have no : 94 ∉ u.nm := nm_no h.nm (by decide)
  have := TL.partition_app (y := "^") (s := 94) (S := []) (by rw [hatS]) (a := S u.nm) (b := S (dg u.k)) no
  have e : (S u.nm ++ "^" ++ S (dg u.k) : Str) = S u.tx := by
    rw [hatS]
    show (⟨(u.nm.toArray ++ [94].toArray) ++ (dg u.k).toArray⟩ : Str) = S u.tx
    unfold UW.tx
    rw [if_pos he]
    simp [S]
  rw [e] at this; exact this
theorem part_noHat {l : List Nat} (h : nmOk l = true) : Txt.partition (S l) "^" = (S l, ("" : Str), ("" : Str)) := by
  have no : 94 ∉ l := nm_no h (by decide)
  have := TL.partition_none (y := "^") (s := 94) (S := []) (by rw [hatS]) (a := S l) no
  rw [this]; rfl
theorem spaceS : (" " : Str) = S [32] := by kernel_rfl
theorem feedS : ("\n" : Str) = S [10] := by kernel_rfl
theorem join_S (c : Nat) (L : List (List Nat)) : Txt.join (S [c]) (L.map S) = S (TL.joinL [c] L) := by
  rw [TL.join_eq]
  have h := TL.tl_join (S [c]) (L.map S)
  have e : ((L.map S).map TL.tl) = L := by
    rw [List.map_map]
    have : (TL.tl ∘ S) = id := by funext l; rfl
    rw [this, List.map_id]
  rw [e] at h
  cases z : Str.join (S [c]) (L.map S) with
  | mk cps =>
    rw [z] at h
    have : cps.toList = TL.joinL [c] L := h
    rw [← this]
theorem split_S (c : Nat) (hc : c < 256) {L : List (List Nat)} (h0 : L ≠ []) (h : ∀ l ∈ L, c ∉ l) : Txt.split (S (TL.joinL [c] L)) (S [c]) = L.map S := by
  rw [← join_S]
  refine TL.split_join (s := c) (S := []) rfl (by simp [S, hc]) (by simpa using h0) ?_
  intro p m
  obtain ⟨l, hl, rfl⟩ := List.mem_map.mp m
  exact h l hl
theorem joinL_snoc (c : Nat) : ∀ {L : List (List Nat)}, L ≠ [] → TL.joinL [c] (L ++ [[]]) = TL.joinL [c] L ++ [c] := by
  intro L h
  induction L with
  | nil => exact absurd rfl h
  | cons x L ih =>
    cases L with
    | nil => simp [TL.joinL]
    | cons y L => 
      have := ih (by simp)
      simp only [List.cons_append] at this ⊢
      rw [show TL.joinL [c] (x :: y :: (L ++ [[]])) = x ++ [c] ++ TL.joinL [c] (y :: (L ++ [[]])) by simp [TL.joinL], this]
      simp [TL.joinL]
theorem joinL_len (c : Nat) : ∀ {L : List (List Nat)} {b : Nat}, (∀ l ∈ L, l.length ≤ b) → (TL.joinL [c] L).length ≤ L.length * (b + 1) := by
  intro L b h
  induction L with
  | nil => simp [TL.joinL]
  | cons x L ih =>
    have hx := h x (by simp)
    have hr := ih (fun l m => h l (by simp [m]))
    cases L with
    | nil => simp [TL.joinL]; omega
    | cons y L =>
      rw [show TL.joinL [c] (x :: y :: L) = x ++ [c] ++ TL.joinL [c] (y :: L) by simp [TL.joinL]]
      rw [List.length_append, List.length_append, List.length_cons (a := x), Nat.succ_mul]
      simp only [List.length_singleton]
      omega
theorem joinL_no {c d : Nat} (hcd : c ≠ d) : ∀ {L : List (List Nat)}, (∀ l ∈ L, d ∉ l) → d ∉ TL.joinL [c] L := by
  intro L h
  induction L with
  | nil => simp [TL.joinL]
  | cons x L ih =>
    have hx := h x (by simp)
    have hr := ih (fun l m => h l (by simp [m]))
    cases L with
    | nil => simpa [TL.joinL] using hx
    | cons y L =>
      rw [show TL.joinL [c] (x :: y :: L) = x ++ [c] ++ TL.joinL [c] (y :: L) by simp [TL.joinL]]
      simp only [List.mem_append, List.mem_singleton, not_or]
      exact ⟨⟨hx, fun e => hcd e.symm⟩, hr⟩
theorem joinL_one {c : Nat} {l : List Nat} : TL.joinL [c] [l] = l := by simp [TL.joinL]
theorem wtx_no {us : List UW} (h : ∀ u ∈ us, u.Ok) {c : Nat} (hc : c = 32 ∨ c = 10) : ∀ l ∈ wtx us, c ∉ l := by
  unfold wtx
  split
  · intro l m
    have : l = [49] := by simpa using m
    rw [this]; rcases hc with rfl | rfl <;> decide
  · intro l m
    obtain ⟨u, hu, rfl⟩ := List.mem_map.mp m
    exact tx_no (h u hu) hc
theorem wtx_ne (us : List UW) : wtx us ≠ [] := by
  unfold wtx
  split
  · simp
  · intro h
    have : us = [] := List.map_eq_nil_iff.mp h
    rename_i z; rw [this] at z; simp at z
end AL
set_option Elab.async false
set_option maxRecDepth 100000
set_option exponentiation.threshold 70000
set_option maxHeartbeats 1000000
namespace AL
open PySem PySem.Spec PyProof.Rows L2 RZ
section
variable {P : Program} {w : World} {K : PySem.W.Frag} {mg : Str → Option Value} {base : Heap}

/-- a def that stands behind the top under another name -/
structure DefAl (K : PySem.W.Frag) (mg : Str → Option Value) (y x : Str) (st : Stmt) (ps : List Str) (f : Addr) (fd : FuncData) : Prop where
  F : Fun K x x st f fd
  m : mg y = some (.ref f)
  b : Binds K fd ps []
structure ErU (K : PySem.W.Frag) (mg : Str → Option Value) (CU : Addr) : Prop where
  gcd : mg "gcd" = some (.builtin "math.gcd")
  dig : ∃ u, mg "DIGITS" = some u ∧ RelV (.str "0123456789") u
  most : ∃ u, mg "MOST_DIGITS" = some u ∧ RelV (.int 4000) u
  lett : ∃ u, mg "LETTERS" = some u ∧ RelV (.str "abcdefghijklmnopqrstuvwxyz") u
  long : ∃ u, mg "LONGEST_NAME" = some u ∧ RelV (.int 12) u
  most6 : ∃ u, mg "MOST_BASE" = some u ∧ RelV (.int 6) u
  nodig : digB K = true
  cl : Cls K CU
  nT : NoAttr K CU "text"
  nB : NoAttr K CU "base"
  nN : NoAttr K CU "names"
  nM : NoAttr K CU "measures"
  nS : NoAttr K CU "scales"
  mU : mg "Units" = some (.ref CU)

theorem Same.k {p : Addr} {H H' : Hp} (s : Same H H') : Keep p H H' := fun b o _ h => s b o h
theorem Keep.kk {p c : Addr} {m : Nat} {H H' : Hp} (k : Keep p H H') (_ : Pen H p c m) : Keep p H H' := k
structure MetA (K : PySem.W.Frag) (x qual : Str) (st : Stmt) (ps : List Str) (C f : Addr) (fd : FuncData) : Prop where
  F : Fun K x qual st f fd
  b : Binds K fd ps []
  M : Meth K C x f
structure IniA (K : PySem.W.Frag) (x qual : Str) (st : Stmt) (ps : List Str) (C f : Addr) (fd : FuncData) : Prop where
  F : Fun K x qual st f fd
  b : Binds K fd ps []
  M : Mk K C f

def spPowU : Sp := fun vs H Q _ => ∃ (t : Addr) (a : Int) (b : Nat) (n : Int) (e : Nat), vs = [.ref t, .int n] ∧ RatAt H t a b ∧ a.natAbs < 2 ^ e ∧ b < 2 ^ e ∧ 0 < e ∧ e * n.natAbs ≤ 5998 ∧ e ≤ 6000 ∧ ¬ (n < 0 ∧ a = 0) ∧ ∀ u, H u = none → Q (.ref u) (upd H u (.tup [.int (pwR a b n).1, .int ((pwR a b n).2 : Int)]))
theorem powS {x n e : Nat} (h : x < 2 ^ e) (hn : e * n ≤ 5998) : x ^ n < 2 ^ 6000 := by
  refine Nat.lt_of_le_of_lt (Nat.pow_le_pow_left (Nat.le_of_lt h) n) ?_
  rw [← Nat.pow_mul]
  exact Nat.pow_lt_pow_right (by decide) (by omega)
/-- ratio_of(text), the text of a ratio -/
def spRatioU : Sp := fun vs H Q _ => ∃ (l : List Nat) (p r : Int), vs = [.str (S l)] ∧ l.length ≤ 20000 ∧ res l = .ratio p r ∧ ∀ t H1, H1 t = none → Same H H1 → Q (.ref t) (upd H1 t (.tup [.int p, .int r]))


abbrev stis_whole : Stmt := top 8
theorem scis_whole : FnScope ["value"] ["value"] (defScope stis_whole) := ⟨rfl, rfl, rfl, by decide +kernel, rfl, by decide +kernel, by decide +kernel⟩
theorem okis_whole (B : Blt mg) {CUnits : Addr} (Es : ErU K mg CUnits) {fis_whole : Addr} {fdis_whole : FuncData} (Dis_whole : DefAt K mg "is_whole" stis_whole ["value"] fis_whole fdis_whole) : FnOk P w K mg base CX0 1 fis_whole fdis_whole ["value"] (spWholeV K) := by
  obtain ⟨uD, hD, rD⟩ := Es.dig
  obtain ⟨uM, hM, rM⟩ := Es.most
  obtain ⟨uL, hL, rL⟩ := Es.lett
  obtain ⟨uN, hN, rN⟩ := Es.long
  obtain ⟨uB, hB, rB⟩ := Es.most6
  refine Dis_whole.F.ok scis_whole (fun vs H Q E h => ?_) (fun cdv A outer s H vs Q E hr h => ?_)
  · obtain ⟨x, u, b, c, rfl, _⟩ := h; rfl
  · have hu := hu_of hr
    refine ⟨_, (pss_one (ps_ret (pe_and (pe_callB call_isi (by rfl) B.isinstance_ (by decide +kernel) (pa_cons (pv 0) (pa_cons (pe_bltn (v := .ty "int") (by rfl) B.int_ PyProof.Rows.Boot.«int» rfl) pa_nil))) (pe_one (pe_not (pe_callB call_isi (by rfl) B.isinstance_ (by decide +kernel) (pa_cons (pv 0) (pa_cons (pe_bltn (v := .ty "bool") (by rfl) B.bool_ PyProof.Rows.Boot.«bool» rfl) pa_nil)))))))), ?_⟩
    obtain ⟨x, u, b, c, rfl, tx, kb, kc, q⟩ := h
    refine ⟨_, rfl, _, _, _, _, _, rfl, ClsV.ty _, tx, kb, b, rfl, ?_⟩
    cases b with
    | false => exact iteF q
    | true => 
      refine iteT ?_
      refine ⟨_, rfl, _, _, _, _, _, rfl, ClsV.ty _, tx, kc, _, rfl, ?_⟩
      exact q
abbrev stare_integers : Stmt := top 9
theorem scare_integers : FnScope ["items", "item"] ["items"] (defScope stare_integers) := ⟨rfl, rfl, rfl, by decide +kernel, rfl, by decide +kernel, by decide +kernel⟩
theorem okare_integers (B : Blt mg) {CUnits : Addr} (Es : ErU K mg CUnits) {fis_whole : Addr} {fdis_whole : FuncData} (Dis_whole : DefAt K mg "is_whole" stis_whole ["value"] fis_whole fdis_whole) {fare_integers : Addr} {fdare_integers : FuncData} (Dare_integers : DefAt K mg "are_integers" stare_integers ["items"] fare_integers fdare_integers) : FnOk P w K mg base CX0 2 fare_integers fdare_integers ["items"] (spAreG K) := by
  obtain ⟨uD, hD, rD⟩ := Es.dig
  obtain ⟨uM, hM, rM⟩ := Es.most
  obtain ⟨uL, hL, rL⟩ := Es.lett
  obtain ⟨uN, hN, rN⟩ := Es.long
  obtain ⟨uB, hB, rB⟩ := Es.most6
  have OKis_whole : FnOk P w K mg base CX0 1 fis_whole fdis_whole ["value"] (spWholeV K) := okis_whole B Es Dis_whole
  refine Dare_integers.F.ok scare_integers (fun vs H Q E h => ?_) (fun cdv A outer s H vs Q E hr h => ?_)
  · obtain ⟨t, xs, f, rfl, _⟩ := h; rfl
  · have hu := hu_of hr
    refine ⟨_, (pss_one (ps_ret (pe_callB (cr_all rfl) (by rfl) B.all_ (by decide +kernel) (pa_cons (pe_lc (own := [("item", 1)]) (g := gName 1) (tt := tYes) rfl scare_integers.nd (pi_tup (pv 0)) (blkOk_by (own := [("item", 1)]) (N := ["items", "item"]) (sc := defScope stare_integers) (by decide +kernel)) (fun _ _ _ _ _ => pg_name (i := 1) scare_integers.nd rfl (Or.inl rfl)) (fun _ _ _ _ _ => pts_nil) (fun _ _ _ _ _ => (pe_call OKis_whole (hr.mono (by decide)) rfl Dis_whole.m Dis_whole.F.kp Dis_whole.b .nil pass0 (pa_cons (pv 1) pa_nil)))) pa_nil)))), ?_⟩
    obtain ⟨t, xs, f, rfl, ht, hl, hf, q⟩ := h
    refine ⟨_, rfl, t, rfl, ⟨xs, SqT.of ht⟩, fun D hD => ?_⟩
    have fr : ∀ {H' : Hp}, Same H H' → H' t = some (.tup xs) := fun s => s _ _ ht
    refine lc_tup (K := K) (a := t) (xs := xs) (fun i H' => Same H H' ∧ H' D = some (.lst (((xs.take i).map f).map V.bl))) ⟨AL.Same.new hD, upd_same⟩ (fun i H' _ hh => SqT.of (fr hh.1)) ?_ ?_
    · rintro i x H' hx ⟨s, hd⟩
      obtain ⟨u, b, c, tx, kb, kc, hw⟩ := hf H' s x (List.mem_of_getElem? hx)
      refine ⟨rfl, ?_⟩
      have hi : i < xs.length := (List.getElem?_eq_some_iff.mp hx).1
      refine ⟨_, rfl, x, u, b, c, rfl, tx, kb, kc, _, hd, ?_, AL.Same.updn s hD, ?_⟩
      · rw [List.length_map, List.length_map, List.length_take]
        exact Nat.lt_of_le_of_lt (by omega : _ ≤ 100) (by decide)
      · rw [upd_same, List.take_add_one, hx, hw]
        simp
    · rintro H' ⟨s, hd⟩
      refine ⟨D, xs.map f, rfl, SqL.of (by rw [hd, List.take_length]), ?_⟩
      have := q H' s
      rw [List.all_map]
      exact this
abbrev stlowest : Stmt := top 10
theorem sclowest : FnScope ["top", "bottom", "shared"] ["top", "bottom"] (defScope stlowest) := ⟨rfl, rfl, rfl, by decide +kernel, rfl, by decide +kernel, by decide +kernel⟩
theorem oklowest (B : Blt mg) {CUnits : Addr} (Es : ErU K mg CUnits) {flowest : Addr} {fdlowest : FuncData} (Dlowest : DefAt K mg "lowest" stlowest ["top", "bottom"] flowest fdlowest) : FnOk P w K mg base CX0 1 flowest fdlowest ["top", "bottom"] spLowG := by
  obtain ⟨uD, hD, rD⟩ := Es.dig
  obtain ⟨uM, hM, rM⟩ := Es.most
  obtain ⟨uL, hL, rL⟩ := Es.lett
  obtain ⟨uN, hN, rN⟩ := Es.long
  obtain ⟨uB, hB, rB⟩ := Es.most6
  refine Dlowest.F.ok sclowest (fun vs H Q E h => ?_) (fun cdv A outer s H vs Q E hr h => ?_)
  · obtain ⟨a, b, rfl, _⟩ := h; rfl
  · have hu := hu_of hr
    refine ⟨_, (pss_cons (ps_set (i := 2) sclowest.nd rfl (Or.inl rfl) (pe_callBfun cr_gcd (by rfl) Es.gcd (pa_cons (pv 0) (pa_cons (pv 1) pa_nil))))
    (pss_cons (ps_if (pt_cmpR op_lt (pv 1) pe_int (nomark _)) (pss_one (ps_set (i := 2) sclowest.nd rfl (Or.inl rfl) (pe_un un_neg (pv 2)))) pss_nil)
    (pss_one (ps_ret (pe_tup (pa_cons (pe_op op_fdivC (pv 0) (pv 2)) (pa_cons (pe_op op_fdivC (pv 1) (pv 2)) pa_nil))))))), ?_⟩
    obtain ⟨a, b, rfl, hlo, h0, q⟩ := h
    refine ⟨_, rfl, _, rfl, a, b, rfl, ?_⟩
    have hg : Nat.gcd a.natAbs b.natAbs ≠ 0 := fun z => h0 (Int.natAbs_eq_zero.mp (Nat.eq_zero_of_gcd_eq_zero_right z))
    have d1 : ∀ s : Int, s.natAbs = Nat.gcd a.natAbs b.natAbs → CDivC a s ∧ CDivC b s := fun s hs => by
      refine ⟨⟨fun z => hg (by rw [← hs, z]; rfl), ?_⟩, ⟨fun z => hg (by rw [← hs, z]; rfl), ?_⟩⟩
      · exact hlo.elim (fun z => .inl z.1) (fun z => .inr (by rw [hs]; exact z))
      · exact hlo.elim (fun z => .inl z.2) (fun z => .inr (by rw [hs]; exact z))
    refine ⟨_, rfl, _, _, rfl, rfl, _, rfl, ?_⟩
    refine ite2 (fun hneg => ?_) (fun hneg => ?_)
    · have hneg' := of_decide_eq_true hneg
      obtain ⟨c1, c2⟩ := d1 (-((Nat.gcd a.natAbs b.natAbs : Nat) : Int)) (by rw [Int.natAbs_neg, Int.natAbs_natCast])
      refine ⟨_, rfl, _, rfl, _, rfl, _, rfl, _, _, rfl, rfl, c1, _, rfl, _, rfl, _, _, rfl, rfl, c2, (by show 2 ≤ sizeLine; decide), fun t ht => ?_⟩
      have z := q t ht
      unfold lowI shr at z
      rw [if_pos hneg'] at z
      exact z
    · have hneg' : ¬ b < 0 := fun z => hneg (decide_eq_true z)
      obtain ⟨c1, c2⟩ := d1 ((Nat.gcd a.natAbs b.natAbs : Nat) : Int) (Int.natAbs_natCast _)
      refine ⟨_, rfl, _, rfl, _, _, rfl, rfl, c1, _, rfl, _, rfl, _, _, rfl, rfl, c2, (by show 2 ≤ sizeLine; decide), fun t ht => ?_⟩
      have z := q t ht
      unfold lowI shr at z
      rw [if_neg hneg'] at z
      exact z
abbrev stratio_product : Stmt := top 11
theorem scratio_product : FnScope ["one", "other", "first", "second"] ["one", "other"] (defScope stratio_product) := ⟨rfl, rfl, rfl, by decide +kernel, rfl, by decide +kernel, by decide +kernel⟩
theorem okratio_product (B : Blt mg) {CUnits : Addr} (Es : ErU K mg CUnits) {fratio_product : Addr} {fdratio_product : FuncData} (Dratio_product : DefAt K mg "ratio_product" stratio_product ["one", "other"] fratio_product fdratio_product) : FnOk P w K mg base CX0 1 fratio_product fdratio_product ["one", "other"] (spTwoL mulR) := by
  obtain ⟨uD, hD, rD⟩ := Es.dig
  obtain ⟨uM, hM, rM⟩ := Es.most
  obtain ⟨uL, hL, rL⟩ := Es.lett
  obtain ⟨uN, hN, rN⟩ := Es.long
  obtain ⟨uB, hB, rB⟩ := Es.most6
  refine Dratio_product.F.ok scratio_product (fun vs H Q E h => ?_) (fun cdv A outer s H vs Q E hr h => ?_)
  · obtain ⟨s, t, a, c, b, d, rfl, _⟩ := h; rfl
  · have hu := hu_of hr
    refine ⟨_, (Evl.pss_cut (ps_if (PW.pt (pw_and (pt_cmpR op_eq (pe_ix ix_tup (pv 0) pe_int (fun _ _ => rfl)) pe_int (nomark _)) (pw_and1 (pt_cmpR op_eq (pe_ix ix_tup (pv 1) pe_int (fun _ _ => rfl)) pe_int (nomark _))))) (pss_one (ps_ret (pe_tup (pa_cons (pe_op op_mulW (pe_ix ix_tup (pv 0) pe_int (fun _ _ => rfl)) (pe_ix ix_tup (pv 1) pe_int (fun _ _ => rfl))) (pa_cons pe_int pa_nil))))) pss_nil)
    (pss_cons (ps_set (i := 2) scratio_product.nd rfl (Or.inl rfl) (pe_callBfun cr_gcd (by rfl) Es.gcd (pa_cons (pe_ix ix_tup (pv 0) pe_int (fun _ _ => rfl)) (pa_cons (pe_ix ix_tup (pv 1) pe_int (fun _ _ => rfl)) pa_nil))))
    (pss_cons (ps_set (i := 3) scratio_product.nd rfl (Or.inl rfl) (pe_callBfun cr_gcd (by rfl) Es.gcd (pa_cons (pe_ix ix_tup (pv 1) pe_int (fun _ _ => rfl)) (pa_cons (pe_ix ix_tup (pv 0) pe_int (fun _ _ => rfl)) pa_nil))))
    (pss_one (ps_ret (pe_tup (pa_cons (pe_op op_mulW (pe_op op_fdivC (pe_ix ix_tup (pv 0) pe_int (fun _ _ => rfl)) (pv 2)) (pe_op op_fdivC (pe_ix ix_tup (pv 1) pe_int (fun _ _ => rfl)) (pv 3))) (pa_cons (pe_op op_mulW (pe_op op_fdivC (pe_ix ix_tup (pv 0) pe_int (fun _ _ => rfl)) (pv 3)) (pe_op op_fdivC (pe_ix ix_tup (pv 1) pe_int (fun _ _ => rfl)) (pv 2))) pa_nil)))))))), ?_⟩
    obtain ⟨s, t, a, c, b, d, rfl, hs, ht, ⟨b0, ma, mb⟩, ⟨d0, mc, md⟩, la, lc, q⟩ := h
    have mb' : ((b : Nat) : Int).natAbs < 2 ^ 6000 := by rw [Int.natAbs_natCast]; exact mb
    have md' : ((d : Nat) : Int).natAbs < 2 ^ 6000 := by rw [Int.natAbs_natCast]; exact md
    have hs' := SqT.of (K := K) hs
    have ht' := SqT.of (K := K) ht
    have big : ∀ {x : Nat}, x < 2 ^ 12001 → x < 2 ^ 13500 := fun h => Nat.lt_of_lt_of_le h (Nat.pow_le_pow_right (by decide) (by decide))
    have m12 : ∀ {x : Nat}, x < 2 ^ 6000 → x < 2 ^ 12001 := fun h => Nat.lt_of_lt_of_le h (Nat.pow_le_pow_right (by decide) (by decide))
    
    refine ⟨fun σ' H' => H' = H ∧ σ' = [some (.ref s), some (.ref t), none, none], ?_, ?_⟩
    · refine ⟨_, rfl, s, _, _, _, rfl, rfl, hs', rfl, rfl, _, rfl, ?_⟩
      refine ite2 (fun h1 => ?_) (fun h1 => ?_)
      · have hb1 : b = 1 := vi_eq (j := 1) h1
        refine ⟨_, rfl, t, _, _, _, rfl, rfl, ht', rfl, rfl, _, rfl, ?_⟩
        refine ite2 (fun h2 => ?_) (fun h2 => ?_)
        · have hd1 : d = 1 := vi_eq (j := 1) h2
          subst hb1 hd1
          refine ⟨_, rfl, s, _, _, _, rfl, rfl, hs', rfl, _, rfl, t, _, _, _, rfl, rfl, ht', rfl, _, _, rfl, rfl, (mid_mul ma mc).1, (by show 2 ≤ sizeLine; decide), fun u hu => ?_⟩
          have z := q u hu
          rw [show mulR a 1 c 1 = (a * c, 1) by unfold mulR; rw [Nat.mul_one, nrm_one]] at z
          exact z
        · exact ⟨rfl, rfl⟩
      · exact iteF ⟨rfl, rfl⟩
    rintro σ1 H1 ⟨rfl, rfl⟩
    
    have gI : ∀ {x : Nat}, (x : Int).natAbs = x := fun {x} => Int.natAbs_natCast x
    have dv : ∀ (x : Int) (y : Nat), 0 < y → y < 2 ^ 13500 → x.natAbs < 2 ^ 13500 → CDivC x (y : Int) := fun x y h0 h1 h2 => ⟨by omega, .inl h2⟩
    
    have f0 : 0 < Nat.gcd a.natAbs d := Nat.gcd_pos_of_pos_right _ d0
    have s0 : 0 < Nat.gcd c.natAbs b := Nat.gcd_pos_of_pos_right _ b0
    have fl : Nat.gcd a.natAbs d < 2 ^ 6000 := Nat.lt_of_le_of_lt (Nat.le_of_dvd d0 (Nat.gcd_dvd_right _ _)) md
    have sl : Nat.gcd c.natAbs b < 2 ^ 6000 := Nat.lt_of_le_of_lt (Nat.le_of_dvd b0 (Nat.gcd_dvd_right _ _)) mb
    have fq : ∀ (x : Int) (y : Nat), x.natAbs < 2 ^ 6000 → (x.fdiv (((Nat.gcd x.natAbs y : Nat) : Int))).natAbs < 2 ^ 6000 := fun x y h => by
      rw [Int.fdiv_eq_ediv_of_nonneg _ (by omega), Int.natAbs_ediv_of_dvd (Int.ofNat_dvd_left.mpr (Nat.gcd_dvd_left _ _)), gI]
      exact Nat.lt_of_le_of_lt (Nat.div_le_self _ _) h
    refine ⟨_, rfl, s, _, _, _, rfl, rfl, hs', rfl, _, rfl, t, _, _, _, rfl, rfl, ht', rfl, _, _, rfl, ?_⟩
    dsimp only
    rw [show Nat.gcd a.natAbs ((d : Int)).natAbs = Nat.gcd a.natAbs d by rw [gI]]
    refine ⟨_, rfl, t, _, _, _, rfl, rfl, ht', rfl, _, rfl, s, _, _, _, rfl, rfl, hs', rfl, _, _, rfl, ?_⟩
    dsimp only
    rw [show Nat.gcd c.natAbs ((b : Int)).natAbs = Nat.gcd c.natAbs b by rw [gI]]
    refine ⟨_, rfl, s, _, _, _, rfl, rfl, hs', rfl, _, rfl, _, _, rfl, rfl, dv _ _ f0 (big (m12 fl)) (big (m12 ma)), _, rfl, t, _, _, _, rfl, rfl, ht', rfl, _, rfl, _, _, rfl, rfl, dv _ _ s0 (big (m12 sl)) (big (m12 mc)), _, _, rfl, rfl, (mid_mul (fq _ _ ma) (fq _ _ mc)).1, _, rfl, s, _, _, _, rfl, rfl, hs', rfl, _, rfl, _, _, rfl, rfl, dv _ _ s0 (big (m12 sl)) (by rw [gI]; exact big (m12 mb)), ?_⟩
    dsimp only
    rw [fdiv_nat]
    refine ⟨_, rfl, t, _, _, _, rfl, rfl, ht', rfl, _, rfl, _, _, rfl, rfl, dv _ _ f0 (big (m12 fl)) (by rw [gI]; exact big (m12 md)), ?_⟩
    dsimp only
    rw [fdiv_nat]
    refine ⟨_, _, rfl, rfl, (mid_mul (by rw [gI]; exact Nat.lt_of_le_of_lt (Nat.div_le_self _ _) mb) (by rw [gI]; exact Nat.lt_of_le_of_lt (Nat.div_le_self _ _) md)).1, (by show 2 ≤ sizeLine; decide), fun u hu => ?_⟩
    have z := q u hu
    rw [mul_short la lc] at z
    dsimp only
    rw [← Int.natCast_mul]
    exact z
abbrev stwhole_power : Stmt := top 12
theorem scwhole_power : FnScope ["base", "n", "result"] ["base", "n"] (defScope stwhole_power) := ⟨rfl, rfl, rfl, by decide +kernel, rfl, by decide +kernel, by decide +kernel⟩
theorem okwhole_power (B : Blt mg) {CUnits : Addr} (Es : ErU K mg CUnits) {fwhole_power : Addr} {fdwhole_power : FuncData} (Dwhole_power : DefAt K mg "whole_power" stwhole_power ["base", "n"] fwhole_power fdwhole_power) : FnOk P w K mg base CX0 1 fwhole_power fdwhole_power ["base", "n"] spPow := by
  obtain ⟨uD, hD, rD⟩ := Es.dig
  obtain ⟨uM, hM, rM⟩ := Es.most
  obtain ⟨uL, hL, rL⟩ := Es.lett
  obtain ⟨uN, hN, rN⟩ := Es.long
  obtain ⟨uB, hB, rB⟩ := Es.most6
  refine Dwhole_power.F.ok scwhole_power (fun vs H Q E h => ?_) (fun cdv A outer s H vs Q E hr h => ?_)
  · obtain ⟨b, n, a, rfl, _⟩ := h; rfl
  · have hu := hu_of hr
    refine ⟨_, (pss_cons (ps_set (i := 2) scwhole_power.nd rfl (Or.inl rfl) pe_int)
    (pss_cons (ps_while PassesOwn.never (pt_truth (pv 1) (fun _ => rfl)) (Evl.pss_cut (ps_if (pt_truth (pe_op op_odd (pv 1) pe_int) (fun _ => rfl)) (pss_one (ps_set (i := 2) scwhole_power.nd rfl (Or.inl rfl) (pe_op op_mulW (pv 2) (pv 0)))) pss_nil)
    (pss_cons (ps_set (i := 1) scwhole_power.nd rfl (Or.inl rfl) (pe_op op_halfN (pv 1) pe_int))
    (pss_one (ps_if (pt_truth (pv 1) (fun _ => rfl)) (pss_one (ps_set (i := 0) scwhole_power.nd rfl (Or.inl rfl) (pe_op op_mulW (pv 0) (pv 0)))) pss_nil)))))
    (pss_one (ps_ret (pv 2))))), ?_⟩
    obtain ⟨b, n, a, rfl, hb, ha, han, hal, q⟩ := h
    have pw : ∀ e : Nat, (b ^ e).natAbs < 2 ^ (a * e + 1) := fun e => by
      rw [Int.natAbs_pow]
      refine Nat.lt_of_le_of_lt (Nat.pow_le_pow_left (Nat.le_of_lt hb) e) ?_
      rw [← Nat.pow_mul]
      exact Nat.pow_lt_pow_right (by decide) (by omega)
    have mulOk : ∀ e1 e2 : Nat, e1 ≤ n ∨ e1 ≤ 1 → e2 ≤ n ∨ e2 ≤ 1 → CMulW (b ^ e1) (b ^ e2) := fun e1 e2 h1 h2 => by
      have c : ∀ e, e ≤ n ∨ e ≤ 1 → a * e ≤ 400000 := fun e h => by
        rcases h with h | h
        · exact Nat.le_trans (Nat.mul_le_mul_left a h) han
        · exact Nat.le_trans (Nat.mul_le_mul_left a h) (by omega)
      have c1 := c e1 h1
      have c2 := c e2 h2
      exact wide_mul (pw e1) (pw e2) (by omega) (by omega) (by omega)
    refine ⟨fun m σ H' => H' = H ∧ ∃ e1 e2 k : Nat, m = k ∧ σ = [some (.int (b ^ e2)), some (.int (k : Int)), some (.int (b ^ e1))] ∧ e1 + e2 * k = n ∧ (e2 ≤ n ∨ e2 ≤ 1), ⟨n, rfl, 0, 1, n, rfl, ?_, by omega, .inr (by decide)⟩, ?_⟩
    · rw [show b ^ 1 = b by rw [Int.pow_succ, Int.pow_zero, Int.one_mul], Int.pow_zero]; rfl
    rintro m σ H1 ⟨rfl, e1, e2, k, rfl, rfl, hk, he⟩
    refine ⟨_, rfl, _, rfl, ?_⟩
    refine ite2 (fun hz => ?_) (fun hz => ?_)
    · have hk0 : m ≠ 0 := fun z => by subst z; exact absurd hz (by decide)
      have he1 : e1 ≤ n := by omega
      have he2 : e2 ≤ n := by
        have : e2 * 1 ≤ e2 * m := Nat.mul_le_mul_left e2 (by omega)
        omega
      refine ⟨fun σ' H' => H' = H1 ∧ ∃ f1 f2 k' : Nat, k' < m ∧ σ' = [some (.int (b ^ f2)), some (.int (k' : Int)), some (.int (b ^ f1))] ∧ f1 + f2 * k' = n ∧ (f2 ≤ n ∨ f2 ≤ 1), ?_, ?_⟩
      · rintro σ' H' ⟨rfl, f1, f2, k', hk', rfl, e, he'⟩
        exact ⟨k', hk', rfl, f1, f2, k', rfl, rfl, e, he'⟩
      refine ⟨fun σ' H' => H' = H1 ∧ ∃ f1 : Nat, σ' = [some (.int (b ^ e2)), some (.int (m : Int)), some (.int (b ^ f1))] ∧ f1 + e2 * (2 * (m / 2)) = n, ?_, ?_⟩
      · refine ⟨_, rfl, m, rfl, rfl, _, rfl, ?_⟩
        refine ite2 (fun h1 => ?_) (fun h1 => ?_)
        · have h1' : m % 2 = 1 := by
            rcases Nat.mod_two_eq_zero_or_one m with z | z
            · rw [z] at h1; exact absurd h1 (by decide)
            · exact z
          refine ⟨_, rfl, _, rfl, _, _, rfl, rfl, mulOk e1 e2 (.inl he1) he, rfl, e1 + e2, ?_, ?_⟩
          · rw [Int.pow_add]; rfl
          · have e : e2 * m = e2 * (2 * (m / 2)) + e2 := by
              have : m = 2 * (m / 2) + 1 := by omega
              calc e2 * m = e2 * (2 * (m / 2) + 1) := by rw [← this]
                _ = _ := by rw [Nat.mul_add, Nat.mul_one]
            omega
        · have h1' : m % 2 = 0 := by
            rcases Nat.mod_two_eq_zero_or_one m with z | z
            · exact z
            · rw [z] at h1; exact absurd (by decide) h1
          refine ⟨rfl, e1, rfl, ?_⟩
          rw [show 2 * (m / 2) = m by omega]
          exact hk
      rintro σ' H' ⟨rfl, f1, rfl, hf⟩
      refine ⟨_, rfl, m, rfl, rfl, ?_⟩
      refine ⟨_, rfl, _, rfl, ?_⟩
      have emul : e2 * (2 * (m / 2)) = e2 * 2 * (m / 2) := by rw [Nat.mul_assoc]
      refine ite2 (fun h1 => ?_) (fun h1 => ?_)
      · have h1' : m / 2 ≠ 0 := fun z => by rw [z] at h1; exact absurd h1 (by decide)
        refine ⟨_, rfl, _, rfl, _, _, rfl, rfl, mulOk e2 e2 he he, rfl, f1, e2 * 2, m / 2, by omega, ?_, by rw [← emul]; exact hf, .inl ?_⟩
        · rw [show e2 * 2 = e2 + e2 by omega, Int.pow_add]; rfl
        · have : e2 * 2 * 1 ≤ e2 * 2 * (m / 2) := Nat.mul_le_mul_left _ (by omega)
          omega
      · have h1' : m / 2 = 0 := by
          rcases Nat.eq_zero_or_pos (m / 2) with z | z
          · exact z
          · exact absurd (by
              show (((m / 2 : Nat) : Int) != 0) = true
              rw [bne_iff_ne]; omega) h1
        exact ⟨rfl, f1, e2, m / 2, by omega, rfl, by rw [h1']; rw [h1'] at hf; exact hf, .inl he2⟩
    · have hk0 : m = 0 := by
        rcases Nat.eq_zero_or_pos m with z | z
        · exact z
        · exact absurd (by
            show ((m : Int) != 0) = true
            rw [bne_iff_ne]; omega) hz
      subst hk0
      have : e1 = n := by omega
      subst this
      exact ⟨_, rfl, q⟩
abbrev stratio_power : Stmt := top 13
theorem scratio_power : FnScope ["ratio", "n", "top", "bottom"] ["ratio", "n"] (defScope stratio_power) := ⟨rfl, rfl, rfl, by decide +kernel, rfl, by decide +kernel, by decide +kernel⟩
theorem okratio_power (B : Blt mg) {CUnits : Addr} (Es : ErU K mg CUnits) {flowest : Addr} {fdlowest : FuncData} (Dlowest : DefAt K mg "lowest" stlowest ["top", "bottom"] flowest fdlowest) {fwhole_power : Addr} {fdwhole_power : FuncData} (Dwhole_power : DefAt K mg "whole_power" stwhole_power ["base", "n"] fwhole_power fdwhole_power) {fratio_power : Addr} {fdratio_power : FuncData} (Dratio_power : DefAt K mg "ratio_power" stratio_power ["ratio", "n"] fratio_power fdratio_power) : FnOk P w K mg base CX0 2 fratio_power fdratio_power ["ratio", "n"] spPowU := by
  obtain ⟨uD, hD, rD⟩ := Es.dig
  obtain ⟨uM, hM, rM⟩ := Es.most
  obtain ⟨uL, hL, rL⟩ := Es.lett
  obtain ⟨uN, hN, rN⟩ := Es.long
  obtain ⟨uB, hB, rB⟩ := Es.most6
  have OKlowest : FnOk P w K mg base CX0 1 flowest fdlowest ["top", "bottom"] spLowG := oklowest B Es Dlowest
  have OKwhole_power : FnOk P w K mg base CX0 1 fwhole_power fdwhole_power ["base", "n"] spPow := okwhole_power B Es Dwhole_power
  refine Dratio_power.F.ok scratio_power (fun vs H Q E h => ?_) (fun cdv A outer s H vs Q E hr h => ?_)
  · obtain ⟨s, a, b, n, e, rfl, _⟩ := h; rfl
  · have hu := hu_of hr
    refine ⟨_, (pss_cons (ps_asg (pv 0) (pg_tup rfl (pgs_cons (pg_name (i := 2) scratio_power.nd rfl (Or.inl rfl)) (pgs_cons (pg_name (i := 3) scratio_power.nd rfl (Or.inl rfl)) pgs_nil))))
    (pss_cons (ps_if (pt_cmpR op_lt (pv 1) pe_int (nomark _)) (pss_one (ps_ret (pe_call OKlowest (hr.mono (by decide)) rfl Dlowest.m Dlowest.F.kp Dlowest.b .nil pass0 (pa_cons (pe_call OKwhole_power (hr.mono (by decide)) rfl Dwhole_power.m Dwhole_power.F.kp Dwhole_power.b .nil pass0 (pa_cons (pv 3) (pa_cons (pe_un un_neg (pv 1)) pa_nil))) (pa_cons (pe_call OKwhole_power (hr.mono (by decide)) rfl Dwhole_power.m Dwhole_power.F.kp Dwhole_power.b .nil pass0 (pa_cons (pv 2) (pa_cons (pe_un un_neg (pv 1)) pa_nil))) pa_nil))))) pss_nil)
    (pss_one (ps_ret (pe_tup (pa_cons (pe_call OKwhole_power (hr.mono (by decide)) rfl Dwhole_power.m Dwhole_power.F.kp Dwhole_power.b .nil pass0 (pa_cons (pv 2) (pa_cons (pv 1) pa_nil))) (pa_cons (pe_call OKwhole_power (hr.mono (by decide)) rfl Dwhole_power.m Dwhole_power.F.kp Dwhole_power.b .nil pass0 (pa_cons (pv 3) (pa_cons (pv 1) pa_nil))) pa_nil))))))), ?_⟩
    obtain ⟨s, a, b, n, e, rfl, hs, pa, pb0, e0, hn, he, h0, q⟩ := h
    have hs' := SqT.of (K := K) hs
    have pb : ((b : Nat) : Int).natAbs < 2 ^ e := by rw [Int.natAbs_natCast]; exact pb0
    have k6 : e * n.natAbs ≤ 400000 := by omega
    refine ⟨_, rfl, s, _, rfl, hs', rfl, _, _, rfl, _, _, rfl, rfl, ?_⟩
    refine ⟨_, rfl, _, _, rfl, rfl, _, rfl, ?_⟩
    refine ite2 (fun hneg => ?_) (fun hneg => ?_)
    · have hneg' := of_decide_eq_true hneg
      have en : -n = ((n.natAbs : Nat) : Int) := by omega
      have a0 : a ≠ 0 := fun z => h0 ⟨hneg', z⟩
      have qe : pwR a b n = ovR ((b ^ n.natAbs : Nat) : Int) 1 (a ^ n.natAbs) 1 := by unfold pwR; rw [if_pos hneg']
      refine ⟨_, rfl, _, rfl, _, rfl, ?_⟩
      refine ⟨(b : Int), n.natAbs, e, (by rw [← en]; rfl), pb, e0, k6, by omega, _, rfl, _, rfl, _, rfl, ?_⟩
      refine ⟨a, n.natAbs, e, (by rw [← en]; rfl), pa, e0, k6, by omega, _, _, rfl, ?_, Int.pow_ne_zero a0, fun u hu => ?_⟩
      · refine (mid_div (up12 ?_) (up12 ?_)).1
        · rw [Int.natAbs_pow, Int.natAbs_natCast]; exact Nat.lt_of_lt_of_le (powS pb0 hn) (Nat.pow_le_pow_right (by decide) (by decide))
        · rw [Int.natAbs_pow]; exact Nat.lt_of_lt_of_le (powS pa hn) (Nat.pow_le_pow_right (by decide) (by decide))
      · have z := q u hu
        have e9 := ovR_eq ((b ^ n.natAbs : Nat) : Int) 1 (a ^ n.natAbs) 1 (by decide) (Int.pow_ne_zero a0)
        rw [Int.natCast_one, Int.mul_one, Int.one_mul, Int.natCast_pow] at e9
        rw [qe, Int.natCast_pow] at z
        rw [e9]
        exact z
    · have hneg' : ¬ n < 0 := fun z => hneg (decide_eq_true z)
      have en : n = ((n.natAbs : Nat) : Int) := by omega
      have qe : pwR a b n = (a ^ n.natAbs, b ^ n.natAbs) := by unfold pwR; rw [if_neg hneg']
      refine ⟨_, rfl, _, rfl, a, n.natAbs, e, (by rw [← en]; rfl), pa, e0, k6, by omega, _, rfl, _, rfl, (b : Int), n.natAbs, e, (by rw [← en]; rfl), pb, e0, k6, by omega, (by show 2 ≤ sizeLine; decide), fun u hu => ?_⟩
      have z := q u hu
      rw [qe, Int.natCast_pow] at z
      exact z
abbrev stdigits_end : Stmt := top 20
theorem scdigits_end : FnScope ["text", "start", "end"] ["text", "start"] (defScope stdigits_end) := ⟨rfl, rfl, rfl, by decide +kernel, rfl, by decide +kernel, by decide +kernel⟩
theorem okdigits_end (B : Blt mg) {CUnits : Addr} (Es : ErU K mg CUnits) {fdigits_end : Addr} {fddigits_end : FuncData} (Ddigits_end : DefAt K mg "digits_end" stdigits_end ["text", "start"] fdigits_end fddigits_end) : FnOk P w K mg base CX0 1 fdigits_end fddigits_end ["text", "start"] spEnd := by
  obtain ⟨uD, hD, rD⟩ := Es.dig
  obtain ⟨uM, hM, rM⟩ := Es.most
  obtain ⟨uL, hL, rL⟩ := Es.lett
  obtain ⟨uN, hN, rN⟩ := Es.long
  obtain ⟨uB, hB, rB⟩ := Es.most6
  refine Ddigits_end.F.ok scdigits_end (fun vs H Q E h => ?_) (fun cdv A outer s H vs Q E hr h => ?_)
  · obtain ⟨l, i, rfl, _⟩ := h; rfl
  · have hu := hu_of hr
    refine ⟨_, (pss_cons (ps_set (i := 2) scdigits_end.nd rfl (Or.inl rfl) (pv 1))
    (pss_cons (ps_while PassesOwn.never (PW.pt (pw_and (pt_cmpR op_lt (pv 2) (pe_callB call_len_str (by rfl) B.len_ (by decide +kernel) (pa_cons (pv 0) pa_nil)) (nomark _)) (pw_and1 (pt_cmpR op_in_sign (pe_ix ix_str (pv 0) (pv 2) (fun _ _ => rfl)) (pe_glob rfl hD rD) rfl)))) (pss_one (ps_aug (i := 2) scdigits_end.nd rfl (Or.inl rfl) pe_int ip_add)))
    (pss_one (ps_ret (pv 2))))), ?_⟩
    obtain ⟨l, i, rfl, hi, hl, q⟩ := h
    have hls : (S l).length ≤ sizeLine := by rw [S_len]; exact Nat.le_trans hl (by decide)
    have hde := dEnd_le hi
    refine ⟨_, rfl, fun m σ H' => H' = H ∧ ∃ e, i ≤ e ∧ e ≤ dEnd l i ∧ m = dEnd l i - e ∧ σ = [some (.str (S l)), some (.int (i : Int)), some (.int ((e : Nat) : Int))], ⟨_, rfl, i, Nat.le_refl _, dEnd_ge _ _, rfl, rfl⟩, ?_⟩
    rintro m σ H' ⟨rfl, e, h0, h1, rfl, rfl⟩
    refine ⟨_, rfl, _, rfl, _, rfl, hls, _, _, rfl, rfl, _, rfl, ?_⟩
    refine ite2 (fun hlt => ?_) (fun hge => ?_)
    · have hlt' := of_decide_eq_true hlt
      rw [S_len] at hlt'
      have hel : e < l.length := by omega
      refine ⟨_, rfl, _, rfl, _, _, _, rfl, rfl, hls, atI_nat (List.getElem?_eq_getElem hel), _, _, rfl, rfl, _, rfl, ?_⟩
      have hmem : decide (l[e] ∈ ("0123456789" : Str).cps.toList) = isD l[e] := by rw [digitsS, isD_mem]
      rw [hmem]
      refine ite2 (fun hd => ?_) (fun hd => ?_)
      · have hne : e ≠ dEnd l i := fun z => by
          have := dEnd_out (l := l) (i := i) (c := l[e]) (by rw [← z]; exact List.getElem?_eq_getElem hel)
          rw [this] at hd; cases hd
        refine ⟨fun σ' H2 => σ' = [some (.str (S l)), some (.int (i : Int)), some (.int ((e + 1 : Nat) : Int))] ∧ H2 = H', ?_, ?_⟩
        · rintro σ' H2 ⟨rfl, rfl⟩
          exact ⟨dEnd l i - (e + 1), by omega, rfl, e + 1, by omega, by omega, rfl, rfl⟩
        · exact ⟨_, rfl, _, _, rfl, rfl, rfl, rfl⟩
      · have he : e = dEnd l i := by
          rcases Nat.lt_or_ge e (dEnd l i) with h | h
          · exact absurd (dEnd_in h0 h (List.getElem?_eq_getElem hel)) hd
          · omega
        refine ⟨_, rfl, ?_⟩
        rw [← he] at q; exact q
    · have hge' : ¬ e < l.length := fun z => hge (decide_eq_true (by rw [S_len]; omega))
      have he : e = dEnd l i := by omega
      refine ⟨_, rfl, ?_⟩
      rw [← he] at q; exact q
abbrev stwrong_column_ratios : Stmt := top 18
theorem scwrong_column_ratios : FnScope ["text", "start", "end"] ["text"] (defScope stwrong_column_ratios) := ⟨rfl, rfl, rfl, by decide +kernel, rfl, by decide +kernel, by decide +kernel⟩
theorem okwrong_column_ratios (B : Blt mg) {CUnits : Addr} (Es : ErU K mg CUnits) {fdigits_end : Addr} {fddigits_end : FuncData} (Ddigits_end : DefAt K mg "digits_end" stdigits_end ["text", "start"] fdigits_end fddigits_end) {fwrong_column_ratios : Addr} {fdwrong_column_ratios : FuncData} (Dwrong_column_ratios : DefAl K mg "wrong_column_ratios" "wrong_column" stwrong_column_ratios ["text"] fwrong_column_ratios fdwrong_column_ratios) : FnOk P w K mg base CX0 2 fwrong_column_ratios fdwrong_column_ratios ["text"] spCol := by
  obtain ⟨uD, hD, rD⟩ := Es.dig
  obtain ⟨uM, hM, rM⟩ := Es.most
  obtain ⟨uL, hL, rL⟩ := Es.lett
  obtain ⟨uN, hN, rN⟩ := Es.long
  obtain ⟨uB, hB, rB⟩ := Es.most6
  have OKdigits_end : FnOk P w K mg base CX0 1 fdigits_end fddigits_end ["text", "start"] spEnd := okdigits_end B Es Ddigits_end
  refine Dwrong_column_ratios.F.ok scwrong_column_ratios (fun vs H Q E h => ?_) (fun cdv A outer s H vs Q E hr h => ?_)
  · obtain ⟨l, rfl, _⟩ := h; rfl
  · have hu := hu_of hr
    refine ⟨_, (Evl.pss_cut (ps_set (i := 1) scwrong_column_ratios.nd rfl (Or.inl rfl) (pe_ifExp (pt_val (pe_m1 PySem.F.slot_str_startswith PySem.F.type_str_startswith mt_startswith (pv 0) pe_str)) pe_int pe_int))
    (pss_cons (ps_set (i := 2) scwrong_column_ratios.nd rfl (Or.inl rfl) (pe_call OKdigits_end (hr.mono (by decide)) rfl Ddigits_end.m Ddigits_end.F.kp Ddigits_end.b .nil pass0 (pa_cons (pv 0) (pa_cons (pv 1) pa_nil))))
    (Evl.pss_cut (ps_if (PW.pt (pw_and (pt_cmpR op_gt (pv 2) (pv 1) (nomark _)) (pw_and (pt_cmpR op_lt (pv 2) (pe_callB call_len_str (by rfl) B.len_ (by decide +kernel) (pa_cons (pv 0) pa_nil)) (nomark _)) (pw_and1 (pt_cmpR op_eq (pe_ix ix_str (pv 0) (pv 2) (fun _ _ => rfl)) pe_str (nomark _)))))) (pss_cons (ps_set (i := 1) scwrong_column_ratios.nd rfl (Or.inl rfl) (pe_op op_add (pv 2) pe_int))
    (pss_one (ps_set (i := 2) scwrong_column_ratios.nd rfl (Or.inl rfl) (pe_call OKdigits_end (hr.mono (by decide)) rfl Ddigits_end.m Ddigits_end.F.kp Ddigits_end.b .nil pass0 (pa_cons (pv 0) (pa_cons (pv 1) pa_nil)))))) pss_nil)
    (pss_cons (ps_if (PW.pt (pw_or (pt_cmpR op_eq (pv 2) (pv 1) (nomark _)) (pw_or1 (pt_cmpR op_lt (pv 2) (pe_callB call_len_str (by rfl) B.len_ (by decide +kernel) (pa_cons (pv 0) pa_nil)) (nomark _))))) (pss_one (ps_ret (pe_op op_add (pv 2) pe_int))) pss_nil)
    (pss_one (ps_ret pe_int)))))), ?_⟩
    obtain ⟨l, rfl, hl, q⟩ := h
    have hls : (S l).length ≤ sizeLine := by rw [S_len]; exact Nat.le_trans hl (by decide)
    refine ⟨fun σ' H' => H' = H ∧ σ' = [some (.str (S l)), some (.int ((fst0 l : Nat) : Int)), none], ?_, ?_⟩
    · refine ⟨_, rfl, ⟨_, rfl⟩, _, _, rfl, rfl, _, rfl, ?_⟩
      rw [starts_minus]
      refine ite2 (fun hn => ?_) (fun hn => ?_)
      · refine ⟨rfl, ?_⟩
        unfold fst0; rw [if_pos hn]; rfl
      · refine ⟨rfl, ?_⟩
        unfold fst0; rw [if_neg hn]; rfl
    rintro σ1 H1 ⟨rfl, rfl⟩
    refine ⟨_, rfl, _, rfl, l, fst0 l, rfl, fst0_le l, hl, ?_⟩
    have a1 := fst_mid l
    have a2 := mid0_le l
    have pre : ∀ {b : Bool}, slash0 l = b → (decide (fst0 l < mid0 l) && b) = true → fst0 l < mid0 l ∧ b = true := fun _ z => by simpa using z
    refine ⟨fun σ' H' => H' = H1 ∧ ((fst0 l < mid0 l ∧ slash0 l = true ∧ σ' = [some (.str (S l)), some (.int ((mid0 l + 1 : Nat) : Int)), some (.int ((end0 l : Nat) : Int))]) ∨ ((fst0 l = mid0 l ∨ slash0 l = false) ∧ σ' = [some (.str (S l)), some (.int ((fst0 l : Nat) : Int)), some (.int ((mid0 l : Nat) : Int))])), ?_, ?_⟩
    · refine ⟨_, rfl, _, rfl, _, _, rfl, rfl, _, rfl, ?_⟩
      refine ite2 (fun h1 => ?_) (fun h1 => ?_)
      · have h1' := of_decide_eq_true h1
        refine ⟨_, rfl, _, rfl, _, rfl, hls, _, _, rfl, rfl, _, rfl, ?_⟩
        refine ite2 (fun h2 => ?_) (fun h2 => ?_)
        · have h2' := of_decide_eq_true h2
          rw [S_len] at h2'
          have hml : mid0 l < l.length := by show dEnd l (fst0 l) < l.length; omega
          refine ⟨_, rfl, _, rfl, _, _, _, rfl, rfl, hls, atI_nat (List.getElem?_eq_getElem hml), rfl, _, rfl, ?_⟩
          have hs : decide (V.str ⟨#[l[mid0 l]]⟩ = V.str "/") = slash0 l := by
            unfold slash0
            rw [slashS, List.getElem?_eq_getElem hml]
            by_cases hc : l[mid0 l] = 47
            · rw [hc, decide_eq_true rfl, decide_eq_true rfl]
            · rw [decide_eq_false (fun z => hc (Option.some.inj z)), decide_eq_false (fun z => hc (by injection z with z; injection z with z; simpa using z))]
          refine ite2 (fun h3 => ?_) (fun h3 => ?_)
          · have h3' : slash0 l = true := hs ▸ h3
            refine ⟨_, rfl, _, _, rfl, rfl, _, rfl, _, rfl, l, mid0 l + 1, rfl, hml, hl, rfl, .inl ⟨?_, h3', rfl⟩⟩
            show fst0 l < dEnd l (fst0 l); omega
          · exact ⟨rfl, .inr ⟨.inr (Bool.eq_false_iff.mpr fun z => h3 (hs.trans z)), rfl⟩⟩
        · refine iteF ⟨rfl, .inr ⟨.inr (Bool.eq_false_iff.mpr fun z => h2 (decide_eq_true ?_)), rfl⟩⟩
          have := slash_lt z
          rw [S_len]
          show ((dEnd l (fst0 l) : Nat) : Int) < _
          have : dEnd l (fst0 l) < l.length := this
          omega
      · refine iteF ⟨rfl, .inr ⟨.inl ?_, rfl⟩⟩
        have : ¬ fst0 l < dEnd l (fst0 l) := fun z => h1 (decide_eq_true (by omega))
        have : mid0 l = dEnd l (fst0 l) := rfl
        omega
    rintro σ2 H2 ⟨rfl, hh⟩
    rcases hh with ⟨c1, c2, rfl⟩ | ⟨c1, rfl⟩
    · have a3 := end0_le c2
      have a4 : mid0 l + 1 ≤ end0 l := dEnd_ge _ _
      have hw : wcol l = if end0 l = mid0 l + 1 ∨ end0 l < l.length then end0 l + 1 else 0 := by unfold wcol; rw [if_neg (by omega), if_pos c2]
      refine ⟨_, rfl, _, rfl, rfl, _, rfl, ?_⟩
      refine ite2 (fun h1 => ?_) (fun h1 => ?_)
      · refine ⟨_, rfl, _, _, rfl, rfl, ?_⟩
        rw [hw, if_pos (.inl (vi_eq h1))] at q
        exact q
      · refine ⟨_, rfl, _, rfl, _, rfl, hls, _, _, rfl, rfl, _, rfl, ?_⟩
        rw [S_len]
        refine ite2 (fun h2 => ?_) (fun h2 => ?_)
        · have h2' := of_decide_eq_true h2
          refine ⟨_, rfl, _, _, rfl, rfl, ?_⟩
          rw [hw, if_pos (.inr (by omega))] at q
          exact q
        · have h2' : ¬ end0 l < l.length := fun z => h2 (decide_eq_true (by omega))
          rw [hw, if_neg (fun z => z.elim (vi_ne h1) h2')] at q
          exact q
    · have hw : wcol l = if mid0 l = fst0 l ∨ mid0 l < l.length then mid0 l + 1 else 0 := by
        unfold wcol
        by_cases hm : mid0 l = fst0 l
        · rw [if_pos hm, if_pos (.inl hm), hm]
        · rcases c1 with c1 | c1
          · exact absurd c1.symm hm
          · rw [if_neg hm, if_neg (by rw [c1]; decide)]
            by_cases hl2 : mid0 l < l.length
            · rw [if_pos hl2, if_pos (.inr hl2)]
            · rw [if_neg hl2, if_neg (fun z => z.elim hm hl2)]
      refine ⟨_, rfl, _, rfl, rfl, _, rfl, ?_⟩
      refine ite2 (fun h1 => ?_) (fun h1 => ?_)
      · refine ⟨_, rfl, _, _, rfl, rfl, ?_⟩
        rw [hw, if_pos (.inl (vi_eq h1))] at q
        exact q
      · refine ⟨_, rfl, _, rfl, _, rfl, hls, _, _, rfl, rfl, _, rfl, ?_⟩
        rw [S_len]
        refine ite2 (fun h2 => ?_) (fun h2 => ?_)
        · have h2' := of_decide_eq_true h2
          refine ⟨_, rfl, _, _, rfl, rfl, ?_⟩
          rw [hw, if_pos (.inr (by omega))] at q
          exact q
        · have h2' : ¬ mid0 l < l.length := fun z => h2 (decide_eq_true (by omega))
          rw [hw, if_neg (fun z => z.elim (vi_ne h1) h2')] at q
          exact q
abbrev stratio_of : Stmt := top 17
theorem scratio_of : FnScope ["text", "column", "top", "slash", "bottom", "digits"] ["text"] (defScope stratio_of) := ⟨rfl, rfl, rfl, by decide +kernel, rfl, by decide +kernel, by decide +kernel⟩
theorem okratio_of (B : Blt mg) {CUnits : Addr} (Es : ErU K mg CUnits) {flowest : Addr} {fdlowest : FuncData} (Dlowest : DefAt K mg "lowest" stlowest ["top", "bottom"] flowest fdlowest) {fdigits_end : Addr} {fddigits_end : FuncData} (Ddigits_end : DefAt K mg "digits_end" stdigits_end ["text", "start"] fdigits_end fddigits_end) {fwrong_column_ratios : Addr} {fdwrong_column_ratios : FuncData} (Dwrong_column_ratios : DefAl K mg "wrong_column_ratios" "wrong_column" stwrong_column_ratios ["text"] fwrong_column_ratios fdwrong_column_ratios) {fratio_of : Addr} {fdratio_of : FuncData} (Dratio_of : DefAt K mg "ratio_of" stratio_of ["text"] fratio_of fdratio_of) : FnOk P w K mg base CX0 3 fratio_of fdratio_of ["text"] spRatioU := by
  obtain ⟨uD, hD, rD⟩ := Es.dig
  obtain ⟨uM, hM, rM⟩ := Es.most
  obtain ⟨uL, hL, rL⟩ := Es.lett
  obtain ⟨uN, hN, rN⟩ := Es.long
  obtain ⟨uB, hB, rB⟩ := Es.most6
  have OKlowest : FnOk P w K mg base CX0 1 flowest fdlowest ["top", "bottom"] spLowG := oklowest B Es Dlowest
  have OKwrong_column_ratios : FnOk P w K mg base CX0 2 fwrong_column_ratios fdwrong_column_ratios ["text"] spCol := okwrong_column_ratios B Es Ddigits_end Dwrong_column_ratios
  refine Dratio_of.F.ok scratio_of (fun vs H Q E h => ?_) (fun cdv A outer s H vs Q E hr h => ?_)
  · obtain ⟨l, p, r, rfl, _⟩ := h; rfl
  · have hu := hu_of hr
    refine ⟨_, (pss_cons (ps_if (pt_not (pt_val (pe_callB call_isi (by rfl) B.isinstance_ (by decide +kernel) (pa_cons (pv 0) (pa_cons (pe_bltn (v := .ty "str") (by rfl) B.str_ PyProof.Rows.Boot.«str» rfl) pa_nil))))) (pss_one ps_never) pss_nil)
    (pss_cons (ps_set (i := 1) scratio_of.nd rfl (Or.inl rfl) (pe_call OKwrong_column_ratios (hr.mono (by decide)) rfl Dwrong_column_ratios.m Dwrong_column_ratios.F.kp Dwrong_column_ratios.b .nil pass0 (pa_cons (pv 0) pa_nil)))
    (pss_cons (ps_if (pt_cmpR op_gt (pv 1) pe_int (nomark _)) (pss_one ps_never) pss_nil)
    (pss_cons (ps_asg (pe_partition (pv 0) pe_str) (pg_tup rfl (pgs_cons (pg_name (i := 2) scratio_of.nd rfl (Or.inl rfl)) (pgs_cons (pg_name (i := 3) scratio_of.nd rfl (Or.inl rfl)) (pgs_cons (pg_name (i := 4) scratio_of.nd rfl (Or.inl rfl)) pgs_nil)))))
    (pss_cons (ps_for PassesOwn.never rfl (pi_tup (pe_tup (pa_cons (pe_m1 PySem.F.slot_str_lstrip PySem.F.type_str_lstrip mt_lstripChars (pv 2) pe_str) (pa_cons (pv 4) pa_nil)))) (pg_name (i := 5) scratio_of.nd rfl (Or.inl rfl))
      (pss_one (ps_if (pt_cmpR op_gt (pe_callB call_len_str (by rfl) B.len_ (by decide +kernel) (pa_cons (pv 5) pa_nil)) (pe_glob rfl hM rM) (nomark _)) (pss_one ps_never) pss_nil)))
    (pss_cons (ps_if (pt_cmpR op_eq (pv 3) pe_str (nomark _)) (pss_one (ps_ret (pe_tup (pa_cons (pe_callTy (call_int_strL Es.nodig) (by rfl) B.int_ (by decide +kernel) (pa_cons (pv 2) pa_nil)) (pa_cons pe_int pa_nil))))) pss_nil)
    (pss_cons (ps_if (pt_cmpR op_eq (pe_callTy (call_int_strL Es.nodig) (by rfl) B.int_ (by decide +kernel) (pa_cons (pv 4) pa_nil)) pe_int (nomark _)) (pss_one ps_never) pss_nil)
    (pss_one (ps_ret (pe_call OKlowest (hr.mono (by decide)) rfl Dlowest.m Dlowest.F.kp Dlowest.b .nil pass0 (pa_cons (pe_callTy (call_int_strL Es.nodig) (by rfl) B.int_ (by decide +kernel) (pa_cons (pv 2) pa_nil)) (pa_cons (pe_callTy (call_int_strL Es.nodig) (by rfl) B.int_ (by decide +kernel) (pa_cons (pv 4) pa_nil)) pa_nil)))))))))))), ?_⟩
    obtain ⟨l, p0, r0, rfl, hl, er0, q⟩ := h
    have hls : (S l).length ≤ sizeLine := by rw [S_len]; exact Nat.le_trans hl (by decide)
    refine ⟨_, rfl, _, _, _, _, _, rfl, ClsV.ty _, TyX.base (.str _), rfl, true, rfl, ?_⟩
    refine iteF ?_
    refine ⟨_, rfl, l, rfl, hl, ?_⟩
    refine ⟨_, rfl, _, _, rfl, rfl, _, rfl, ?_⟩
    refine ite2 (fun hw => ?_) (fun hw => ?_)
    · have hw' := of_decide_eq_true hw
      rw [res_bad (by omega)] at er0; cases er0
    · have hw0 : wcol l = 0 := by
        rcases Nat.eq_zero_or_pos (wcol l) with h | h
        · exact h
        · exact absurd (decide_eq_true (by omega)) hw
      obtain ⟨h1, h2⟩ := wcol0 hw0
      have er := res_ok hw0
      have ht : ∃ (sl : Str) (b : List Nat), Txt.partition (S l) "/" = (S (l.take (mid0 l)), sl, S b) ∧ ((slash0 l = true ∧ sl = "/" ∧ b = rowAt l (mid0 l + 1) (end0 l) ∧ mid0 l + 1 < end0 l ∧ b.length = end0 l - (mid0 l + 1)) ∨ (slash0 l = false ∧ sl = Str.empty ∧ b = [])) := by
        rcases h2 with ⟨e, h3, h4⟩ | ⟨e, h3⟩
        · refine ⟨"/", l.drop (mid0 l + 1), part_slash e, .inl ⟨e, rfl, bot_eq h4, h3, ?_⟩⟩
          rw [bot_eq h4, rowAt_len (end0_le e)]
        · refine ⟨Str.empty, [], ?_, .inr ⟨e, rfl, rfl⟩⟩
          rw [part_none h3, h3, List.take_length]
          rfl
      obtain ⟨sl, b, hp, hb⟩ := ht
      have hbl : b.length ≤ l.length := by
        rcases hb with ⟨e, _, _, _, h5⟩ | ⟨_, _, rfl⟩
        · have := end0_le e; omega
        · exact Nat.zero_le _
      have hm := mid0_le l
      have htl : (S (l.take (mid0 l))).length ≤ sizeLine := by rw [S_len, List.length_take]; exact Nat.le_trans (by omega : _ ≤ 20000) (by decide)
      have hrow := rowAt_len (l := l) (i := fst0 l) hm
      refine ⟨_, rfl, ⟨_, rfl⟩, _, _, rfl, rfl, (by decide +kernel), hls, fun pt hpt => ?_⟩
      have s1 := AL.Same.new (o := .tup [.str (Txt.partition (S l) "/").1, .str (Txt.partition (S l) "/").2.1, .str (Txt.partition (S l) "/").2.2]) hpt
      refine ⟨pt, _, rfl, SqT.of upd_same, rfl, ?_⟩
      rw [hp] at s1 ⊢
      generalize hH1 : upd H pt (.tup [.str (S (l.take (mid0 l))), .str sl, .str (S b)]) = H1 at s1 ⊢
      refine ⟨_, _, rfl, _, _, rfl, _, _, rfl, rfl, ?_⟩
      refine ⟨_, rfl, ⟨_, rfl⟩, _, _, rfl, rfl, htl, ?_⟩
      rw [strip_top h1]
      refine ⟨_, rfl, (by show 2 ≤ sizeLine; decide), fun q2 hq2 => ?_⟩
      have s2 := s1.trans (AL.Same.new (o := .tup [.str (S (rowAt l (fst0 l) (mid0 l))), .str (S b)]) hq2)
      have h2t := upd_same (H := H1) (a := q2) (o := .tup [.str (S (rowAt l (fst0 l) (mid0 l))), .str (S b)])
      generalize hH2 : upd H1 q2 (.tup [.str (S (rowAt l (fst0 l) (mid0 l))), .str (S b)]) = H2 at s2 h2t ⊢
      refine ⟨q2, rfl, ⟨_, SqT.of h2t⟩, for_tup (K := K) (a := q2) (xs := [.str (S (rowAt l (fst0 l) (mid0 l))), .str (S b)]) (fun i σ H' => H' = H2 ∧ (∃ v, σ = [some (.str (S l)), some (.int ((wcol l : Nat) : Int)), some (.str (S (l.take (mid0 l)))), some (.str sl), some (.str (S b)), v]) ∧ (1 ≤ i → mid0 l - fst0 l ≤ 4000) ∧ (2 ≤ i → b.length ≤ 4000)) ⟨rfl, ⟨none, rfl⟩, fun z => by omega, fun z => by omega⟩ (fun i σ H' _ hh => by rw [hh.1]; exact SqT.of h2t) ?_ ?_⟩
      · rintro i y σ H' hy ⟨rfl, ⟨v, rfl⟩, k1, k2⟩
        match i, hy with
        | 0, hy =>
          cases hy
          have hrl : (S (rowAt l (fst0 l) (mid0 l))).length ≤ sizeLine := by rw [S_len, hrow]; exact Nat.le_trans (by omega : _ ≤ 20000) (by decide)
          refine ⟨_, rfl, _, rfl, hrl, _, _, rfl, rfl, _, rfl, ?_⟩
          rw [S_len, hrow]
          refine ite2 (fun hbig => ?_) (fun hbig => ?_)
          · have hbig' := of_decide_eq_true hbig
            rw [if_pos (by omega)] at er
            rw [er] at er0; cases er0
          · have hbig' : ¬ 4000 < mid0 l - fst0 l := fun z => hbig (decide_eq_true (by omega))
            exact ⟨rfl, ⟨_, rfl⟩, fun _ => by omega, fun z => by omega⟩
        | 1, hy =>
          cases hy
          have k1' := k1 (Nat.le_refl _)
          have hrl : (S b).length ≤ sizeLine := by rw [S_len]; exact Nat.le_trans (by omega : _ ≤ 20000) (by decide)
          refine ⟨_, rfl, _, rfl, hrl, _, _, rfl, rfl, _, rfl, ?_⟩
          rw [S_len]
          refine ite2 (fun hbig => ?_) (fun hbig => ?_)
          · have hbig' := of_decide_eq_true hbig
            rcases hb with ⟨e, _, _, _, h5⟩ | ⟨_, _, rfl⟩
            · rw [if_neg (by omega), if_pos e, if_pos (by omega)] at er
              rw [er] at er0; cases er0
            · exact absurd hbig' (by show ¬ (4000 : Int) < ((0 : Nat) : Int); decide)
          · have hbig' : ¬ 4000 < b.length := fun z => hbig (decide_eq_true (by omega))
            exact ⟨rfl, ⟨_, rfl⟩, fun _ => k1', fun z => by omega⟩
        | _ + 2, hy => cases hy
      · rintro σ H' ⟨rfl, ⟨v, rfl⟩, k1, k2⟩
        have k1' := k1 (by show 1 ≤ 2; decide)
        have k2' := k2 (by show 2 ≤ 2; decide)
        have htop := int_top h1 k1'
        rw [if_neg (by omega)] at er
        refine ⟨_, rfl, rfl, _, rfl, ?_⟩
        rcases hb with ⟨e, rfl, hbr, h3, h5⟩ | ⟨e, rfl, rfl⟩
        · refine ite2 (fun z => absurd (of_decide_eq_true z) (fun z => by injection z with z; rw [slashS, emptyS] at z; exact absurd (S_inj.mp z) (by decide))) (fun _ => ?_)
          rw [if_pos e, if_neg (by omega)] at er
          have hbi : intText? (S b) = some ((botV l : Nat) : Int) := by rw [hbr]; exact row_int (i := mid0 l + 1) h3 (slash_lt e) (by show end0 l - (mid0 l + 1) ≤ 4000; omega)
          have hbl2 : (S b).length ≤ sizeLine := by rw [S_len]; exact Nat.le_trans (by omega : _ ≤ 20000) (by decide)
          refine ⟨_, rfl, _, _, rfl, hbi, hbl2, rfl, _, rfl, ?_⟩
          refine ite2 (fun hz => ?_) (fun hz => ?_)
          · have hz' : botV l = 0 := vi_eq (j := 0) hz
            rw [if_pos hz'] at er
            rw [er] at er0; cases er0
          · have hz' : botV l ≠ 0 := vi_ne (j := 0) hz
            rw [if_neg hz'] at er
            refine ⟨_, rfl, _, _, rfl, htop, htl, _, rfl, _, _, rfl, hbi, hbl2, sgn l (topV l), botV l, rfl, .inl ⟨by rw [sgn_abs]; exact Nat.lt_trans (topV_lt k1') pow4000, by rw [Int.natAbs_natCast]; exact Nat.lt_trans (botV_lt e (by omega)) pow4000⟩, by omega, fun t ht => ?_⟩
            rw [lowI_pos]
            rw [er] at er0; cases er0
            have := q t _ ht s2
            unfold nrm
            rw [sgn_abs, sgn_div]
            exact this
        · refine iteT ?_
          rw [e, if_neg (by decide)] at er
          refine ⟨_, rfl, _, _, rfl, htop, htl, (by show 2 ≤ sizeLine; decide), fun t ht => ?_⟩
          rw [er] at er0; cases er0
          exact q t _ ht s2
end
end AL
set_option Elab.async false
set_option maxRecDepth 100000
set_option exponentiation.threshold 70000
set_option maxHeartbeats 1000000
namespace AL
open PySem PySem.Spec PyProof.Rows L2 RZ
section
variable {P : Program} {w : World} {K : PySem.W.Frag} {mg : Str → Option Value} {base : Heap}

theorem lettersS : ("abcdefghijklmnopqrstuvwxyz" : Str) = S [97, 98, 99, 100, 101, 102, 103, 104, 105, 106, 107, 108, 109, 110, 111, 112, 113, 114, 115, 116, 117, 118, 119, 120, 121, 122] := by kernel_rfl
theorem in_letters (c : Nat) : decide (c ∈ ("abcdefghijklmnopqrstuvwxyz" : Str).cps.toList) = isL c := by
  rw [lettersS, S_tl]
  unfold isL
  rw [← Bool.decide_and]
  refine decide_eq_decide.mpr ?_
  simp only [List.mem_cons, List.not_mem_nil, or_false]
  omega
theorem in_digits (c : Nat) : decide (c ∈ ("0123456789" : Str).cps.toList) = isD c := by
  rw [digitsS, S_tl, isD_mem]
/-- is_name(text) -/
def spNm : Sp := fun vs H Q _ => ∃ l : List Nat, vs = [.str (S l)] ∧ l.length ≤ 20000 ∧ ∀ H', Same H H' → Q (.bl (nmOk l)) H'
/-- is_exponent(text), the text of a power -/
def spEx : Sp := fun vs H Q _ => ∃ l : List Nat, vs = [.str (S l)] ∧ exOk l = true ∧ l.length ≤ 3 ∧ ∀ H', Same H H' → Q (.bl true) H'
/-- named_power(word), a word of units -/
def spNp : Sp := fun vs H Q _ => ∃ u : UW, vs = [.str (S u.tx)] ∧ u.Ok ∧ ∀ t H', Same H H' → H' t = some (.tup [.str (S u.nm), .int u.k]) → Q (.ref t) H'
theorem S_ix {l : List Nat} {i : Nat} : (S l).cps[i]? = l[i]? := by simp [S]
theorem S_sz {l : List Nat} : (S l).cps.size = l.length := by simp [S]
theorem str_ne {a b : List Nat} (h : a ≠ b) : decide (V.str (S a) = V.str (S b)) = false := decide_eq_false fun z => h (by injection z with z; exact S_inj.mp z)
theorem str_eq (a : List Nat) : decide (V.str (S a) = V.str (S a)) = true := decide_eq_true rfl
theorem nm_false {l : List Nat} (h : 12 < l.length) : nmOk l = false := by unfold nmOk; rw [decide_eq_false (by omega)]; rfl
theorem take_map_snoc {α β : Type} {l : List α} {i : Nat} {x : α} (f : α → β) (h : l[i]? = some x) : (l.take (i + 1)).map f = (l.take i).map f ++ [f x] := by
  rw [List.take_add_one, h, List.map_append]; rfl

abbrev stis_name : Stmt := top 25
theorem scis_name : FnScope ["text", "sign"] ["text"] (defScope stis_name) := ⟨rfl, rfl, rfl, by decide +kernel, rfl, by decide +kernel, by decide +kernel⟩
theorem okis_name (B : Blt mg) {CUnits : Addr} (Es : ErU K mg CUnits) {fis_name : Addr} {fdis_name : FuncData} (Dis_name : DefAt K mg "is_name" stis_name ["text"] fis_name fdis_name) : FnOk P w K mg base CX0 1 fis_name fdis_name ["text"] spNm := by
  obtain ⟨uD, hD, rD⟩ := Es.dig
  obtain ⟨uM, hM, rM⟩ := Es.most
  obtain ⟨uL, hL, rL⟩ := Es.lett
  obtain ⟨uN, hN, rN⟩ := Es.long
  obtain ⟨uB, hB, rB⟩ := Es.most6
  refine Dis_name.F.ok scis_name (fun vs H Q E h => ?_) (fun cdv A outer s H vs Q E hr h => ?_)
  · obtain ⟨l, rfl, _⟩ := h; rfl
  · have hu := hu_of hr
    refine ⟨_, (pss_cons (ps_if (PW.pt (pw_or (pt_cmpR op_eq (pv 0) pe_str (nomark _)) (pw_or (pt_cmpR op_gt (pe_callB call_len_str (by rfl) B.len_ (by decide +kernel) (pa_cons (pv 0) pa_nil)) (pe_glob rfl hN rN) (nomark _)) (pw_or1 (pt_cmpR op_notIn_sign (pe_ix ix_str (pv 0) pe_int (fun _ _ => rfl)) (pe_glob rfl hL rL) rfl))))) (pss_one (ps_ret pe_bl)) pss_nil)
    (pss_one (ps_ret (pe_callB (cr_all rfl) (by rfl) B.all_ (by decide +kernel) (pa_cons (pe_lc (own := [("sign", 1)]) (g := gName 1) (tt := tYes) rfl scis_name.nd (pi_str (pv 0)) (blkOk_by (own := [("sign", 1)]) (N := ["text", "sign"]) (sc := defScope stis_name) (by decide +kernel)) (fun _ _ _ _ _ => pg_name (i := 1) scis_name.nd rfl (Or.inl rfl)) (fun _ _ _ _ _ => pts_nil) (fun _ _ _ _ _ => (pe_or (pe_cmpR op_in_sign (pv 1) (pe_glob rfl hL rL) rfl) (pe_one (pe_cmpR op_in_sign (pv 1) (pe_glob rfl hD rD) rfl))))) pa_nil))))), ?_⟩
    obtain ⟨l, rfl, hl, q⟩ := h
    have hls : (S l).length ≤ sizeLine := by rw [S_len]; exact Nat.le_trans hl (by decide)
    refine ⟨_, rfl, rfl, _, rfl, ?_⟩
    cases l with
    | nil =>
      refine iteT ?_
      exact q H (Same.refl _)
    | cons c m =>
      have e0 : decide (V.str (S (c :: m)) = V.str "") = false := by rw [emptyS]; exact str_ne (by simp)
      rw [e0]
      refine iteF ?_
      refine ⟨_, rfl, _, rfl, hls, _, _, rfl, rfl, _, rfl, ?_⟩
      rw [S_len]
      refine ite2 (fun h1 => ?_) (fun h1 => ?_)
      · have := of_decide_eq_true h1
        have z := q H (Same.refl _)
        rw [nm_false (by omega)] at z
        exact z
      have h1' : ¬ ((((c :: m).length : Nat) : Int) > 12) := fun z => h1 (decide_eq_true z)
      have a0 : atI (S (c :: m)).cps.toList 0 = some c := atI_nat (show (c :: m)[0]? = some c from rfl)
      refine ⟨_, rfl, _, _, _, rfl, rfl, hls, a0, _, _, rfl, rfl, _, rfl, ?_⟩
      rw [in_letters]
      refine ite2 (fun h2 => ?_) (fun h2 => ?_)
      · have z := q H (Same.refl _)
        have e : nmOk (c :: m) = false := by
          have : isL c = false := by simpa using h2
          show (decide (_ ≤ 12) && (isL c && _)) = false
          rw [this]; simp
        rw [e] at z
        exact z
      have hc : isL c = true := by simpa using h2
      have en : nmOk (c :: m) = (c :: m).all isLD := by
        show (decide ((c :: m).length ≤ 12) && (isL c && _)) = _
        rw [hc, decide_eq_true (by omega)]; rfl
      rw [en] at q
      generalize c :: m = l at *
      refine ⟨_, rfl, _, rfl, fun D hD => ?_⟩
      refine lc_it (walk_str (z := S l)) (fun i H' => Same H H' ∧ H' D = some (.lst ((l.take i).map fun c => V.bl (isLD c)))) ⟨AL.Same.new hD, upd_same⟩ (fun _ _ _ _ => trivial) ?_ ?_
      · rintro i x H1 H' hi ⟨s, hd⟩ ⟨rfl, d, hd2, rfl⟩
        rw [S_ix] at hd2
        have ix : i < l.length := by rw [S_sz] at hi; exact hi
        refine ⟨rfl, ?_⟩
        refine ⟨_, rfl, _, _, rfl, rfl, _, rfl, ?_⟩
        rw [in_letters]
        have fin : ∀ b, b = isLD d → ∃ acc, H' D = some (HO.lst acc) ∧ acc.length < sizeLine ∧ Same H (upd H' D (.lst (acc ++ [V.bl b]))) ∧ (upd H' D (.lst (acc ++ [V.bl b]))) D = some (.lst ((l.take (i + 1)).map fun c => V.bl (isLD c))) := fun b hb => by
          refine ⟨_, hd, ?_, AL.Same.updn s hD, ?_⟩
          · rw [List.length_map, List.length_take]
            exact Nat.lt_of_le_of_lt (by omega : _ ≤ 20000) (by decide)
          · rw [upd_same, take_map_snoc _ hd2, hb]
        refine ite2 (fun h3 => ?_) (fun h3 => ?_)
        · exact fin true (by unfold isLD; rw [h3]; rfl)
        · refine ⟨_, rfl, _, _, rfl, rfl, ?_⟩
          rw [in_digits]
          exact fin (isD d) (by unfold isLD; rw [Bool.eq_false_iff.mpr h3]; rfl)
      · rintro H' ⟨s, hd⟩
        rw [S_sz, List.take_length] at hd
        refine ⟨D, l.map isLD, rfl, SqL.of (by rw [hd, List.map_map]; rfl), ?_⟩
        have z := q H' s
        rw [List.all_map]
        exact z
abbrev stis_exponent : Stmt := top 27
theorem scis_exponent : FnScope ["text", "digits", "sign"] ["text"] (defScope stis_exponent) := ⟨rfl, rfl, rfl, by decide +kernel, rfl, by decide +kernel, by decide +kernel⟩
theorem okis_exponent (B : Blt mg) {CUnits : Addr} (Es : ErU K mg CUnits) {fis_exponent : Addr} {fdis_exponent : FuncData} (Dis_exponent : DefAt K mg "is_exponent" stis_exponent ["text"] fis_exponent fdis_exponent) : FnOk P w K mg base CX0 1 fis_exponent fdis_exponent ["text"] spEx := by
  obtain ⟨uD, hD, rD⟩ := Es.dig
  obtain ⟨uM, hM, rM⟩ := Es.most
  obtain ⟨uL, hL, rL⟩ := Es.lett
  obtain ⟨uN, hN, rN⟩ := Es.long
  obtain ⟨uB, hB, rB⟩ := Es.most6
  refine Dis_exponent.F.ok scis_exponent (fun vs H Q E h => ?_) (fun cdv A outer s H vs Q E hr h => ?_)
  · obtain ⟨l, rfl, _⟩ := h; rfl
  · have hu := hu_of hr
    refine ⟨_, (Evl.pss_cut (ps_set (i := 1) scis_exponent.nd rfl (Or.inl rfl) (pe_ifExp (pt_val (pe_m1 PySem.F.slot_str_startswith PySem.F.type_str_startswith mt_startswith (pv 0) pe_str)) (pe_slice sl_str (pv 0) (po_some pe_int) po_none) (pv 0)))
    (pss_cons (ps_if (PW.pt (pw_or (pt_cmpR op_notIn_seq (pe_callB call_len_str (by rfl) B.len_ (by decide +kernel) (pa_cons (pv 1) pa_nil)) (pe_tup (pa_cons pe_int (pa_cons pe_int pa_nil))) rfl) (pw_or1 (pt_not (pt_val (pe_callB (cr_all rfl) (by rfl) B.all_ (by decide +kernel) (pa_cons (pe_lc (own := [("sign", 2)]) (g := gName 2) (tt := tYes) rfl scis_exponent.nd (pi_str (pv 1)) (blkOk_by (own := [("sign", 2)]) (N := ["text", "digits", "sign"]) (sc := defScope stis_exponent) (by decide +kernel)) (fun _ _ _ _ _ => pg_name (i := 2) scis_exponent.nd rfl (Or.inl rfl)) (fun _ _ _ _ _ => pts_nil) (fun _ _ _ _ _ => (pe_cmpR op_in_sign (pv 2) (pe_glob rfl hD rD) rfl))) pa_nil))))))) (pss_one (ps_ret pe_bl)) pss_nil)
    (pss_one (ps_ret (pe_or (pe_cmpR op_eq (pv 0) pe_str (nomark _)) (pe_one (pe_cmpR op_ne (pe_ix ix_str (pv 1) pe_int (fun _ _ => rfl)) pe_str (nomark _)))))))), ?_⟩
    obtain ⟨l, rfl, hx, hl, q⟩ := h
    have hls : (S l).length ≤ sizeLine := by rw [S_len]; exact Nat.le_trans hl (by decide)
    refine ⟨fun σ' H' => H' = H ∧ σ' = [some (.str (S l)), some (.str (S (l.drop (neg l).toNat))), none], ?_, ?_⟩
    · refine ⟨_, rfl, ⟨_, rfl⟩, _, _, rfl, rfl, _, rfl, ?_⟩
      rw [starts_minus]
      refine ite2 (fun hn => ?_) (fun hn => ?_)
      · refine ⟨_, rfl, _, rfl, _, rfl, hls, rfl, ?_⟩
        rw [hn]
        show [some (V.str (S l)), some (V.str (cutS (S l) (some ((1 : Nat) : Int)) none)), none] = _
        rw [cut_from l 1]; rfl
      · refine ⟨_, rfl, rfl, ?_⟩
        rw [Bool.eq_false_iff.mpr hn]; rfl
    rintro σ1 H1 ⟨rfl, rfl⟩
    unfold exOk at hx
    generalize hd : l.drop (neg l).toNat = d at hx ⊢
    have hdl : d.length ≤ 3 := by rw [← hd, List.length_drop]; omega
    have hds : (S d).length ≤ sizeLine := by rw [S_len]; exact Nat.le_trans hdl (by decide)
    simp only [Bool.and_eq_true, Bool.or_eq_true, decide_eq_true_eq] at hx
    obtain ⟨h12, hall, hz⟩ := hx
    refine ⟨_, rfl, _, rfl, hds, (by show 2 ≤ sizeLine; decide), fun p hp => ?_⟩
    refine ⟨p, _, rfl, .inr (SqT.of upd_same), rfl, rfl, _, rfl, ?_⟩
    have e1 : (if true = true then !inV (V.int ((S d).length : Nat)) [V.int 1, V.int 2] else inV (V.int ((S d).length : Nat)) [V.int 1, V.int 2]) = false := by
      rw [if_pos rfl, S_len]
      rcases h12 with h | h <;> rw [h] <;> rfl
    rw [e1]
    refine iteF ?_
    have s0 := AL.Same.new (o := .tup [.int 1, .int 2]) hp
    generalize hH2 : upd H1 p (.tup [.int 1, .int 2]) = H2 at s0 ⊢
    refine ⟨_, rfl, _, rfl, fun D hD => ?_⟩
    refine lc_it (walk_str (z := S d)) (fun i H' => Same H2 H' ∧ H' D = some (.lst ((d.take i).map fun c => V.bl (isD c)))) ⟨AL.Same.new hD, upd_same⟩ (fun _ _ _ _ => trivial) ?_ ?_
    · rintro i x H3 H' hi ⟨s, hd⟩ ⟨rfl, c, hd2, rfl⟩
      rw [S_ix] at hd2
      have ix : i < d.length := by rw [S_sz] at hi; exact hi
      refine ⟨rfl, ?_⟩
      refine ⟨_, rfl, _, _, rfl, rfl, ?_⟩
      rw [in_digits]
      refine ⟨_, hd, ?_, AL.Same.updn s hD, ?_⟩
      · rw [List.length_map, List.length_take]
        exact Nat.lt_of_le_of_lt (by omega : _ ≤ 20000) (by decide)
      · rw [upd_same, take_map_snoc _ hd2]
    rintro H' ⟨s, hdd⟩
    rw [S_sz, List.take_length] at hdd
    refine ⟨D, d.map isD, rfl, SqL.of (by rw [hdd, List.map_map]; rfl), _, rfl, ?_⟩
    rw [List.all_map]
    have e2 : (d.all (id ∘ isD)) = true := hall
    rw [e2]
    refine iteF ?_
    refine ⟨_, rfl, rfl, _, rfl, ?_⟩
    refine ite2 (fun h1 => q _ (s0.trans s)) (fun h1 => ?_)
    have h1' : l ≠ [48] := fun z => by rw [z, show ("0" : Str) = S [48] by kernel_rfl] at h1; exact h1 (str_eq _)
    have d0 : d[0]? ≠ some 48 := hz.resolve_left h1'
    have dl : 0 < d.length := by rcases h12 with h | h <;> omega
    have ea : atI (S d).cps.toList 0 = some d[0] := atI_nat (show d[0]? = some d[0] from List.getElem?_eq_getElem dl)
    refine ⟨_, rfl, _, _, _, rfl, rfl, hds, ea, rfl, ?_⟩
    have e3 : (!decide (V.str (S [d[0]]) = V.str "0")) = true := by
      rw [show ("0" : Str) = S [48] by kernel_rfl, str_ne (fun z => d0 (by rw [List.getElem?_eq_getElem dl]; simpa using z))]; rfl
    show Q (.bl (!decide (V.str (S [d[0]]) = V.str "0"))) _
    rw [e3]
    exact q _ (s0.trans s)
abbrev stnamed_power : Stmt := top 28
theorem scnamed_power : FnScope ["word", "name", "sign", "exponent"] ["word"] (defScope stnamed_power) := ⟨rfl, rfl, rfl, by decide +kernel, rfl, by decide +kernel, by decide +kernel⟩
theorem oknamed_power (B : Blt mg) {CUnits : Addr} (Es : ErU K mg CUnits) {fis_exponent : Addr} {fdis_exponent : FuncData} (Dis_exponent : DefAt K mg "is_exponent" stis_exponent ["text"] fis_exponent fdis_exponent) {fis_name : Addr} {fdis_name : FuncData} (Dis_name : DefAt K mg "is_name" stis_name ["text"] fis_name fdis_name) {fnamed_power : Addr} {fdnamed_power : FuncData} (Dnamed_power : DefAt K mg "named_power" stnamed_power ["word"] fnamed_power fdnamed_power) : FnOk P w K mg base CX0 2 fnamed_power fdnamed_power ["word"] spNp := by
  obtain ⟨uD, hD, rD⟩ := Es.dig
  obtain ⟨uM, hM, rM⟩ := Es.most
  obtain ⟨uL, hL, rL⟩ := Es.lett
  obtain ⟨uN, hN, rN⟩ := Es.long
  obtain ⟨uB, hB, rB⟩ := Es.most6
  have OKis_exponent : FnOk P w K mg base CX0 1 fis_exponent fdis_exponent ["text"] spEx := okis_exponent B Es Dis_exponent
  have OKis_name : FnOk P w K mg base CX0 1 fis_name fdis_name ["text"] spNm := okis_name B Es Dis_name
  refine Dnamed_power.F.ok scnamed_power (fun vs H Q E h => ?_) (fun cdv A outer s H vs Q E hr h => ?_)
  · obtain ⟨u, rfl, _⟩ := h; rfl
  · have hu := hu_of hr
    refine ⟨_, (pss_cons (ps_asg (pe_partition (pv 0) pe_str) (pg_tup rfl (pgs_cons (pg_name (i := 1) scnamed_power.nd rfl (Or.inl rfl)) (pgs_cons (pg_name (i := 2) scnamed_power.nd rfl (Or.inl rfl)) (pgs_cons (pg_name (i := 3) scnamed_power.nd rfl (Or.inl rfl)) pgs_nil)))))
    (pss_cons (ps_if (pt_not (pt_val (pe_call OKis_name (hr.mono (by decide)) rfl Dis_name.m Dis_name.F.kp Dis_name.b .nil pass0 (pa_cons (pv 1) pa_nil)))) (pss_one (ps_ret pe_non)) pss_nil)
    (pss_cons (ps_if (pt_cmpR op_eq (pv 2) pe_str (nomark _)) (pss_one (ps_ret (pe_tup (pa_cons (pv 1) (pa_cons pe_int pa_nil))))) pss_nil)
    (pss_cons (ps_if (pt_not (pt_val (pe_call OKis_exponent (hr.mono (by decide)) rfl Dis_exponent.m Dis_exponent.F.kp Dis_exponent.b .nil pass0 (pa_cons (pv 3) pa_nil)))) (pss_one (ps_ret pe_non)) pss_nil)
    (pss_one (ps_ret (pe_tup (pa_cons (pv 1) (pa_cons (pe_callTy (call_int_strL Es.nodig) (by rfl) B.int_ (by decide +kernel) (pa_cons (pv 3) pa_nil)) pa_nil))))))))), ?_⟩
    obtain ⟨u, rfl, ok, q⟩ := h
    have tl := tx_len ok
    have hls : (S u.tx).length ≤ sizeLine := by rw [S_len]; exact Nat.le_trans tl.2 (by decide)
    have dk := dg_ok ok.lo ok.hi
    have nl := nm_len ok.nm
    obtain ⟨sl, b, hp, hb⟩ : ∃ (sl b : List Nat), Txt.partition (S u.tx) "^" = (S u.nm, S sl, S b) ∧ ((u.e = true ∧ sl = [94] ∧ b = dg u.k) ∨ (u.e = false ∧ sl = [] ∧ b = [])) := by
      cases e : u.e with
      | true => exact ⟨[94], dg u.k, by rw [part_hat ok e, hatS], .inl ⟨rfl, rfl, rfl⟩⟩
      | false => exact ⟨[], [], by rw [show u.tx = u.nm by unfold UW.tx; rw [e]; rfl, part_noHat ok.nm, emptyS], .inr ⟨rfl, rfl, rfl⟩⟩
    refine ⟨_, rfl, ⟨_, rfl⟩, _, _, rfl, rfl, (by decide +kernel), hls, fun pt hpt => ?_⟩
    rw [hp]
    have s1 := AL.Same.new (o := .tup [.str (S u.nm), .str (S sl), .str (S b)]) hpt
    refine ⟨pt, _, rfl, SqT.of upd_same, rfl, ?_⟩
    generalize hH1 : upd H pt (.tup [.str (S u.nm), .str (S sl), .str (S b)]) = H1 at s1 ⊢
    refine ⟨_, _, rfl, _, _, rfl, _, _, rfl, rfl, ?_⟩
    refine ⟨_, rfl, u.nm, rfl, by omega, fun H2 s2 => ?_⟩
    rw [ok.nm]
    refine ⟨_, rfl, ?_⟩
    refine iteF ?_
    have s12 := s1.trans s2
    refine ⟨_, rfl, rfl, _, rfl, ?_⟩
    rcases hb with ⟨e, rfl, rfl⟩ | ⟨e, rfl, rfl⟩
    · rw [emptyS, str_ne (by decide)]
      refine iteF ?_
      refine ⟨_, rfl, dg u.k, rfl, dk.2.1, dk.2.2.1, fun H3 s3 => ?_⟩
      refine ⟨_, rfl, ?_⟩
      refine iteF ?_
      have hbl : (S (dg u.k)).length ≤ sizeLine := by rw [S_len]; exact Nat.le_trans dk.2.2.1 (by decide)
      refine ⟨_, rfl, _, rfl, _, _, rfl, dk.1, hbl, (by show 2 ≤ sizeLine; decide), fun t ht => ?_⟩
      exact q t _ ((s12.trans s3).trans (AL.Same.new ht)) upd_same
    · rw [emptyS, str_eq]
      refine iteT ?_
      refine ⟨_, rfl, (by show 2 ≤ sizeLine; decide), fun t ht => ?_⟩
      refine q t _ (s12.trans (AL.Same.new ht)) ?_
      rw [ok.one e]
      exact upd_same
end
end AL
set_option Elab.async false
set_option maxRecDepth 100000
set_option exponentiation.threshold 70000
set_option maxHeartbeats 1000000
/-! Powers of ratios with any whole number (pieces of k15's mathematics). -/
namespace AL
open PySem PySem.Spec PyProof.Rows L2
theorem mkdiv (a : Int) (b : Nat) : mkRat a b = (a : Rat) / (b : Rat) := by
  rw [← Rat.divInt_ofNat, Rat.divInt_eq_div]
  exact congrArg (fun z : Rat => (a : Rat) / z) (Rat.intCast_natCast b)
theorem ndd (x : Rat) : (x.num : Rat) / (x.den : Rat) = x := by
  rw [← mkdiv, Rat.mkRat_self]
theorem div_rat (x y : Rat) (h : y ≠ 0) : ovR x.num x.den y.num y.den = ((x / y).num, (x / y).den) := by
  have hn : y.num ≠ 0 := fun z => h (Rat.num_eq_zero.mp z)
  have dx : (x.den : Rat) ≠ 0 := by have := x.den_nz; exact_mod_cast this
  have dy : (y.den : Rat) ≠ 0 := by have := y.den_nz; exact_mod_cast this
  have ny : (y.num : Rat) ≠ 0 := by exact_mod_cast hn
  have key : (x.num * y.den : Rat) / (x.den * y.num) = x / y := by
    conv => rhs; rw [← ndd x, ← ndd y]
    grind
  unfold ovR
  split
  · rename_i w
    rw [nrm_rat _ (Nat.mul_pos (low_rat x).1 (by omega))]
    have e : ((y.num.natAbs : Nat) : Rat) = -(y.num : Rat) := by
      have : ((y.num.natAbs : Nat) : Int) = -y.num := by omega
      exact_mod_cast this
    have : mkRat (-(x.num * (y.den : Int))) (x.den * y.num.natAbs) = x / y := by
      rw [mkdiv, ← key, Rat.natCast_mul, e]
      have : ((-(x.num * (y.den : Int)) : Int) : Rat) = -(x.num * y.den : Rat) := by simp [Rat.intCast_neg, Rat.intCast_mul, Rat.intCast_natCast]
      rw [this]
      grind
    rw [this]
  · rename_i w
    rw [nrm_rat _ (Nat.mul_pos (low_rat x).1 (by omega))]
    have e : ((y.num.natAbs : Nat) : Rat) = (y.num : Rat) := by
      have : ((y.num.natAbs : Nat) : Int) = y.num := by omega
      exact_mod_cast this
    have : mkRat (x.num * (y.den : Int)) (x.den * y.num.natAbs) = x / y := by
      rw [mkdiv, ← key, Rat.natCast_mul, e]
      have : ((x.num * (y.den : Int) : Int) : Rat) = (x.num * y.den : Rat) := by simp [Rat.intCast_mul, Rat.intCast_natCast]
      rw [this]
    rw [this]
theorem pow_rat (x : Rat) (k : Nat) : mkRat (x.num ^ k) (x.den ^ k) = x ^ k := by
  have e := Rat.mkRat_self (x ^ k)
  rw [Rat.num_pow, Rat.den_pow] at e
  exact e

/-- a power with any whole number -/
def zpw (x : Rat) (n : Int) : Rat := if n < 0 then (x ^ n.natAbs)⁻¹ else x ^ n.natAbs
theorem pw_zpw (x : Rat) (n : Int) (h : x ≠ 0) : pwR x.num x.den n = ((zpw x n).num, (zpw x n).den) := by
  unfold pwR zpw
  by_cases w : n < 0
  · rw [if_pos w, if_pos w]
    have hn : x.num ≠ 0 := fun z => h (Rat.num_eq_zero.mp z)
    have hp : x.num ^ n.natAbs ≠ 0 := Int.pow_ne_zero hn
    have y0 : ((x.num ^ n.natAbs : Int) : Rat) ≠ 0 := by exact_mod_cast hp
    have e := div_rat ((((x.den ^ n.natAbs : Nat) : Int) : Rat)) ((x.num ^ n.natAbs : Int) : Rat) y0
    rw [Rat.num_intCast, Rat.den_intCast, Rat.num_intCast, Rat.den_intCast] at e
    rw [e]
    have d0 : ((x.den ^ n.natAbs : Nat) : Rat) ≠ 0 := by
      have : x.den ^ n.natAbs ≠ 0 := Nat.ne_of_gt (Nat.pow_pos x.den_pos)
      exact_mod_cast this
    have k : x ^ n.natAbs = ((x.num ^ n.natAbs : Int) : Rat) / ((x.den ^ n.natAbs : Nat) : Rat) := by
      rw [← mkdiv, pow_rat]
    have k2 : (x ^ n.natAbs)⁻¹ = (((x.den ^ n.natAbs : Nat) : Int) : Rat) / ((x.num ^ n.natAbs : Int) : Rat) := by
      rw [k, Rat.intCast_natCast]
      generalize ((x.num ^ n.natAbs : Int) : Rat) = a at y0 ⊢
      generalize ((x.den ^ n.natAbs : Nat) : Rat) = b at d0 ⊢
      grind
    rw [k2]
  · rw [if_neg w, if_neg w, Rat.num_pow, Rat.den_pow]

def Lim (b : Nat) (x : Rat) : Prop := x.num.natAbs ≤ b ∧ x.den ≤ b
theorem Lim.mul {a b : Nat} {x y : Rat} (hx : Lim a x) (hy : Lim b y) : Lim (a * b) (x * y) := by
  have e := mul_rat x y
  unfold mulR at e
  have w := nrm_le (x.num * y.num) (x.den * y.den)
  rw [e] at w
  refine ⟨Nat.le_trans w.1 ?_, Nat.le_trans w.2 (Nat.mul_le_mul hx.2 hy.2)⟩
  rw [Int.natAbs_mul]
  exact Nat.mul_le_mul hx.1 hy.1

theorem inv_ne0 {x : Rat} (h : x ≠ 0) : x⁻¹ ≠ 0 := by grind
theorem zpw_zero (x : Rat) : zpw x 0 = 1 := by unfold zpw; rw [if_neg (by decide)]; exact Rat.pow_zero x
theorem zpw_nat (x : Rat) (k : Nat) : zpw x (k : Int) = x ^ k := by unfold zpw; rw [if_neg (by omega), Int.natAbs_natCast]
theorem pow_ne0 {x : Rat} (h : x ≠ 0) : ∀ k : Nat, x ^ k ≠ 0
  | 0 => by rw [Rat.pow_zero]; decide +kernel
  | k + 1 => by
    rw [Rat.pow_succ]
    exact fun z => (Rat.mul_eq_zero.mp z).elim (pow_ne0 h k) h
theorem zpw_ne0 {x : Rat} (h : x ≠ 0) (n : Int) : zpw x n ≠ 0 := by
  unfold zpw
  split
  · exact inv_ne0 (pow_ne0 h _)
  · exact pow_ne0 h _
theorem zpw_succ {x : Rat} (h : x ≠ 0) (n : Int) : zpw x (n + 1) = zpw x n * x := by
  rcases Int.lt_or_le n 0 with w | w
  · obtain ⟨k, rfl⟩ : ∃ k : Nat, n = -((k : Int) + 1) := ⟨(-n - 1).toNat, by omega⟩
    have e1 : zpw x (-((k : Int) + 1)) = (x ^ (k + 1))⁻¹ := by
      unfold zpw
      rw [if_pos (by omega), show (-((k : Int) + 1)).natAbs = k + 1 by omega]
    have e2 : zpw x (-((k : Int) + 1) + 1) = (x ^ k)⁻¹ := by
      rcases Nat.eq_zero_or_pos k with z | z
      · subst z
        rw [show -(((0 : Nat) : Int) + 1) + 1 = 0 by omega, zpw_zero, Rat.pow_zero]
        decide +kernel
      · unfold zpw
        rw [if_pos (by omega), show (-((k : Int) + 1) + 1).natAbs = k by omega]
    rw [e1, e2, Rat.pow_succ]
    have p := pow_ne0 h k
    generalize x ^ k = y at p ⊢
    grind
  · obtain ⟨k, rfl⟩ := Int.eq_ofNat_of_zero_le w
    rw [show (k : Int) + 1 = ((k + 1 : Nat) : Int) by omega, zpw_nat, zpw_nat, Rat.pow_succ]
theorem zpw_addN {x : Rat} (h : x ≠ 0) (n : Int) : ∀ k : Nat, zpw x (n + (k : Int)) = zpw x n * x ^ k
  | 0 => by rw [Rat.pow_zero, Rat.mul_one, Int.natCast_zero, Int.add_zero]
  | k + 1 => by
    rw [show n + ((k + 1 : Nat) : Int) = (n + (k : Int)) + 1 by omega, zpw_succ h, zpw_addN h n k, Rat.pow_succ, Rat.mul_assoc]
theorem zpw_add {x : Rat} (h : x ≠ 0) (a b : Int) : zpw x (a + b) = zpw x a * zpw x b := by
  rcases Int.lt_or_le b 0 with w | w
  · obtain ⟨k, rfl⟩ : ∃ k : Nat, b = -((k : Int)) := ⟨(-b).toNat, by omega⟩
    have kp : 0 < k := by omega
    have e := zpw_addN h (a + -(k : Int)) k
    rw [show a + -(k : Int) + (k : Int) = a by omega] at e
    have e2 : zpw x (-(k : Int)) = (x ^ k)⁻¹ := by
      unfold zpw
      rw [if_pos (by omega), show (-(k : Int)).natAbs = k by omega]
    rw [e, e2]
    have p := pow_ne0 h k
    generalize x ^ k = y at p ⊢
    generalize zpw x (a + -(k : Int)) = z
    grind
  · obtain ⟨k, rfl⟩ := Int.eq_ofNat_of_zero_le w
    rw [zpw_addN h, zpw_nat]
theorem zpw_mul {x : Rat} (h : x ≠ 0) (a : Int) : ∀ k : Nat, zpw x ((k : Int) * a) = zpw x a ^ k
  | 0 => by rw [Int.natCast_zero, Int.zero_mul, zpw_zero, Rat.pow_zero]
  | k + 1 => by
    rw [show ((k + 1 : Nat) : Int) * a = (k : Int) * a + a by rw [Int.natCast_add, Int.natCast_one, Int.add_mul, Int.one_mul], zpw_add h, zpw_mul h a k, Rat.pow_succ]
end AL
set_option Elab.async false
set_option maxRecDepth 100000
set_option exponentiation.threshold 70000
set_option maxHeartbeats 1000000
/-! What names of units measure. -/
namespace AL
open PySem PySem.Spec PyProof.Rows L2
structure Me where
  nm : List Nat
  row : List Int
  sz : Rat
def meOf (ms : List Me) (l : List Nat) : Option Me := ms.find? fun m => decide (m.nm = l)
def rowOf (ms : List Me) (l : List Nat) : List Int := match meOf ms l with | some m => m.row | none => []
def szOf (ms : List Me) (l : List Nat) : Rat := match meOf ms l with | some m => m.sz | none => 1
abbrev Pw := List (List Nat × Int)
def addP : Pw → List Nat → Int → Pw
  | [], l, k => [(l, k)]
  | (x, j) :: r, l, k => if x = l then (x, j + k) :: r else (x, j) :: addP r l k
def grp (us : Pw) : Pw := us.foldl (fun acc p => addP acc p.1 p.2) []
theorem grp_snoc (us : Pw) (p : List Nat × Int) : grp (us ++ [p]) = addP (grp us) p.1 p.2 := by unfold grp; rw [List.foldl_append]; rfl
def lsum (f : List Nat → Int) : Pw → Int
  | [] => 0
  | p :: r => p.2 * f p.1 + lsum f r
theorem lsum_snoc (f : List Nat → Int) (us : Pw) (p : List Nat × Int) : lsum f (us ++ [p]) = lsum f us + p.2 * f p.1 := by
  induction us with
  | nil => simp [lsum]
  | cons x r ih => simp only [List.cons_append, lsum, ih]; omega
theorem lsum_add (f : List Nat → Int) (us : Pw) (l : List Nat) (k : Int) : lsum f (addP us l k) = lsum f us + k * f l := by
  induction us with
  | nil => simp [lsum, addP]
  | cons x r ih =>
    obtain ⟨x, j⟩ := x
    unfold addP
    split
    · rename_i h; subst h; simp only [lsum, Int.add_mul]; omega
    · simp only [lsum, ih]; omega
theorem snoc_ind {α : Type} {P : List α → Prop} (h0 : P []) (h1 : ∀ l x, P l → P (l ++ [x])) : ∀ l, P l := by
  intro l
  rw [← List.reverse_reverse l]
  induction l.reverse with
  | nil => exact h0
  | cons x r ih => rw [List.reverse_cons]; exact h1 _ _ ih
theorem lsum_grp (f : List Nat → Int) (us : Pw) : lsum f (grp us) = lsum f us := by
  induction us using snoc_ind with
  | h0 => rfl
  | h1 l x ih => rw [grp_snoc, lsum_add, ih, lsum_snoc]
def szV (ms : List Me) : Pw → Rat
  | [] => 1
  | p :: r => zpw (szOf ms p.1) p.2 * szV ms r
theorem szV_snoc (ms : List Me) (us : Pw) (p : List Nat × Int) : szV ms (us ++ [p]) = szV ms us * zpw (szOf ms p.1) p.2 := by
  induction us with
  | nil => simp only [List.nil_append, szV, Rat.mul_one, Rat.one_mul]
  | cons x r ih => simp only [List.cons_append, szV, ih, Rat.mul_assoc]
theorem szV_add (ms : List Me) (nz : ∀ l, szOf ms l ≠ 0) (us : Pw) (l : List Nat) (k : Int) : szV ms (addP us l k) = szV ms us * zpw (szOf ms l) k := by
  induction us with
  | nil => simp only [addP, szV, Rat.mul_one, Rat.one_mul]
  | cons x r ih =>
    obtain ⟨x, j⟩ := x
    unfold addP
    split
    · rename_i h; subst h; simp only [szV, zpw_add (nz _)]; grind
    · simp only [szV, ih]; grind
theorem szV_grp (ms : List Me) (nz : ∀ l, szOf ms l ≠ 0) (us : Pw) : szV ms (grp us) = szV ms us := by
  induction us using snoc_ind with
  | h0 => rfl
  | h1 l x ih => rw [grp_snoc, szV_add _ nz, ih, szV_snoc]
def exV (ms : List Me) (n : Nat) (us : Pw) : List Int := (List.range n).map fun j => lsum (fun l => (rowOf ms l).getD j 0) us
theorem exV_grp (ms : List Me) (n : Nat) (us : Pw) : exV ms n (grp us) = exV ms n us := by unfold exV; simp only [lsum_grp]
theorem exV_len (ms : List Me) (n : Nat) (us : Pw) : (exV ms n us).length = n := by unfold exV; rw [List.length_map, List.length_range]
theorem exV_nil (ms : List Me) (n : Nat) : exV ms n [] = List.replicate n 0 := by
  unfold exV
  refine List.ext_getElem? fun i => ?_
  by_cases h : i < n <;> simp [lsum, h]
theorem exV_snoc (ms : List Me) (n : Nat) (us : Pw) (p : List Nat × Int) (h : (rowOf ms p.1).length = n) : List.zipWith (fun o w => o + p.2 * w) (exV ms n us) (rowOf ms p.1) = exV ms n (us ++ [p]) := by
  refine List.ext_getElem? fun i => ?_
  unfold exV
  rw [List.getElem?_zipWith]
  by_cases hi : i < n
  · have hr : i < (rowOf ms p.1).length := by omega
    simp [hi, hr, lsum_snoc, List.getD]
  · simp [hi]
def wt : Pw → Nat
  | [] => 0
  | p :: r => p.2.natAbs + wt r
theorem wt_snoc (us : Pw) (p : List Nat × Int) : wt (us ++ [p]) = wt us + p.2.natAbs := by
  induction us with
  | nil => simp [wt]
  | cons x r ih => simp only [List.cons_append, wt, ih]; omega
theorem wt_add (us : Pw) (l : List Nat) (k : Int) : wt (addP us l k) ≤ wt us + k.natAbs := by
  induction us with
  | nil => simp [wt, addP]
  | cons x r ih =>
    obtain ⟨x, j⟩ := x
    unfold addP
    split
    · simp only [wt]; omega
    · simp only [wt]; omega
theorem wt_grp (us : Pw) : wt (grp us) ≤ wt us := by
  induction us using snoc_ind with
  | h0 => exact Nat.le_refl _
  | h1 l x ih => rw [grp_snoc, wt_snoc]; exact Nat.le_trans (wt_add _ _ _) (by omega)
theorem wt_take (us : Pw) (i : Nat) : wt (us.take i) ≤ wt us := by
  induction us generalizing i with
  | nil => simp
  | cons x r ih =>
    cases i with
    | zero => simp [wt]
    | succ i => simp only [List.take_succ_cons, wt]; have := ih i; omega
theorem wt_mem {us : Pw} {p : List Nat × Int} (h : p ∈ us) : p.2.natAbs ≤ wt us := by
  induction us with
  | nil => cases h
  | cons x r ih =>
    rcases List.mem_cons.mp h with rfl | h
    · simp only [wt]; omega
    · have := ih h; simp only [wt]; omega
theorem lim_zp {x : Rat} {n : Int} {E : Nat} (h : x ≠ 0) (sx : Lim (2 ^ E) x) : Lim (2 ^ (E * n.natAbs)) (zpw x n) := by
  have e := pw_zpw x n h
  have num : (zpw x n).num = (pwR x.num x.den n).1 := by rw [e]
  have den : (zpw x n).den = (pwR x.num x.den n).2 := by rw [e]
  have a1 : x.num.natAbs ^ n.natAbs ≤ 2 ^ (E * n.natAbs) := by rw [Nat.pow_mul]; exact Nat.pow_le_pow_left sx.1 _
  have b1 : x.den ^ n.natAbs ≤ 2 ^ (E * n.natAbs) := by rw [Nat.pow_mul]; exact Nat.pow_le_pow_left sx.2 _
  have nn : x.num ≠ 0 := fun z => h (Rat.num_eq_zero.mp z)
  unfold Lim
  by_cases w : n < 0
  · have hx : zpw x n = (x ^ n.natAbs)⁻¹ := by unfold zpw; rw [if_pos w]
    have hy : x ^ n.natAbs ≠ 0 := pow_ne0 h _
    have p : (x ^ n.natAbs).num = x.num ^ n.natAbs ∧ (x ^ n.natAbs).den = x.den ^ n.natAbs := by
      have e2 := pw_zpw x (n.natAbs : Int) h
      rw [zpw_nat] at e2
      unfold pwR at e2
      rw [if_neg (by omega), Int.natAbs_natCast] at e2
      exact ⟨(congrArg Prod.fst e2).symm, (congrArg Prod.snd e2).symm⟩
    rw [hx, Rat.num_inv, Rat.den_inv, p.1, p.2]
    have s1 : (Int.sign (x.num ^ n.natAbs)).natAbs ≤ 1 := by rcases Int.sign_trichotomy (x.num ^ n.natAbs) with z | z | z <;> rw [z] <;> decide
    refine ⟨?_, ?_⟩
    · rw [Int.natAbs_mul, Int.natAbs_natCast]
      exact Nat.le_trans (Nat.mul_le_mul_right _ s1) (by rw [Nat.one_mul]; exact b1)
    · split
      · exact Nat.one_le_two_pow
      · rw [Int.natAbs_pow]; exact a1
  · rw [num, den]
    unfold pwR
    rw [if_neg w]
    refine ⟨?_, b1⟩
    rw [Int.natAbs_pow]; exact a1
theorem lim_up {E F : Nat} {x : Rat} (h : Lim (2 ^ E) x) (l : E ≤ F) : Lim (2 ^ F) x := ⟨Nat.le_trans h.1 (Nat.pow_le_pow_right (by decide) l), Nat.le_trans h.2 (Nat.pow_le_pow_right (by decide) l)⟩
theorem lim_szV {ms : List Me} {E : Nat} (us : Pw) (h : ∀ p ∈ us, szOf ms p.1 ≠ 0 ∧ Lim (2 ^ E) (szOf ms p.1)) : Lim (2 ^ (E * wt us)) (szV ms us) := by
  induction us with
  | nil => simp only [szV, wt]; exact ⟨Nat.one_le_two_pow, Nat.one_le_two_pow⟩
  | cons x r ih =>
    have hx := h x (List.mem_cons_self ..)
    have hr := ih fun p hp => h p (List.mem_cons_of_mem _ hp)
    simp only [szV, wt]
    rw [Nat.mul_add, Nat.pow_add]
    exact (lim_zp hx.1 hx.2).mul hr
theorem lim_mid {E : Nat} {x : Rat} (h : Lim (2 ^ E) x) (l : E < 6000) : Mid x.num x.den := ⟨Nat.pos_of_ne_zero x.den_nz, Nat.lt_of_le_of_lt h.1 (Nat.pow_lt_pow_right (by decide) l), Nat.lt_of_le_of_lt h.2 (Nat.pow_lt_pow_right (by decide) l)⟩
/-! ### in the heap -/
abbrev kS (l : List Nat) : Key := Sum.inr (S l)
def MeV (H : Hp) (v : V) (m : Me) : Prop := ∃ t r s : Addr, v = .ref t ∧ H t = some (.tup [.ref r, .ref s]) ∧ H r = some (.tup (m.row.map V.int)) ∧ RQ H s m.sz
def MeAt (H : Hp) (d : Addr) (ms : List Me) : Prop := ∃ kvs, H d = some (.dK kvs) ∧ Paired (fun (kv : Key × V) (m : Me) => kv.1 = kS m.nm ∧ MeV H kv.2 m) kvs ms
theorem MeV.same {H H' : Hp} {v : V} {m : Me} (s : Same H H') (h : MeV H v m) : MeV H' v m := by
  obtain ⟨t, r, z, e, h1, h2, h3⟩ := h
  exact ⟨t, r, z, e, s _ _ h1, s _ _ h2, s _ _ h3⟩
theorem paired_imp {α β : Type} {F G : α → β → Prop} (k : ∀ a b, F a b → G a b) : ∀ {xs : List α} {ys : List β}, Paired F xs ys → Paired G xs ys
  | _, _, .nil => .nil
  | _, _, .cons h r => .cons (k _ _ h) (paired_imp k r)
theorem MeAt.same {H H' : Hp} {d : Addr} {ms : List Me} (s : Same H H') (h : MeAt H d ms) : MeAt H' d ms := by
  obtain ⟨kvs, h1, h2⟩ := h
  exact ⟨kvs, s _ _ h1, paired_imp (fun _ _ z => ⟨z.1, z.2.same s⟩) h2⟩
theorem kS_inj {a b : List Nat} : kS a = kS b ↔ a = b := ⟨fun h => S_inj.mp (Sum.inr.inj h), fun h => by rw [h]⟩
theorem me_val {H : Hp} {l : List Nat} : ∀ {kvs : List (Key × V)} {ms : List Me}, Paired (fun (kv : Key × V) (m : Me) => kv.1 = kS m.nm ∧ MeV H kv.2 m) kvs ms →
    (∀ m, meOf ms l = some m → ∃ v, valV kvs (kS l) = some v ∧ MeV H v m) ∧ (meOf ms l = none → valV kvs (kS l) = none)
  | _, _, .nil => ⟨fun m h => by simp [meOf] at h, fun _ => rfl⟩
  | _, _, .cons (a := kv) (b := m) h r => by
    have ih := me_val (l := l) r
    unfold meOf valV at *
    rw [List.find?_cons, List.find?_cons]
    by_cases e : m.nm = l
    · have e2 : kv.1 = kS l := by rw [h.1, e]
      rw [decide_eq_true e, decide_eq_true e2]
      exact ⟨fun m' hm => ⟨kv.2, rfl, by cases hm; exact h.2⟩, fun hm => by cases hm⟩
    · have e2 : ¬ kv.1 = kS l := fun z => e (kS_inj.mp (h.1.symm.trans z))
      rw [decide_eq_false e, decide_eq_false e2]
      exact ih
theorem MeAt.get {H : Hp} {d : Addr} {ms : List Me} {l : List Nat} {m : Me} (h : MeAt H d ms) (e : meOf ms l = some m) : ∃ v, DGet H d (.str (S l)) (some v) ∧ MeV H v m := by
  obtain ⟨kvs, h1, h2⟩ := h
  obtain ⟨v, hv, hm⟩ := (me_val (l := l) h2).1 m e
  exact ⟨v, .inl ⟨kvs, kS l, .inl h1, rfl, hv.symm⟩, hm⟩
theorem MeAt.no {H : Hp} {d : Addr} {ms : List Me} {l : List Nat} (h : MeAt H d ms) (e : meOf ms l = none) : DGet H d (.str (S l)) none := by
  obtain ⟨kvs, h1, h2⟩ := h
  exact .inl ⟨kvs, kS l, .inl h1, rfl, ((me_val (l := l) h2).2 e).symm⟩
/-! ### the dict of powers -/
def pwV (ps : Pw) : List (Key × V) := ps.map fun p => (kS p.1, .int p.2)
def getP (ps : Pw) (l : List Nat) : Option Int := (ps.find? fun p => decide (p.1 = l)).map (·.2)
theorem val_pw (l : List Nat) : ∀ ps : Pw, valV (pwV ps) (kS l) = (getP ps l).map V.int
  | [] => rfl
  | p :: r => by
    have ih := val_pw l r
    unfold valV pwV getP at *
    rw [List.map_cons, List.find?_cons, List.find?_cons]
    by_cases e : p.1 = l
    · have e2 : kS p.1 = kS l := by rw [e]
      rw [decide_eq_true e2, decide_eq_true e]; rfl
    · have e2 : ¬ kS p.1 = kS l := fun z => e (kS_inj.mp z)
      rw [decide_eq_false e2, decide_eq_false e]
      exact ih
def NdP (ps : Pw) : Prop := (ps.map (·.1)).Nodup
theorem addP_mem {l : List Nat} {k : Int} {x : List Nat} : ∀ {ps : Pw}, x ∈ (addP ps l k).map (·.1) → x = l ∨ x ∈ ps.map (·.1)
  | [], h => by simpa [addP] using h
  | p :: r, h => by
    obtain ⟨y, j⟩ := p
    unfold addP at h
    split at h
    · rename_i e; subst e; right; simpa using h
    · rw [List.map_cons, List.mem_cons] at h
      rcases h with h | h
      · right; rw [List.map_cons, List.mem_cons]; exact .inl h
      · rcases addP_mem h with z | z
        · exact .inl z
        · right; rw [List.map_cons, List.mem_cons]; exact .inr z
theorem addP_nd {l : List Nat} {k : Int} : ∀ {ps : Pw}, NdP ps → NdP (addP ps l k)
  | [], _ => by unfold NdP addP; simp
  | p :: r, h => by
    obtain ⟨y, j⟩ := p
    unfold NdP at h
    rw [List.map_cons, List.nodup_cons] at h
    unfold addP
    split
    · unfold NdP; rw [List.map_cons, List.nodup_cons]; exact h
    · rename_i e
      unfold NdP; rw [List.map_cons, List.nodup_cons]
      refine ⟨fun z => ?_, addP_nd h.2⟩
      rcases addP_mem z with z | z
      · exact e z
      · exact h.1 z
theorem grp_nd (us : Pw) : NdP (grp us) := by
  induction us using snoc_ind with
  | h0 => unfold NdP grp; simp
  | h1 l x ih => rw [grp_snoc]; exact addP_nd ih
theorem grp_mem (us : Pw) : ∀ p ∈ grp us, p.1 ∈ us.map (·.1) := by
  induction us using snoc_ind with
  | h0 => intro p h; cases h
  | h1 l x ih =>
    intro p h
    rw [grp_snoc] at h
    rw [List.map_append, List.mem_append]
    rcases addP_mem (List.mem_map_of_mem h) with z | z
    · right; simp [z]
    · obtain ⟨q, hq, e⟩ := List.mem_map.mp z
      left; rw [← e]; exact ih q hq
theorem put_pw {l : List Nat} {k : Int} : ∀ {ps : Pw}, NdP ps → putK (pwV ps) (kS l) (.int ((getP ps l).getD 0 + k)) = pwV (addP ps l k)
  | [], _ => by show [(kS l, V.int (0 + k))] = [(kS l, V.int k)]; rw [Int.zero_add]
  | p :: r, h => by
    obtain ⟨y, j⟩ := p
    unfold NdP at h
    rw [List.map_cons, List.nodup_cons] at h
    have ih := put_pw (l := l) (k := k) h.2
    unfold addP
    by_cases e : y = l
    · rw [if_pos e]
      have g : getP ((y, j) :: r) l = some j := by unfold getP; rw [List.find?_cons, decide_eq_true e]; rfl
      rw [g]
      unfold putK
      have an : ((pwV ((y, j) :: r)).any fun kv => decide (kv.1 = kS l)) = true := by
        show (decide (kS y = kS l) || _) = true
        rw [decide_eq_true (by rw [e])]; rfl
      rw [if_pos an]
      show (if kS y = kS l then (kS y, _) else _) :: List.map _ (pwV r) = (kS y, V.int (j + k)) :: pwV r
      rw [if_pos (by rw [e])]
      refine congrArg (List.cons _) ?_
      refine (List.map_congr_left fun kv hk => ?_).trans (List.map_id _)
      obtain ⟨q, hq, rfl⟩ := List.mem_map.mp hk
      refine if_neg fun z => h.1 ?_
      rw [e, ← kS_inj.mp z]
      exact List.mem_map.mpr ⟨q, hq, rfl⟩
    · rw [if_neg e]
      have g : getP ((y, j) :: r) l = getP r l := by unfold getP; rw [List.find?_cons, decide_eq_false e]
      rw [g]
      have e2 : ¬ kS y = kS l := fun z => e (kS_inj.mp z)
      unfold putK at ih ⊢
      have an : ((pwV ((y, j) :: r)).any fun kv => decide (kv.1 = kS l)) = ((pwV r).any fun kv => decide (kv.1 = kS l)) := by
        show (decide (kS y = kS l) || _) = _
        rw [decide_eq_false e2]; rfl
      rw [an]
      show _ = (kS y, V.int j) :: pwV (addP r l k)
      rw [← ih]
      split
      · show (if kS y = kS l then _ else (kS y, V.int j)) :: _ = _
        rw [if_neg e2]; rfl
      · rfl
theorem get_pw {H : Hp} {d : Addr} {ps : Pw} {l : List Nat} (h : H d = some (.dK (pwV ps))) : DGet H d (.str (S l)) ((getP ps l).map V.int) := .inl ⟨_, kS l, .inl h, rfl, (val_pw l ps).symm⟩
end AL
set_option Elab.async false
set_option maxRecDepth 100000
set_option maxHeartbeats 1000000
/-! Lists and tuples of texts as data. -/
namespace AL
open PySem PySem.Spec PyProof.Rows L2
def dS (l : List Nat) : PyData := .str (S l)
def vS (l : List Nat) : V := .str (S l)
theorem dpAll_txt {K : PySem.W.Frag} {H : Hp} : ∀ L : List (List Nat), DpAll K H (L.map vS) (L.map dS)
  | [] => .nil
  | i :: l => .cons (.str _) (dpAll_txt l)
def OkS (L : List (List Nat)) : Prop := ∀ l ∈ L, PyData.strOk (S l) = true
theorem can_txt {l : List (List Nat)} (h : OkS l) : PyData.canLayAll0 (l.map dS) = true ∧ PyData.depthAll (l.map dS) = 0 := by
  induction l with
  | nil => exact ⟨rfl, rfl⟩
  | cons b l ih =>
    have ih := ih fun x m => h x (List.mem_cons_of_mem _ m)
    exact ⟨by simp [dS, PyData.canLayAll0, PyData.canLay0]; exact ⟨h b (List.mem_cons_self ..), ih.1⟩, by simp [dS, PyData.depthAll, PyData.depth]; exact ih.2⟩
theorem shaped_txtL {l : List (List Nat)} (h : OkS l) : SeqAt.shaped (.list (l.map dS)) = true := by
  unfold SeqAt.shaped
  rw [show PyData.canLay0 (.list (l.map dS)) = true by simpa [PyData.canLay0] using (can_txt h).1]
  simp [PyData.depth, (can_txt h).2]
theorem shaped_txtT {l : List (List Nat)} (h : OkS l) : SeqAt.shaped (.tuple (l.map dS)) = true := by
  unfold SeqAt.shaped
  rw [show PyData.canLay0 (.tuple (l.map dS)) = true by simpa [PyData.canLay0] using (can_txt h).1]
  simp [PyData.depth, (can_txt h).2]
theorem eqv_txt1 (a b : List Nat) : PyData.eqv (dS a) (dS b) = decide (a = b) := by
  unfold dS
  rw [PyData.eqv]
  show decide (S a = S b) = _
  exact decide_eq_decide.mpr S_inj
theorem eqvAll_txt : ∀ a b : List (List Nat), PyData.eqvAll (a.map dS) (b.map dS) = decide (a = b)
  | [], [] => by simp [PyData.eqvAll]
  | [], _ :: _ => by simp [PyData.eqvAll]
  | _ :: _, [] => by simp [PyData.eqvAll]
  | x :: a, y :: b => by
    have ih := eqvAll_txt a b
    simp only [List.map_cons, PyData.eqvAll, eqv_txt1, ih]
    by_cases h : x = y <;> by_cases k : a = b <;> simp [h, k]
theorem eqv_txtL (a b : List (List Nat)) : PyData.eqv (.list (a.map dS)) (.list (b.map dS)) = decide (a = b) := by
  rw [PyData.eqv]; exact eqvAll_txt a b
theorem eqv_txtT (a b : List (List Nat)) : PyData.eqv (.tuple (a.map dS)) (.tuple (b.map dS)) = decide (a = b) := by
  rw [PyData.eqv]; exact eqvAll_txt a b
theorem dp_txtL {K : PySem.W.Frag} {H : Hp} {a : Addr} {L : List (List Nat)} (h : H a = some (.lst (L.map vS))) : Dp K H (.ref a) (.list (L.map dS)) := .lst (SqL.of h) (dpAll_txt L)
theorem dp_txtT {K : PySem.W.Frag} {H : Hp} {a : Addr} {L : List (List Nat)} (h : H a = some (.tup (L.map vS))) : Dp K H (.ref a) (.tuple (L.map dS)) := .tup (SqT.of h) (dpAll_txt L)
end AL
set_option Elab.async false
set_option maxRecDepth 100000
set_option exponentiation.threshold 70000
set_option maxHeartbeats 1000000
namespace AL
open PySem PySem.Spec PyProof.Rows L2 RZ
section
variable {P : Program} {w : World} {K : PySem.W.Frag} {mg : Str → Option Value} {base : Heap}

def pws (us : List UW) : Pw := us.map fun u => (u.nm, u.k)
def KnU (ms : List Me) (us : List UW) : Prop := ∀ u ∈ us, u.Ok ∧ ∃ m, meOf ms u.nm = some m
/-- a list of texts -/
def TxL (H : Hp) (a : Addr) (L : List (List Nat)) : Prop := H a = some (.lst (L.map vS))
theorem strOk_of {l : List Nat} (h : ∀ c ∈ l, c < 1000) : PyData.strOk (S l) = true := by
  show (l.toArray.all fun x => decide (x < 1114112)) = true
  rw [List.all_toArray, List.all_eq_true]
  intro c hc
  have := h c hc
  exact decide_eq_true (by omega)
theorem dg_low : ∀ n : Fin 199, (dg ((n.val : Int) - 99)).all (fun c => decide (c < 1000)) = true := by decide +kernel
theorem isLD_low {c : Nat} (h : isLD c = true) : c < 1000 := by
  unfold isLD isL isD at h
  simp only [Bool.or_eq_true, Bool.and_eq_true, decide_eq_true_eq] at h
  omega
theorem nm_low {l : List Nat} (h : nmOk l = true) : ∀ c ∈ l, c < 1000 := fun c hc => isLD_low ((List.all_eq_true.mp (nm_all h)) c hc)
theorem tx_low {u : UW} (h : u.Ok) : ∀ c ∈ u.tx, c < 1000 := by
  intro c hc
  unfold UW.tx at hc
  split at hc
  · rcases List.mem_append.mp hc with m | m
    · exact nm_low h.nm c m
    · rcases List.mem_cons.mp m with e | m
      · omega
      · have a := dg_low ⟨(u.k + 99).toNat, by have := h.lo; have := h.hi; omega⟩
        rw [show (((⟨(u.k + 99).toNat, by have := h.lo; have := h.hi; omega⟩ : Fin 199).val : Int) - 99) = u.k by show ((u.k + 99).toNat : Int) - 99 = u.k; have := h.lo; omega] at a
        exact of_decide_eq_true ((List.all_eq_true.mp a) c m)
  · exact nm_low h.nm c hc
theorem wtx_okS {us : List UW} (h : ∀ u ∈ us, u.Ok) : OkS (wtx us) := by
  unfold wtx
  split
  · intro l m
    have : l = [49] := by simpa using m
    rw [this]; decide +kernel
  · intro l m
    obtain ⟨u, hu, rfl⟩ := List.mem_map.mp m
    exact strOk_of (tx_low (h u hu))
theorem wtx_one {us : List UW} (h : us.isEmpty = true) : wtx us = [[49]] := by unfold wtx; rw [if_pos h]
theorem wtx_map {us : List UW} (h : us.isEmpty = false) : wtx us = us.map UW.tx := by unfold wtx; rw [if_neg (by rw [h]; decide)]
theorem tx_get {us : List UW} {i : Nat} {v : V} (h : ((us.map UW.tx).map vS)[i]? = some v) : ∃ u, us[i]? = some u ∧ v = .str (S u.tx) := by
  rw [List.map_map, List.getElem?_map] at h
  cases e : us[i]? with
  | none => rw [e] at h; cases h
  | some u => rw [e] at h; exact ⟨u, rfl, (Option.some.inj h).symm⟩
theorem oneS : ("1" : Str) = S [49] := by kernel_rfl
/-- lines_of(text) -/
def spLns : Sp := fun vs H Q _ => ∃ (L : List (List Nat)) (e : Bool), vs = [.str (S (TL.joinL [10] L ++ (if e = true then [10] else [])))] ∧ L ≠ [] ∧ (∀ l ∈ L, 10 ∉ l) ∧ L.getLast? ≠ some [] ∧ (TL.joinL [10] L).length ≤ 1000000 ∧ ∀ a H', Same H H' → TxL H' a L → Q (.ref a) H'
/-- ratio_word(word), the word of a ratio -/
def spRw : Sp := fun vs H Q _ => ∃ (l : List Nat) (p r : Int), vs = [.str (S l)] ∧ l.length ≤ 20000 ∧ res l = .ratio p r ∧ ∀ t H1, Same H H1 → H1 t = some (.tup [.int p, .int r]) → Q (.ref t) H1
/-- wrong_unit_word(words, measures), right words -/
def spWu : Sp := fun vs H Q _ => ∃ (a d : Addr) (us : List UW) (ms : List Me), vs = [.ref a, .ref d] ∧ TxL H a (wtx us) ∧ us.length ≤ 1000 ∧ MeAt H d ms ∧ KnU ms us ∧ ∀ H', Same H H' → Q .non H'
def spCk : Sp := fun vs H Q _ => ∃ (a d : Addr) (us : List UW) (ms : List Me) (k : Int), vs = [.ref a, .ref d, .int k] ∧ TxL H a (wtx us) ∧ us.length ≤ 1000 ∧ MeAt H d ms ∧ KnU ms us ∧ ∀ x H', H x = none → Same H H' → H' x = some (.dK (pwV (grp (pws us)))) → Q (.ref x) H'
/-- powers_of(words) -/
def spPo : Sp := fun vs H Q _ => ∃ (a : Addr) (us : List UW), vs = [.ref a] ∧ TxL H a (wtx us) ∧ us.length ≤ 1000 ∧ (∀ u ∈ us, u.Ok) ∧ ∀ x H', H x = none → Same H H' → H' x = some (.dK (pwV (grp (pws us)))) → Q (.ref x) H'
theorem cutV_init {xs : List V} {v : V} : cutV (xs ++ [v]) none (some (-1)) = xs := by
  unfold cutV HT.sIx
  simp
  rw [show (-1 + ((xs.length : Int) + 1)).toNat = xs.length by omega, List.take_left]
theorem cutV_from {xs : List V} (i : Nat) : cutV xs (some (i : Int)) none = xs.drop i := by
  unfold cutV
  rw [HT.sIx_nat, HT.sIx_none]
  by_cases h : i ≤ xs.length
  · rw [Nat.min_eq_left h, List.take_of_length_le (by rw [List.length_drop]; omega)]
  · rw [Nat.min_eq_right (by omega), List.drop_eq_nil_of_le (by omega), List.drop_eq_nil_of_le (by omega)]; simp
theorem addP_len (l : List Nat) (k : Int) : ∀ ps : Pw, (addP ps l k).length ≤ ps.length + 1
  | [] => Nat.le_refl _
  | p :: r => by
    obtain ⟨y, j⟩ := p
    unfold addP
    split
    · simp only [List.length_cons]; omega
    · have := addP_len l k r; simp only [List.length_cons]; omega
theorem grp_len (us : Pw) : (grp us).length ≤ us.length := by
  induction us using snoc_ind with
  | h0 => exact Nat.le_refl _
  | h1 l x ih => rw [grp_snoc, List.length_append]; exact Nat.le_trans (addP_len _ _ _) (by simpa using ih)
theorem pws_snoc (us : List UW) (u : UW) : pws (us ++ [u]) = pws us ++ [(u.nm, u.k)] := by unfold pws; rw [List.map_append]; rfl
theorem TxL.same {H H' : Hp} {a : Addr} {L : List (List Nat)} (s : Same H H') (h : TxL H a L) : TxL H' a L := s _ _ h

abbrev stlines_of : Stmt := top 24
theorem sclines_of : FnScope ["text", "lines"] ["text"] (defScope stlines_of) := ⟨rfl, rfl, rfl, by decide +kernel, rfl, by decide +kernel, by decide +kernel⟩
theorem oklines_of (B : Blt mg) {CUnits : Addr} (Es : ErU K mg CUnits) {flines_of : Addr} {fdlines_of : FuncData} (Dlines_of : DefAt K mg "lines_of" stlines_of ["text"] flines_of fdlines_of) : FnOk P w K mg base CX0 1 flines_of fdlines_of ["text"] spLns := by
  obtain ⟨uD, hD, rD⟩ := Es.dig
  obtain ⟨uM, hM, rM⟩ := Es.most
  obtain ⟨uL, hL, rL⟩ := Es.lett
  obtain ⟨uN, hN, rN⟩ := Es.long
  obtain ⟨uB, hB, rB⟩ := Es.most6
  refine Dlines_of.F.ok sclines_of (fun vs H Q E h => ?_) (fun cdv A outer s H vs Q E hr h => ?_)
  · obtain ⟨L, e, rfl, _⟩ := h; rfl
  · have hu := hu_of hr
    refine ⟨_, (pss_cons (ps_set (i := 1) sclines_of.nd rfl (Or.inl rfl) (pe_split (pv 0) pe_str))
    (pss_cons (ps_if (pt_cmpR op_eq (pe_ix ix_list (pv 1) (pe_un un_neg pe_int) (fun _ _ => rfl)) pe_str (nomark _)) (pss_one (ps_ret (pe_slice sl_list (pv 1) po_none (po_some (pe_un un_neg pe_int))))) pss_nil)
    (pss_one (ps_ret (pv 1))))), ?_⟩
    obtain ⟨L, e, rfl, hne, hno, hlast, hlen, q⟩ := h
    have hsz : (S (TL.joinL [10] L ++ (if e = true then [10] else []))).length + 2 ≤ sizeLine := by
      rw [S_len, List.length_append]
      refine Nat.le_trans (?_ : _ ≤ 1000003) (by decide)
      split
      · show _ + 1 + 2 ≤ _; omega
      · show _ + 0 + 2 ≤ _; omega
    refine ⟨_, rfl, ⟨_, rfl⟩, _, _, rfl, rfl, by decide +kernel, hsz, fun a ha => ?_⟩
    have es : Txt.split (S (TL.joinL [10] L ++ (if e = true then [10] else []))) "\n" = (L ++ (if e = true then [[]] else [])).map S := by
      rw [feedS]
      cases e with
      | true =>
        rw [if_pos rfl, if_pos rfl, ← joinL_snoc 10 hne]
        refine split_S 10 (by decide) (by simp) ?_
        intro l hl
        rcases List.mem_append.mp hl with h | h
        · exact hno l h
        · have : l = [] := by simpa using h
          rw [this]; simp
      | false =>
        simp only [Bool.false_eq_true, if_false, List.append_nil]
        exact split_S 10 (by decide) hne hno
    rw [es, List.map_map]
    cases e with
    | true =>
      rw [if_pos rfl, List.map_append]
      have n1 := AL.Same.new (o := .lst (List.map (V.str ∘ S) L ++ List.map (V.str ∘ S) [[]])) ha
      refine ⟨_, rfl, _, rfl, a, _, _, _, rfl, rfl, SqL.of upd_same, atI_last _ _, rfl, _, rfl, ?_⟩
      rw [show decide ((V.str ∘ S) [] = V.str "") = true by rw [emptyS]; exact str_eq _]
      refine iteT ?_
      refine ⟨_, rfl, _, rfl, _, rfl, a, _, rfl, SqL.of upd_same, fun p hp => ?_⟩
      refine q p _ (n1.trans (AL.Same.new hp)) ?_
      unfold TxL
      refine Eq.trans upd_same ?_
      show some (HO.lst (cutV (_ ++ [V.str (S [])]) none (some (-1)))) = _
      rw [cutV_init]; rfl
    | false =>
      simp only [Bool.false_eq_true, if_false, List.append_nil]
      have n1 := AL.Same.new (o := .lst (List.map (V.str ∘ S) L)) ha
      obtain ⟨M, l, rfl⟩ : ∃ M l, L = M ++ [l] := ⟨L.dropLast, L.getLast hne, (List.dropLast_concat_getLast hne).symm⟩
      have hl : l ≠ [] := fun z => hlast (by rw [z, List.getLast?_append]; rfl)
      rw [List.map_append] at n1 ⊢
      refine ⟨_, rfl, _, rfl, a, _, _, _, rfl, rfl, SqL.of upd_same, atI_last (List.map (V.str ∘ S) M) (V.str (S l)), rfl, _, rfl, ?_⟩
      rw [show decide (V.str (S l) = V.str "") = false by rw [emptyS]; exact str_ne hl]
      refine iteF ?_
      refine ⟨_, rfl, ?_⟩
      refine q a _ n1 ?_
      unfold TxL
      rw [List.map_append]
      exact upd_same
abbrev stratio_word : Stmt := top 26
theorem scratio_word : FnScope ["word"] ["word"] (defScope stratio_word) := ⟨rfl, rfl, rfl, by decide +kernel, rfl, by decide +kernel, by decide +kernel⟩
theorem okratio_word (B : Blt mg) {CUnits : Addr} (Es : ErU K mg CUnits) {flowest : Addr} {fdlowest : FuncData} (Dlowest : DefAt K mg "lowest" stlowest ["top", "bottom"] flowest fdlowest) {fdigits_end : Addr} {fddigits_end : FuncData} (Ddigits_end : DefAt K mg "digits_end" stdigits_end ["text", "start"] fdigits_end fddigits_end) {fwrong_column_ratios : Addr} {fdwrong_column_ratios : FuncData} (Dwrong_column_ratios : DefAl K mg "wrong_column_ratios" "wrong_column" stwrong_column_ratios ["text"] fwrong_column_ratios fdwrong_column_ratios) {fratio_of : Addr} {fdratio_of : FuncData} (Dratio_of : DefAt K mg "ratio_of" stratio_of ["text"] fratio_of fdratio_of) {fratio_word : Addr} {fdratio_word : FuncData} (Dratio_word : DefAt K mg "ratio_word" stratio_word ["word"] fratio_word fdratio_word) : FnOk P w K mg base CX0 4 fratio_word fdratio_word ["word"] spRw := by
  obtain ⟨uD, hD, rD⟩ := Es.dig
  obtain ⟨uM, hM, rM⟩ := Es.most
  obtain ⟨uL, hL, rL⟩ := Es.lett
  obtain ⟨uN, hN, rN⟩ := Es.long
  obtain ⟨uB, hB, rB⟩ := Es.most6
  have OKratio_of : FnOk P w K mg base CX0 3 fratio_of fdratio_of ["text"] spRatioU := okratio_of B Es Dlowest Ddigits_end Dwrong_column_ratios Dratio_of
  refine Dratio_word.F.ok scratio_word (fun vs H Q E h => ?_) (fun cdv A outer s H vs Q E hr h => ?_)
  · obtain ⟨l, p, r, rfl, _⟩ := h; rfl
  · have hu := hu_of hr
    refine ⟨_, (pss_one (ps_try_thru0 (pss_one (ps_ret (pe_call OKratio_of (hr.mono (by decide)) rfl Dratio_of.m Dratio_of.F.kp Dratio_of.b .nil pass0 (pa_cons (pv 0) pa_nil)))))), ?_⟩
    obtain ⟨l, p, r, rfl, hl, er, q⟩ := h
    exact ⟨_, rfl, l, p, r, rfl, hl, er, fun t H1 ht s => q t _ (s.trans (AL.Same.new ht)) upd_same⟩
abbrev stwrong_unit_word : Stmt := top 30
theorem scwrong_unit_word : FnScope ["words", "measures", "at", "word", "told"] ["words", "measures"] (defScope stwrong_unit_word) := ⟨rfl, rfl, rfl, by decide +kernel, rfl, by decide +kernel, by decide +kernel⟩
theorem okwrong_unit_word (B : Blt mg) {CUnits : Addr} (Es : ErU K mg CUnits) {fis_exponent : Addr} {fdis_exponent : FuncData} (Dis_exponent : DefAt K mg "is_exponent" stis_exponent ["text"] fis_exponent fdis_exponent) {fis_name : Addr} {fdis_name : FuncData} (Dis_name : DefAt K mg "is_name" stis_name ["text"] fis_name fdis_name) {fnamed_power : Addr} {fdnamed_power : FuncData} (Dnamed_power : DefAt K mg "named_power" stnamed_power ["word"] fnamed_power fdnamed_power) {fwrong_unit_word : Addr} {fdwrong_unit_word : FuncData} (Dwrong_unit_word : DefAt K mg "wrong_unit_word" stwrong_unit_word ["words", "measures"] fwrong_unit_word fdwrong_unit_word) : FnOk P w K mg base CX0 3 fwrong_unit_word fdwrong_unit_word ["words", "measures"] spWu := by
  obtain ⟨uD, hD, rD⟩ := Es.dig
  obtain ⟨uM, hM, rM⟩ := Es.most
  obtain ⟨uL, hL, rL⟩ := Es.lett
  obtain ⟨uN, hN, rN⟩ := Es.long
  obtain ⟨uB, hB, rB⟩ := Es.most6
  have OKnamed_power : FnOk P w K mg base CX0 2 fnamed_power fdnamed_power ["word"] spNp := oknamed_power B Es Dis_exponent Dis_name Dnamed_power
  refine Dwrong_unit_word.F.ok scwrong_unit_word (fun vs H Q E h => ?_) (fun cdv A outer s H vs Q E hr h => ?_)
  · obtain ⟨a, d, us, ms, rfl, _⟩ := h; rfl
  · have hu := hu_of hr
    refine ⟨_, (pss_cons (ps_if (pt_cmpR (op_eqD hr.units) (pv 0) (pe_lst pa_nil) (nomark _)) (pss_one (ps_ret pe_int)) pss_nil)
    (pss_cons (ps_if (pt_cmpR op_eq (pe_ix ix_list (pv 0) pe_int (fun _ _ => rfl)) pe_str (nomark _)) (pss_one (ps_ret (pe_ifExp (pt_cmpR op_gt (pe_callB call_len_seq (by rfl) B.len_ (by decide +kernel) (pa_cons (pv 0) pa_nil)) pe_int (nomark _)) pe_int pe_non))) pss_nil)
    (pss_cons (ps_for PassesOwn.never rfl (pi_enum (by rfl) B.enumerate_ (pa_cons (pv 0) pa_nil)) (pg_tup rfl (pgs_cons (pg_name (i := 2) scwrong_unit_word.nd rfl (Or.inl rfl)) (pgs_cons (pg_name (i := 3) scwrong_unit_word.nd rfl (Or.inl rfl)) pgs_nil)))
      (pss_cons (ps_set (i := 4) scwrong_unit_word.nd rfl (Or.inl rfl) (pe_call OKnamed_power (hr.mono (by decide)) rfl Dnamed_power.m Dnamed_power.F.kp Dnamed_power.b .nil pass0 (pa_cons (pv 3) pa_nil)))
    (pss_one (ps_if (PW.pt (pw_or (pt_cmpR op_isN (pv 4) pe_non (nomark _)) (pw_or1 (pt_cmp (pc_dnotin hu (pe_ix ix_tup (pv 4) pe_int (fun _ _ => rfl)) (pv 1)))))) (pss_one (ps_ret (pv 2))) pss_nil))))
    (pss_one (ps_ret pe_non))))), ?_⟩
    obtain ⟨a, d, us, ms, rfl, hw, hlen, hm, hk, q⟩ := h
    have kok : ∀ u ∈ us, u.Ok := fun u hu => (hk u hu).1
    
    refine ⟨_, rfl, (by show 0 ≤ sizeLine; decide), fun p hp => ?_⟩
    have s0 := AL.Same.new (o := .lst []) hp
    have hw0 := hw.same s0
    refine ⟨_, _, dp_txtL hw0, Dp.lst (SqL.of upd_same) .nil, shaped_txtL (wtx_okS kok), (by decide +kernel), _, rfl, ?_⟩
    rw [show PyData.eqv (.list ((wtx us).map dS)) (.list []) = false from (eqv_txtL (wtx us) []).trans (decide_eq_false (wtx_ne us))]
    refine iteF ?_
    generalize upd H p (.lst []) = H0 at s0 hw0 ⊢
    
    have hm0 := hm.same s0
    cases hz : us.isEmpty with
    | true =>
      have ew := wtx_one hz
      have hw1 : H0 a = some (.lst [.str (S [49])]) := by have := hw0; unfold TxL at this; rw [ew] at this; exact this
      refine ⟨_, rfl, _, _, _, _, rfl, rfl, SqL.of hw1, atI_nat (j := 0) rfl, rfl, _, rfl, ?_⟩
      rw [oneS, str_eq]
      refine iteT ?_
      refine ⟨_, rfl, a, _, rfl, .inl (SqL.of hw1), ?_⟩
      refine ⟨_, _, rfl, rfl, _, rfl, ?_⟩
      refine iteF ?_
      exact q _ s0
    | false =>
      have ew := wtx_map hz
      unfold TxL at hw0
      rw [ew] at hw0
      obtain ⟨u0, r0, rfl⟩ : ∃ u0 r0, us = u0 :: r0 := by
        cases us with
        | nil => cases hz
        | cons x y => exact ⟨x, y, rfl⟩
      refine ⟨_, rfl, _, _, _, _, rfl, rfl, SqL.of hw0, atI_nat (j := 0) rfl, rfl, _, rfl, ?_⟩
      rw [oneS, show decide (vS u0.tx = V.str (S [49])) = false from str_ne (tx_ne1 (kok u0 (List.mem_cons_self ..)))]
      refine iteF ?_
      refine ⟨_, rfl, a, _, rfl, SqL.of hw0, for_it (walk_enum (K := K) (a := a) (xs := ((u0 :: r0).map UW.tx).map vS)) (fun i σ H' => ∃ v2 v3 v4 : Option V, σ = [some (.ref a), some (.ref d), v2, v3, v4] ∧ Same H0 H') ⟨none, none, none, rfl, Same.refl _⟩ (fun i σ H' _ hh => let ⟨_, _, _, _, s⟩ := hh; SqL.of (s _ _ hw0)) ?_ ?_⟩
      · rintro i y σ H2 H2' hi ⟨v2, v3, v4, rfl, s2⟩ ⟨Tt, x0, y0, rfl, hTt, rfl, e1, e2⟩
        cases Option.some.inj e1
        obtain ⟨u, hu, rfl⟩ := tx_get e2
        obtain ⟨ok, m, hmo⟩ := hk u (List.mem_of_getElem? hu)
        have nT := AL.Same.new (o := .tup [.int (i : Nat), .str (S u.tx)]) hTt
        refine ⟨Tt, _, rfl, SqT.of upd_same, rfl, _, _, rfl, _, _, rfl, rfl, ?_⟩
        have s3 := s2.trans nT
        generalize upd H2 Tt (.tup [.int (i : Nat), .str (S u.tx)]) = H3 at s3 ⊢
        refine ⟨_, rfl, u, rfl, ok, fun t H4 s4 ht => ?_⟩
        have s5 := s3.trans s4
        refine ⟨_, rfl, rfl, _, rfl, ?_⟩
        refine iteF ?_
        obtain ⟨v, hg, mv⟩ := (hm0.same s5).get hmo
        refine ⟨_, rfl, t, _, _, _, rfl, rfl, SqT.of ht, rfl, _, rfl, d, _, rfl, hg, _, rfl, ?_⟩
        refine iteF ?_
        exact ⟨_, _, _, rfl, s5⟩
      · rintro σ H' ⟨v2, v3, v4, rfl, s⟩
        exact q H' (s0.trans s)
abbrev stpowers_of : Stmt := top 32
theorem scpowers_of : FnScope ["words", "powers", "word", "name", "exponent"] ["words"] (defScope stpowers_of) := ⟨rfl, rfl, rfl, by decide +kernel, rfl, by decide +kernel, by decide +kernel⟩
theorem okpowers_of (B : Blt mg) {CUnits : Addr} (Es : ErU K mg CUnits) {fis_exponent : Addr} {fdis_exponent : FuncData} (Dis_exponent : DefAt K mg "is_exponent" stis_exponent ["text"] fis_exponent fdis_exponent) {fis_name : Addr} {fdis_name : FuncData} (Dis_name : DefAt K mg "is_name" stis_name ["text"] fis_name fdis_name) {fnamed_power : Addr} {fdnamed_power : FuncData} (Dnamed_power : DefAt K mg "named_power" stnamed_power ["word"] fnamed_power fdnamed_power) {fpowers_of : Addr} {fdpowers_of : FuncData} (Dpowers_of : DefAt K mg "powers_of" stpowers_of ["words"] fpowers_of fdpowers_of) : FnOk P w K mg base CX0 3 fpowers_of fdpowers_of ["words"] spPo := by
  obtain ⟨uD, hD, rD⟩ := Es.dig
  obtain ⟨uM, hM, rM⟩ := Es.most
  obtain ⟨uL, hL, rL⟩ := Es.lett
  obtain ⟨uN, hN, rN⟩ := Es.long
  obtain ⟨uB, hB, rB⟩ := Es.most6
  have OKnamed_power : FnOk P w K mg base CX0 2 fnamed_power fdnamed_power ["word"] spNp := oknamed_power B Es Dis_exponent Dis_name Dnamed_power
  refine Dpowers_of.F.ok scpowers_of (fun vs H Q E h => ?_) (fun cdv A outer s H vs Q E hr h => ?_)
  · obtain ⟨a, us, rfl, _⟩ := h; rfl
  · have hu := hu_of hr
    refine ⟨_, (pss_cons (ps_set (i := 1) scpowers_of.nd rfl (Or.inl rfl) pe_dnewK)
    (pss_cons (ps_if (pt_cmpR (op_neD hr.units) (pv 0) (pe_lst (pa_cons pe_str pa_nil)) (nomark _)) (pss_one (ps_for PassesOwn.never rfl (pi_list (pv 0)) (pg_name (i := 2) scpowers_of.nd rfl (Or.inl rfl))
      (pss_cons (ps_asg (pe_call OKnamed_power (hr.mono (by decide)) rfl Dnamed_power.m Dnamed_power.F.kp Dnamed_power.b .nil pass0 (pa_cons (pv 2) pa_nil)) (pg_tup rfl (pgs_cons (pg_name (i := 3) scpowers_of.nd rfl (Or.inl rfl)) (pgs_cons (pg_name (i := 4) scpowers_of.nd rfl (Or.inl rfl)) pgs_nil))))
    (pss_one (ps_dput hu (pv 1) (pv 3) (pe_op op_add (pe_dget2 hu (pv 1) (pv 3) pe_int ⟨rfl, rfl, rfl, rfl⟩) (pv 4)) rfl))))) pss_nil)
    (pss_one (ps_ret (pv 1))))), ?_⟩
    obtain ⟨a, us, rfl, hw, hlen, kok, q⟩ := h
    refine fun x hx => ?_
    have s0 := AL.Same.new (o := .dK []) hx
    have hw0 := hw.same s0
    have hx0 : (upd H x (.dK [])) x = some (.dK []) := upd_same
    generalize hH0 : upd H x (.dK []) = H0 at s0 hw0 hx0 ⊢
    refine ⟨_, rfl, (by show 1 ≤ sizeLine; decide), fun p hp => ?_⟩
    have s1 := AL.Same.new (o := .lst [.str "1"]) hp
    have hw1 := hw0.same s1
    have hx1 := s1 _ _ hx0
    have o1 : OkS [[49]] := fun l m => by rw [show l = [49] by simpa using m]; decide +kernel
    refine ⟨_, _, dp_txtL hw1, dp_txtL (L := [[49]]) (by rw [upd_same, oneS]; rfl), shaped_txtL (wtx_okS kok), shaped_txtL o1, _, rfl, ?_⟩
    rw [eqv_txtL]
    have s01 := s0.trans s1
    generalize upd H0 p (.lst [.str "1"]) = H1 at s1 hw1 hx1 s01 ⊢
    cases hz : us.isEmpty with
    | true =>
      have ew := wtx_one hz
      rw [ew, decide_eq_true rfl]
      refine iteF ?_
      refine ⟨_, rfl, ?_⟩
      refine q x _ hx s01 ?_
      rw [hx1, List.isEmpty_iff.mp hz]; rfl
    | false =>
      have ew := wtx_map hz
      have ne1 : wtx us ≠ [[49]] := fun z => by
        rw [ew] at z
        cases us with
        | nil => cases hz
        | cons u r => exact tx_ne1 (kok u (List.mem_cons_self ..)) (List.cons.inj z).1
      rw [decide_eq_false ne1]
      refine iteT ?_
      unfold TxL at hw1
      rw [ew] at hw1
      refine ⟨_, rfl, a, rfl, ⟨_, SqL.of hw1⟩, for_list (K := K) (a := a) (xs := (us.map UW.tx).map vS) (fun i σ H' => ∃ v2 v3 v4 : Option V, σ = [some (.ref a), some (.ref x), v2, v3, v4] ∧ Same H H' ∧ H' a = some (.lst ((us.map UW.tx).map vS)) ∧ H' x = some (.dK (pwV (grp (pws (us.take i)))))) ⟨none, none, none, rfl, s01, hw1, hx1⟩ (fun i σ H' _ hh => let ⟨_, _, _, _, _, h, _⟩ := hh; SqL.of h) ?_ ?_⟩
      · rintro i y σ H2 hy ⟨v2, v3, v4, rfl, s2, ha2, hx2⟩
        obtain ⟨u, hu, rfl⟩ := tx_get hy
        have hui : i < us.length := (List.getElem?_eq_some_iff.mp hu).1
        have ok := kok u (List.mem_of_getElem? hu)
        refine ⟨_, rfl, u, rfl, ok, fun t H4 s4 ht => ?_⟩
        refine ⟨t, _, rfl, SqT.of ht, rfl, _, _, rfl, _, _, rfl, rfl, ?_⟩
        have hx4 := s4 _ _ hx2
        have ha4 := s4 _ _ ha2
        have s5 := s2.trans s4
        refine ⟨_, rfl, x, rfl, .inl ⟨_, .inl hx4⟩, _, rfl, _, get_pw hx4, ?_⟩
        rw [show ((getP (grp (pws (us.take i))) u.nm).map V.int).getD (V.int 0) = V.int ((getP (grp (pws (us.take i))) u.nm).getD 0) by cases getP (grp (pws (us.take i))) u.nm <;> rfl]
        refine ⟨_, rfl, _, _, rfl, rfl, _, rfl, _, rfl, x, _, rfl, .inl ⟨_, kS u.nm, hx4, rfl, ?_, rfl⟩, ?_⟩
        · unfold pwV
          rw [List.length_map]
          refine Nat.lt_of_le_of_lt (grp_len _) ?_
          unfold pws
          rw [List.length_map, List.length_take]
          exact Nat.lt_of_le_of_lt (by omega : _ ≤ 1000) (by decide)
        refine ⟨_, _, _, rfl, AL.Same.updn s5 hx, ?_, ?_⟩
        · rw [upd_ne (fun z => by rw [z, hx4] at ha4; cases ha4)]; exact ha4
        · rw [upd_same, put_pw (grp_nd _), List.take_add_one, hu]
          show _ = some (HO.dK (pwV (grp (pws (us.take i ++ [u])))))
          rw [pws_snoc, grp_snoc]
      · rintro σ H' ⟨v2, v3, v4, rfl, s, _, hx'⟩
        have : (List.map vS (List.map UW.tx us)).length = us.length := by rw [List.length_map, List.length_map]
        rw [this, List.take_length] at hx'
        exact ⟨_, rfl, q x _ hx s hx'⟩
end
end AL
set_option Elab.async false
set_option linter.all false
set_option maxRecDepth 100000
set_option maxHeartbeats 2000000
/-! zip(a, b), each of them a list or a tuple. -/
namespace AL
open PySem PySem.Spec PyProof.Rows L2
def itB (h : Heap) (it a : Addr) (i : Nat) : Bool → Prop
  | true => h.IsListIter it a i
  | false => h.IsTupleIter it a i
def sqB (h : Heap) (a : Addr) (its : Array Value) : Bool → Prop
  | true => h.IsList a its
  | false => h.IsTuple a its
theorem drawsB {prog : Program} {w : World} {A : Around} (hh : A.handled = none) (k : Bool) (it a : Addr) (ne : a ≠ it) (its : Array Value) : Draws prog w A it [it, a] its.size (fun i v => its[i]? = some v) (fun i h => itB h it a i k ∧ sqB h a its k) := by
  cases k with
  | true => exact Draws.list hh it a ne its
  | false => exact Draws.tuple hh it a ne its
theorem itB_obj {h : Heap} {it a : Addr} {i : Nat} {k : Bool} (z : itB h it a i k) : ∃ o, h.get? it = some o ∧ ∀ v, o.data ≠ .cell v := by
  cases k with
  | true => obtain ⟨o, e1, _, e2⟩ := z; exact ⟨o, e1, fun v q => by rw [e2] at q; cases q⟩
  | false => obtain ⟨o, e1, _, e2⟩ := z; exact ⟨o, e1, fun v q => by rw [e2] at q; cases q⟩
theorem itB_at {h h' : Heap} {it a : Addr} {i : Nat} {k : Bool} (z : itB h it a i k) (e : ∀ o, h.get? it = some o → h'.get? it = some o) : itB h' it a i k := by
  cases k with
  | true => exact Heap.IsListIter.at z e
  | false => exact Heap.IsTupleIter.at z e
theorem SqB.raw {X : Cx} {pins : List (Addr × Obj)} {σ : L2.St} {H : Hp} {s : Shared} {a : Addr} {xs : List V} {k : Bool} (I : Inv X pins σ H s) (h : SqB X.K H a xs k) : ∃ its : List Value, Vals xs its ∧ sqB s.heap a its.toArray k ∧ a < s.heap.objs.size := by
  cases k with
  | true =>
    obtain ⟨its, rv, p, _⟩ := I.list h
    exact ⟨its, rv, p.isList, p.lt⟩
  | false =>
    obtain ⟨its, rv, p, _⟩ := I.tuple h
    obtain ⟨o, g, _⟩ := id p
    exact ⟨its, rv, p, Heap.lt_size g⟩
theorem SqB.inj {X : Cx} {pins : List (Addr × Obj)} {σ : L2.St} {H : Hp} {s : Shared} {a : Addr} {xs ys : List V} {k : Bool} (I : Inv X pins σ H s) (h : SqB X.K H a xs k) (g : SqB X.K H a ys k) : xs = ys := by
  cases k with
  | true => exact I.list_inj h g
  | false => exact I.tuple_inj h g
def ItzB (K : PySem.W.Frag) (a b : Addr) (k l : Bool) : It :=
  ⟨fun i H => ∃ (xs ys : List V) (x y : V), SqB K H a xs k ∧ SqB K H b ys l ∧ xs[i]? = some x ∧ ys[i]? = some y,
    fun i H v H' => ∃ T x y, v = .ref T ∧ H T = none ∧ H' = upd H T (.tup [x, y]) ∧ (∀ xs, SqB K H a xs k → xs[i]? = some x) ∧ ∀ ys, SqB K H b ys l → ys[i]? = some y,
    fun i H => ∃ xs ys : List V, SqB K H a xs k ∧ SqB K H b ys l ∧ i ≤ xs.length ∧ i ≤ ys.length ∧ (xs.length = i ∨ ys.length = i)⟩
theorem turn_zipB {P : Program} {w : World} {K : PySem.W.Frag} {elts : List Expr} {kk : Nat} {tpos : Pos} {a b z TI TO i1 i2 : Addr} {k l : Bool} (S : ZipSep2 z TI TO i1 i2 [i1, a] [i2, b]) (n1 : a ≠ i1) (n2 : b ≠ i2) :
    Turn P w K (.Tuple elts kk tpos) (ItzB K a b k l) [z, TI, TO, i1, i2] z (fun i h => IsZip h z TI TO .none ∧ IsTupOf2 h TI (.ref i1) (.ref i2) ∧ (∃ x y, IsTupOf2 h TO x y) ∧ itB h i1 a i k ∧ itB h i2 b i l) where
  mem := by simp
  obj := fun i h st c hc => by
    obtain ⟨hz, hTI, ⟨x, y, hTO⟩, g1, g2⟩ := st
    have m : c = z ∨ c = TI ∨ c = TO ∨ c = i1 ∨ c = i2 := by simpa using hc
    rcases m with q | q | q | q | q
    · rw [q]; exact ⟨_, hz, fun v q => nomatch q⟩
    · rw [q]; exact ⟨_, hTI, fun v q => nomatch q⟩
    · rw [q]; exact ⟨_, hTO, fun v q => nomatch q⟩
    · rw [q]; exact itB_obj g1
    · rw [q]; exact itB_obj g2
  keep := fun i h h' st kp => by
    obtain ⟨hz, hTI, ⟨x, y, hTO⟩, g1, g2⟩ := st
    exact ⟨kp z (by simp) _ hz, kp TI (by simp) _ hTI, ⟨x, y, kp TO (by simp) _ hTO⟩, itB_at g1 fun o q => kp i1 (by simp) o q, itB_at g2 fun o q => kp i2 (by simp) o q⟩
  item := by
    intro X hP hw hK hc i pins s σ H E I hf st hg
    subst hP hw hK
    obtain ⟨hz, hTI, ⟨x0, y0, hTO⟩, g1, g2⟩ := st
    obtain ⟨xs, ys, x, y, hqx, hqy, hx, hy⟩ := hg
    obtain ⟨its, rv, p, _⟩ := hqx.raw I
    obtain ⟨jts, rw2, p2, _⟩ := hqy.raw I
    obtain ⟨u, hu, ru⟩ := rv.get hx
    obtain ⟨v, hv, ru2⟩ := rw2.get hy
    have hzl : z < s.heap.objs.size := Heap.lt_size hz
    have lu : i < its.toArray.size := by have := (List.getElem?_eq_some_iff.mp hu).1; simpa using this
    have lv : i < jts.toArray.size := by have := (List.getElem?_eq_some_iff.mp hv).1; simpa using this
    refine wpAny_pyNext_zipD2_item S (drawsB (prog := X.prog) (w := X.w) (A := X.A.in1) (I.ok.hd hc) k i1 a n1 its.toArray) (drawsB (prog := X.prog) (w := X.w) (A := X.A.in1) (I.ok.hd hc) l i2 b n2 jts.toArray) hz hTI hTO ⟨g1, p⟩ ⟨g2, p2⟩ lu lv fun u1 v1 h' tk e1 e2 z' TO' st1 st2 hT hsz hk => ?_
    have eu : u1 = u := by
      have w : its.toArray[i]? = some u := by simpa using hu
      exact (Option.some.inj (w.symm.trans e1)).symm
    have ev : v1 = v := by
      have w : jts.toArray[i]? = some v := by simpa using hv
      exact (Option.some.inj (w.symm.trans e2)).symm
    subst eu ev
    refine ⟨_, rfl, wpAny_letOwnedTupleGo_zip (s := { s with heap := h', toks := tk }) z' fun h'' z'' sb => ?_⟩
    have hT2 : h''.get? s.heap.objs.size = some { cls := .type "tuple", data := .seq #[u1, v1] } := (sb.2 _ (Nat.ne_of_gt hzl)).trans hT
    have new : ObjOk X.prog X.w (upd H s.heap.objs.size (.tup [x, y])) h'' s.heap.objs.size (.tup [x, y]) :=
      ⟨by show 2 ≤ sizeLine; decide, [u1, v1], .cons ru (.cons ru2 .nil), ⟨_, hT2, rfl, _, rfl⟩⟩
    have I1 : Inv X pins σ (upd H s.heap.objs.size (.tup [x, y])) { s with heap := h'', toks := tk } :=
      I.turnedNew (t' := tk) (ch := [z, TI, TO, i1, i2]) (fun c o hb q => (sb.2 c (fun w => hb (by simp [w]))).trans (hk c o (fun w => hb (by simp [w])) (fun w => hb (by simp [w])) (fun w => hb (by simp [w])) (fun w => hb (by simp [w])) q)) hf (Nat.le_refl _) new
    refine ⟨.ref s.heap.objs.size, _, I1, rfl, ⟨_, x, y, rfl, I.hok.fresh (Nat.le_refl _), rfl, fun q hq => by rw [hq.inj I hqx]; exact hx, fun q hq => by rw [hq.inj I hqy]; exact hy⟩, ⟨z'', ?_, ⟨u1, v1, ?_⟩, ?_, ?_⟩, fun c hcm => ?_⟩
    · exact (sb.2 _ S.TIz).trans (hk _ _ S.TIz S.TITO S.TIi1 S.TIi2 hTI)
    · exact (sb.2 _ S.TOz).trans TO'
    · exact itB_at st1.1 fun o q => (sb.2 _ (fun w => S.zf1 (by rw [← w]; simp))).trans q
    · exact itB_at st2.1 fun o q => (sb.2 _ (fun w => S.zf2 (by rw [← w]; simp))).trans q
    · have lt : c < s.heap.objs.size := by
        have m : c = z ∨ c = TI ∨ c = TO ∨ c = i1 ∨ c = i2 := by simpa using hcm
        rcases m with q | q | q | q | q
        · rw [q]; exact hzl
        · rw [q]; exact Heap.lt_size hTI
        · rw [q]; exact Heap.lt_size hTO
        · rw [q]; obtain ⟨_, w, _⟩ := itB_obj g1; exact Heap.lt_size w
        · rw [q]; obtain ⟨_, w, _⟩ := itB_obj g2; exact Heap.lt_size w
      rw [upd_ne (Nat.ne_of_lt lt)]
      exact (hf c hcm).1
  done := by
    intro X hP hw hK hc i pins s σ H E I hf st hg
    subst hP hw hK
    obtain ⟨hz, hTI, ⟨x0, y0, hTO⟩, g1, g2⟩ := st
    obtain ⟨xs, ys, hqx, hqy, le1, le2, hend⟩ := hg
    obtain ⟨its, rv, p, _⟩ := hqx.raw I
    obtain ⟨jts, rw2, p2, _⟩ := hqy.raw I
    have l1 := rv.length
    have l2 := rw2.length
    refine wpAny_pyNext_zipD2_end S (drawsB (prog := X.prog) (w := X.w) (A := X.A.in1) (I.ok.hd hc) k i1 a n1 its.toArray) (drawsB (prog := X.prog) (w := X.w) (A := X.A.in1) (I.ok.hd hc) l i2 b n2 jts.toArray) hz hTI hTO ⟨g1, p⟩ ⟨g2, p2⟩ (by simp; omega) (by simp; omega) (by simp; omega) fun h' tk hk => ⟨rfl, ?_⟩
    exact I.turnedL (t' := tk) (ch := [z, TI, TO, i1, i2]) (fun c o hb q => hk c o (fun w => hb (by simp [w])) (fun w => hb (by simp [w])) (fun w => hb (by simp [w])) (fun w => hb (by simp [w])) q) hf
  self := fun A i s Q E st h => wpAny_pyIter_zip st.1 h
theorem beginsB (k : Bool) (a : Addr) (its : Array Value) : ∃ o, Begins (.ref a) o (fun h => sqB h a its k) ∧ ∀ (h : Heap) (it : Addr), h.get? it = some o → itB h it a 0 k := by
  cases k with
  | true => exact ⟨_, begins_list a its, fun h it e => ⟨_, e, rfl, rfl⟩⟩
  | false => exact ⟨_, begins_tuple a its, fun h it e => ⟨_, e, rfl, rfl⟩⟩
def iZipB (K : PySem.W.Frag) (ta : TA) : TI := fun σ H R => ta σ H fun vs H1 => ∃ a b k l xs ys, vs = [.ref a, .ref b] ∧ SqB K H1 a xs k ∧ SqB K H1 b ys l ∧ R (ItzB K a b k l) H1
theorem pi_zipB {X : Cx} {e e2 : Expr} {ta : TA} {p pos tpos : Pos} {elts : List Expr} {kk : Nat} (hg : Gl X "zip") (hm : X.mg "zip" = none) (ha : PA X [e, e2] ta)
    (hs : starEach [e, e2] X.env = (false, eval e X.env) :: starEach [e2] X.env := by rfl) (hpl : (backTo pos (starEach [e2] X.env)).any (·.1) = false := by rfl) :
    PI X (.Tuple elts kk tpos) (.Call (.Name "zip" p) [e, e2] [] pos) (iZipB X.K ta) := by
  refine ⟨fun pins s σ H R I h => ?_⟩
  refine Call_ (ld_blt I hg hm PyProof.Rows.boot_zip (PyProof.Rows.callWith_type1 (thn (ha.run pos pins s σ H _ I h) fun us s1 ⟨vs, H1, I1, r1, q1⟩ => ?_) hs hpl))
  obtain ⟨a, b, k, l, xs, ys, ex, hqx, hqy, q⟩ := q1
  subst ex
  cases r1 with
  | cons r rr =>
  cases rr with
  | cons r' rr =>
  cases rr
  cases r
  cases r'
  obtain ⟨its, rv, p1, la⟩ := hqx.raw I1
  obtain ⟨jts, rw2, p2, lb⟩ := hqy.raw I1
  obtain ⟨o1, B1, s1i⟩ := beginsB k a its.toArray
  obtain ⟨o2, B2, s2i⟩ := beginsB l b jts.toArray
  refine zip_begins2 B1 B2 p1 p2 fun h' hz hTI hTO hi1 hi2 hsz hk => wpAny_pyIter_zip hz ?_
  have I2 : Inv X pins σ H1 { s1 with heap := h' } := I1.kept (t' := s1.toks) hk
  have S := zip_sep2 (N := s1.heap.objs.size) (fp1 := [a]) (fp2 := [b]) (fun c hc => by rw [List.mem_singleton.mp hc]; exact la) (fun c hc => by rw [List.mem_singleton.mp hc]; exact lb)
  have fresh5 : ∀ c, c ∈ [s1.heap.objs.size + 4, s1.heap.objs.size + 2, s1.heap.objs.size + 3, s1.heap.objs.size, s1.heap.objs.size + 1] → FpOk X pins H1 c := fun c hcm => by
    have m : c = s1.heap.objs.size + 4 ∨ c = s1.heap.objs.size + 2 ∨ c = s1.heap.objs.size + 3 ∨ c = s1.heap.objs.size ∨ c = s1.heap.objs.size + 1 := by simpa using hcm
    have le : s1.heap.objs.size ≤ c := by
      rcases m with z | z | z | z | z <;> rw [z]
      · exact Nat.le_add_right _ _
      · exact Nat.le_add_right _ _
      · exact Nat.le_add_right _ _
      · exact Nat.le_refl _
      · exact Nat.le_add_right _ _
    exact I1.fpOk le (I1.hok.fresh le)
  exact ⟨s1.heap.objs.size + 4, [s1.heap.objs.size + 4, s1.heap.objs.size + 2, s1.heap.objs.size + 3, s1.heap.objs.size, s1.heap.objs.size + 1], _, _, H1, rfl, I2, turn_zipB S (Nat.ne_of_lt la) (Nat.ne_of_lt (Nat.lt_succ_of_lt lb)), ⟨hz, hTI, ⟨_, _, hTO⟩, s1i _ _ hi1, s2i _ _ hi2⟩, fresh5, q⟩
theorem walk_zipB {K : PySem.W.Frag} {a b : Addr} {k l : Bool} {xs ys : List V} {n : Nat} (hn : n = min xs.length ys.length) : Walk (ItzB K a b k l) n (fun H => SqB K H a xs k ∧ SqB K H b ys l) (YPair (fun i => xs[i]?) (fun i => ys[i]?)) := by
  subst hn
  refine ⟨fun i _ hi q => ?_, fun _ q => ⟨xs, ys, q.1, q.2, by omega, by omega, by omega⟩, fun i H v H' _ q y => ?_⟩
  · exact ⟨xs, ys, xs[i], ys[i], q.1, q.2, by simp [show i < xs.length by omega], by simp [show i < ys.length by omega]⟩
  · obtain ⟨T, x, z, g1, g2, g3, g4, g5⟩ := y
    exact ⟨T, x, z, g1, g2, g3, g4 xs q.1, g5 ys q.2⟩
end AL
set_option Elab.async false
set_option maxRecDepth 100000
set_option exponentiation.threshold 70000
set_option maxHeartbeats 1000000
namespace AL
open PySem PySem.Spec PyProof.Rows L2 RZ
section
variable {P : Program} {w : World} {K : PySem.W.Frag} {mg : Str → Option Value} {base : Heap}

/-- exponents_in(powers, measures, many) -/
def spXi : Sp := fun vs H Q _ => ∃ (x d : Addr) (n : Nat) (ps : Pw) (ms : List Me), vs = [.ref x, .ref d, .int (n : Int)] ∧ H x = some (.dK (pwV ps)) ∧ MeAt H d ms ∧ n ≤ 6 ∧ x ≠ d ∧ (∀ p ∈ ps, ∃ m, meOf ms p.1 = some m ∧ m.row.length = n ∧ ∀ k ∈ m.row, k.natAbs < 2 ^ 60) ∧ wt ps < 2 ^ 60 ∧ ∀ t H', Same H H' → H' t = some (.tup ((exV ms n ps).map V.int)) → Q (.ref t) H'
/-- size_in(powers, measures) -/
def spSi : Sp := fun vs H Q _ => ∃ (x d : Addr) (E : Nat) (ps : Pw) (ms : List Me), vs = [.ref x, .ref d] ∧ H x = some (.dK (pwV ps)) ∧ MeAt H d ms ∧ x ≠ d ∧ (∀ p ∈ ps, ∃ m, meOf ms p.1 = some m ∧ m.sz ≠ 0 ∧ Lim (2 ^ E) m.sz) ∧ (E + 1) * wt ps ≤ 5900 ∧ E ≤ 5000 ∧ ∀ t H', Same H H' → RQ H' t (szV ms ps) → Q (.ref t) H'
theorem rowOf_of {ms : List Me} {l : List Nat} {m : Me} (h : meOf ms l = some m) : rowOf ms l = m.row := by unfold rowOf; rw [h]
theorem szOf_of {ms : List Me} {l : List Nat} {m : Me} (h : meOf ms l = some m) : szOf ms l = m.sz := by unfold szOf; rw [h]
/-- what stays but for one dict that is locked -/
def SamE (x : Addr) (H H' : Hp) : Prop := ∀ b o, b ≠ x → H b = some o → H' b = some o
theorem SamE.refl (x : Addr) (H : Hp) : SamE x H H := fun _ _ _ h => h
theorem SamE.then {x : Addr} {H H' H2 : Hp} (a : SamE x H H') (b : Same H' H2) : SamE x H H2 := fun c o n h => b _ _ (a c o n h)
theorem MeAt.samE {x d : Addr} {H H' : Hp} {ms : List Me} (s : SamE x H H') (nd : x ≠ d) (hx : ∃ kvs, H x = some (.dK kvs)) (h : MeAt H d ms) : MeAt H' d ms := by
  obtain ⟨kvs, h1, h2⟩ := h
  obtain ⟨ks, hx⟩ := hx
  have no : ∀ {b : Addr} {l : List V}, H b = some (.tup l) → b ≠ x := fun h z => by rw [z, hx] at h; cases h
  refine ⟨kvs, s _ _ (fun z => nd z.symm) h1, paired_imp (fun _ _ z => ⟨z.1, ?_⟩) h2⟩
  obtain ⟨t, r, y, e, k1, k2, k3⟩ := z.2
  exact ⟨t, r, y, e, s _ _ (no k1) k1, s _ _ (no k2) k2, s _ _ (no k3) k3⟩
theorem unlock {x : Addr} {H H0 H' : Hp} {o : HO} (s : Same H H0) (hx : H x = some o) (e : SamE x H0 H') : Same H (upd H' x o) := fun b u h => by
  by_cases z : b = x
  · subst z; rw [upd_same, ← hx, h]
  · rw [upd_ne z]; exact e _ _ z (s _ _ h)
theorem rep_flat (n : Nat) : (List.replicate n [V.int 0]).flatten = (List.replicate n (0 : Int)).map V.int := by
  induction n with
  | zero => rfl
  | succ n ih => rw [List.replicate_succ, List.flatten_cons, List.replicate_succ, List.map_cons, ih]; rfl
theorem map_intE {l : List Int} {i : Nat} {v : V} (h : (l.map V.int)[i]? = some v) : ∃ z, l[i]? = some z ∧ v = .int z := by
  rw [List.getElem?_map] at h
  cases e : l[i]? with
  | none => rw [e] at h; cases h
  | some z => rw [e] at h; exact ⟨z, rfl, (Option.some.inj h).symm⟩
theorem pw_get {ps : Pw} {i : Nat} {kv : Key × V} (h : (pwV ps)[i]? = some kv) : ∃ p, ps[i]? = some p ∧ kv = (kS p.1, .int p.2) := by
  unfold pwV at h
  rw [List.getElem?_map] at h
  cases e : ps[i]? with
  | none => rw [e] at h; cases h
  | some p => rw [e] at h; exact ⟨p, rfl, (Option.some.inj h).symm⟩

abbrev stsize_in : Stmt := top 34
theorem scsize_in : FnScope ["powers", "measures", "size", "name", "power"] ["powers", "measures"] (defScope stsize_in) := ⟨rfl, rfl, rfl, by decide +kernel, rfl, by decide +kernel, by decide +kernel⟩
theorem oksize_in (B : Blt mg) {CUnits : Addr} (Es : ErU K mg CUnits) {flowest : Addr} {fdlowest : FuncData} (Dlowest : DefAt K mg "lowest" stlowest ["top", "bottom"] flowest fdlowest) {fwhole_power : Addr} {fdwhole_power : FuncData} (Dwhole_power : DefAt K mg "whole_power" stwhole_power ["base", "n"] fwhole_power fdwhole_power) {fratio_power : Addr} {fdratio_power : FuncData} (Dratio_power : DefAt K mg "ratio_power" stratio_power ["ratio", "n"] fratio_power fdratio_power) {fratio_product : Addr} {fdratio_product : FuncData} (Dratio_product : DefAt K mg "ratio_product" stratio_product ["one", "other"] fratio_product fdratio_product) {fsize_in : Addr} {fdsize_in : FuncData} (Dsize_in : DefAt K mg "size_in" stsize_in ["powers", "measures"] fsize_in fdsize_in) : FnOk P w K mg base CX0 3 fsize_in fdsize_in ["powers", "measures"] spSi := by
  obtain ⟨uD, hD, rD⟩ := Es.dig
  obtain ⟨uM, hM, rM⟩ := Es.most
  obtain ⟨uL, hL, rL⟩ := Es.lett
  obtain ⟨uN, hN, rN⟩ := Es.long
  obtain ⟨uB, hB, rB⟩ := Es.most6
  have OKratio_power : FnOk P w K mg base CX0 2 fratio_power fdratio_power ["ratio", "n"] spPowU := okratio_power B Es Dlowest Dwhole_power Dratio_power
  have OKratio_product : FnOk P w K mg base CX0 1 fratio_product fdratio_product ["one", "other"] (spTwoL mulR) := okratio_product B Es Dratio_product
  refine Dsize_in.F.ok scsize_in (fun vs H Q E h => ?_) (fun cdv A outer s H vs Q E hr h => ?_)
  · obtain ⟨x, d, E, ps, ms, rfl, _⟩ := h; rfl
  · have hu := hu_of hr
    refine ⟨_, (pss_cons (ps_set (i := 2) scsize_in.nd rfl (Or.inl rfl) (pe_tup (pa_cons pe_int (pa_cons pe_int pa_nil))))
    (pss_cons (ps_lock (ps_for PassesOwn.never rfl (pi_items (pv 0)) (pg_tup rfl (pgs_cons (pg_name (i := 3) scsize_in.nd rfl (Or.inl rfl)) (pgs_cons (pg_name (i := 4) scsize_in.nd rfl (Or.inl rfl)) pgs_nil)))
      (pss_one (ps_set (i := 2) scsize_in.nd rfl (Or.inl rfl) (pe_call OKratio_product (hr.mono (by decide)) rfl Dratio_product.m Dratio_product.F.kp Dratio_product.b .nil pass0 (pa_cons (pv 2) (pa_cons (pe_call OKratio_power (hr.mono (by decide)) rfl Dratio_power.m Dratio_power.F.kp Dratio_power.b .nil pass0 (pa_cons (pe_ix ix_tup (pe_dget hu (pv 1) (pv 3) (fun _ _ => rfl)) pe_int (fun _ _ => rfl)) (pa_cons (pv 4) pa_nil))) pa_nil)))))))
    (pss_one (ps_ret (pv 2))))), ?_⟩
    obtain ⟨x, d, E9, ps, ms, rfl, hx, hm, nd, hk, hw, hE, q⟩ := h
    refine ⟨(by show 2 ≤ sizeLine; decide), fun t0 ht0 => ?_⟩
    have s0 := AL.Same.new (o := .tup [.int 1, .int 1]) ht0
    have hx0 := s0 _ _ hx
    have hm0 := hm.same s0
    have r0 : RQ (upd H t0 (.tup [.int 1, .int 1])) t0 1 := upd_same
    generalize hH0 : upd H t0 (.tup [.int 1, .int 1]) = H0 at s0 hx0 hm0 r0 ⊢
    refine ⟨x, _, hx0, trivial, fun od => ?_⟩
    have e0 : SamE x H0 (upd H0 x (.frz od (.dK (pwV ps)))) := fun b o n h => by rw [upd_ne n]; exact h
    refine ⟨_, rfl, x, od, _, rfl, upd_same, for_it (walk_items (d := x) (o := od) (kvs := pwV ps)) (fun i σ H' => ∃ (t : Addr) (v3 v4 : Option V), σ = [some (.ref x), some (.ref d), some (.ref t), v3, v4] ∧ H' x = some (.frz od (.dK (pwV ps))) ∧ SamE x H0 H' ∧ RQ H' t (szV ms (ps.take i))) ⟨t0, none, none, rfl, upd_same, e0, e0 _ _ (fun z => by unfold RQ RatAt at r0; rw [z, hx0] at r0; cases r0) r0⟩ (fun i σ H' _ hh => let ⟨_, _, _, _, h, _⟩ := hh; h) ?_ ?_⟩
    · rintro i y σ H2 H2' hi ⟨t, v3, v4, rfl, fx, sE, rt⟩ ⟨Tt, x0, y0, rfl, hTt, rfl, e1, e2⟩
      obtain ⟨p, hp, hq⟩ : ∃ p, ps[i]? = some p ∧ (pwV ps)[i]? = some (kS p.1, V.int p.2) := by
        obtain ⟨p, hp, e⟩ := pw_get (List.getElem?_eq_getElem hi)
        exact ⟨p, hp, by rw [List.getElem?_eq_getElem hi, e]⟩
      dsimp only at e1 e2
      have ex0 : x0 = .str (S p.1) := by rw [hq] at e1; exact (Option.some.inj e1).symm
      have ey0 : y0 = .int p.2 := by rw [hq] at e2; exact (Option.some.inj e2).symm
      subst ex0; subst ey0
      have pm := List.mem_of_getElem? hp
      have nT := AL.Same.new (o := .tup [.str (S p.1), .int p.2]) hTt
      refine ⟨Tt, _, rfl, SqT.of upd_same, rfl, _, _, rfl, _, _, rfl, rfl, ?_⟩
      have s3 := sE.then nT
      have fx3 := nT _ _ fx
      have rt3 := nT _ _ rt
      generalize upd H2 Tt (.tup [.str (S p.1), .int p.2]) = H3 at s3 fx3 rt3 ⊢
      obtain ⟨m, hmo, nz, lm⟩ := hk p pm
      obtain ⟨v, hg, tt, r, z, rfl, k1, k2, k3⟩ := (hm0.samE s3 nd ⟨_, hx0⟩).get hmo
      have ltE : ∀ {y : Nat}, y ≤ 2 ^ E9 → y < 2 ^ (E9 + 1) := fun h => Nat.lt_of_le_of_lt h (Nat.pow_lt_pow_right (by decide) (by omega))
      have wp : (E9 + 1) * p.2.natAbs ≤ 5900 := Nat.le_trans (Nat.mul_le_mul_left _ (wt_mem pm)) hw
      refine ⟨_, rfl, _, rfl, _, rfl, d, _, rfl, hg, tt, _, _, _, rfl, rfl, SqT.of k1, rfl, _, rfl, ?_⟩
      refine ⟨z, m.sz.num, m.sz.den, p.2, E9 + 1, rfl, k3, ltE lm.1, ltE lm.2, by omega, by omega, by omega, fun w => nz (Rat.num_eq_zero.mp w.2), fun u hu => ?_⟩
      rw [pw_zpw m.sz p.2 nz]
      have nu := AL.Same.new (o := .tup [.int (zpw m.sz p.2).num, .int ((zpw m.sz p.2).den : Int)]) hu
      have hall : ∀ p' ∈ ps.take i, szOf ms p'.1 ≠ 0 ∧ Lim (2 ^ E9) (szOf ms p'.1) := fun p' h' => by
        obtain ⟨m', h1, h2, h3⟩ := hk p' (List.mem_of_mem_take h')
        rw [szOf_of h1]; exact ⟨h2, h3⟩
      have l1 := lim_szV _ hall
      have l2 := lim_zp (n := p.2) nz lm
      have w1 : E9 * wt (ps.take i) ≤ 5900 := Nat.le_trans (Nat.mul_le_mul (by omega : E9 ≤ E9 + 1) (wt_take ps i)) hw
      have w2 : E9 * p.2.natAbs ≤ 5900 := Nat.le_trans (Nat.mul_le_mul_right _ (by omega : E9 ≤ E9 + 1)) wp
      refine ⟨t, u, _, _, _, _, rfl, nu _ _ rt3, upd_same, lim_mid l1 (by omega), lim_mid l2 (by omega), low_rat _, low_rat _, fun u2 hu2 => ?_⟩
      rw [mul_rat]
      have n2 := AL.Same.new (o := .tup [.int (szV ms (ps.take i) * zpw m.sz p.2).num, .int ((szV ms (ps.take i) * zpw m.sz p.2).den : Int)]) hu2
      refine ⟨u2, _, _, rfl, n2 _ _ (nu _ _ fx3), (s3.then nu).then n2, ?_⟩
      rw [List.take_add_one, hp]
      show RQ _ u2 (szV ms (ps.take i ++ [p]))
      rw [szV_snoc, szOf_of hmo]
      exact upd_same
    rintro σ H' ⟨t, v3, v4, rfl, fx, sE, rt⟩
    refine ⟨fx, ?_⟩
    rw [show (pwV ps).length = ps.length by unfold pwV; rw [List.length_map], List.take_length] at rt
    refine ⟨_, rfl, q t _ (unlock s0 hx sE) ?_⟩
    unfold RQ RatAt at rt ⊢
    rw [upd_ne (fun z => by rw [z, fx] at rt; cases rt)]
    exact rt
abbrev stexponents_in : Stmt := top 33
theorem scexponents_in : FnScope ["powers", "measures", "many", "total", "name", "power", "old", "new"] ["powers", "measures", "many"] (defScope stexponents_in) := ⟨rfl, rfl, rfl, by decide +kernel, rfl, by decide +kernel, by decide +kernel⟩
theorem okexponents_in (B : Blt mg) {CUnits : Addr} (Es : ErU K mg CUnits) {fexponents_in : Addr} {fdexponents_in : FuncData} (Dexponents_in : DefAt K mg "exponents_in" stexponents_in ["powers", "measures", "many"] fexponents_in fdexponents_in) : FnOk P w K mg base CX0 1 fexponents_in fdexponents_in ["powers", "measures", "many"] spXi := by
  obtain ⟨uD, hD, rD⟩ := Es.dig
  obtain ⟨uM, hM, rM⟩ := Es.most
  obtain ⟨uL, hL, rL⟩ := Es.lett
  obtain ⟨uN, hN, rN⟩ := Es.long
  obtain ⟨uB, hB, rB⟩ := Es.most6
  refine Dexponents_in.F.ok scexponents_in (fun vs H Q E h => ?_) (fun cdv A outer s H vs Q E hr h => ?_)
  · obtain ⟨x, d, n, ps, ms, rfl, _⟩ := h; rfl
  · have hu := hu_of hr
    refine ⟨_, (pss_cons (ps_set (i := 3) scexponents_in.nd rfl (Or.inl rfl) (pe_op op_rep (pe_lst (pa_cons pe_int pa_nil)) (pv 2)))
    (pss_cons (ps_lock (ps_for PassesOwn.never rfl (pi_items (pv 0)) (pg_tup rfl (pgs_cons (pg_name (i := 4) scexponents_in.nd rfl (Or.inl rfl)) (pgs_cons (pg_name (i := 5) scexponents_in.nd rfl (Or.inr rfl)) pgs_nil)))
      (pss_one (ps_setLc (i := 3) (own := [("old", 6), ("new", 7)]) (g := gTup K 2 (gCons (gName 6) (gCons (gName 7) gNil))) (tt := tYes) rfl scexponents_in.nd rfl rfl (sw_true rfl rfl rfl (by decide +kernel)) (pi_zipB (by rfl) B.zip_ (pa_cons (pv 3) (pa_cons (pe_ix ix_tup (pe_dget hu (pv 1) (pv 4) (fun _ _ => rfl)) pe_int (fun _ _ => rfl)) pa_nil))) (blkOk_by (own := [("old", 6), ("new", 7)]) (N := ["powers", "measures", "many", "total", "name", "power", "old", "new"]) (sc := defScope stexponents_in) (by decide +kernel)) (fun _ _ _ _ _ => (pg_tup rfl (pgs_cons (pg_name (i := 6) scexponents_in.nd rfl (Or.inl rfl)) (pgs_cons (pg_name (i := 7) scexponents_in.nd rfl (Or.inl rfl)) pgs_nil)))) (fun _ _ _ _ _ => pts_nil) (fun _ _ _ _ _ => (pe_op op_add (pv 6) (pe_op op_mulW (pv 5) (pv 7))))))))
    (pss_one (ps_ret (pe_callTy call_tuple_of (by rfl) B.tuple_ (by decide +kernel) (pa_cons (pv 3) pa_nil)))))), ?_⟩
    obtain ⟨x, d, n, ps, ms, rfl, hx, hm, hn, nd, hk, hw, q⟩ := h
    refine ⟨(by show 1 ≤ sizeLine; decide), fun l0 hl0 => ?_⟩
    have s0 := AL.Same.new (o := .lst [.int 0]) hl0
    refine ⟨_, rfl, l0, (n : Int), _, rfl, rfl, upd_same, by omega, by omega, by rw [Int.toNat_natCast]; exact Nat.le_trans (by show 1 * n ≤ 6; omega) (by decide), fun t0 ht0 => ?_⟩
    rw [Int.toNat_natCast]
    have s1 := s0.trans (AL.Same.new (o := .lst (List.replicate n [V.int 0]).flatten) ht0)
    have l1 : (upd (upd H l0 (.lst [.int 0])) t0 (.lst (List.replicate n [V.int 0]).flatten)) t0 = some (.lst ((exV ms n []).map V.int)) := by
      rw [upd_same, exV_nil]
      rw [rep_flat]
    generalize hH0 : upd (upd H l0 (.lst [.int 0])) t0 (.lst (List.replicate n [V.int 0]).flatten) = H0 at s1 l1 ⊢
    have hx0 := s1 _ _ hx
    have hm0 := hm.same s1
    refine ⟨x, _, hx0, trivial, fun od => ?_⟩
    have e0 : SamE x H0 (upd H0 x (.frz od (.dK (pwV ps)))) := fun b o n h => by rw [upd_ne n]; exact h
    refine ⟨_, rfl, x, od, _, rfl, upd_same, for_it (walk_items (d := x) (o := od) (kvs := pwV ps)) (fun i σ H' => ∃ (t : Addr) (v3 v4 : Option V), σ = [some (.ref x), some (.ref d), some (.int (n : Int)), some (.ref t), v3, v4, none, none] ∧ H' x = some (.frz od (.dK (pwV ps))) ∧ SamE x H0 H' ∧ H' t = some (.lst ((exV ms n (ps.take i)).map V.int))) ⟨t0, none, none, rfl, upd_same, e0, e0 _ _ (fun z => by rw [z, hx0] at l1; cases l1) l1⟩ (fun i σ H' _ hh => let ⟨_, _, _, _, h, _⟩ := hh; h) ?_ ?_⟩
    · rintro i y σ H2 H2' hi ⟨t, v3, v4, rfl, fx, sE, rt⟩ ⟨Tt, x0, y0, rfl, hTt, rfl, e1, e2⟩
      obtain ⟨p, hp, hq⟩ : ∃ p, ps[i]? = some p ∧ (pwV ps)[i]? = some (kS p.1, V.int p.2) := by
        obtain ⟨p, hp, e⟩ := pw_get (List.getElem?_eq_getElem hi)
        exact ⟨p, hp, by rw [List.getElem?_eq_getElem hi, e]⟩
      dsimp only at e1 e2
      have ex0 : x0 = .str (S p.1) := by rw [hq] at e1; exact (Option.some.inj e1).symm
      have ey0 : y0 = .int p.2 := by rw [hq] at e2; exact (Option.some.inj e2).symm
      subst ex0; subst ey0
      have pm := List.mem_of_getElem? hp
      have nT := AL.Same.new (o := .tup [.str (S p.1), .int p.2]) hTt
      refine ⟨Tt, _, rfl, SqT.of upd_same, rfl, _, _, rfl, _, _, rfl, rfl, ?_⟩
      have s3 := sE.then nT
      have fx3 := nT _ _ fx
      have rt3 := nT _ _ rt
      generalize upd H2 Tt (.tup [.str (S p.1), .int p.2]) = H3 at s3 fx3 rt3 ⊢
      obtain ⟨m, hmo, rl, rb⟩ := hk p pm
      obtain ⟨v, hg, tt, r, z, rfl, k1, k2, k3⟩ := (hm0.samE s3 nd ⟨_, hx0⟩).get hmo
      have wp : p.2.natAbs < 2 ^ 60 := Nat.lt_of_le_of_lt (wt_mem pm) hw
      refine ⟨_, rfl, _, rfl, _, rfl, d, _, rfl, hg, tt, _, _, _, rfl, rfl, SqT.of k1, rfl, t, r, true, false, _, _, rfl, SqL.of rt3, SqT.of k2, fun D hD => ?_⟩
      refine lc_it (walk_zipB (K := K) (a := t) (b := r) (k := true) (l := false) (xs := (exV ms n (ps.take i)).map V.int) (ys := m.row.map V.int) (n := n) (by rw [List.length_map, List.length_map, exV_len]; omega)) (fun i2 H' => Same H3 H' ∧ H' D = some (.lst (((List.zipWith (fun o w => o + p.2 * w) (exV ms n (ps.take i)) m.row).take i2).map V.int))) ⟨AL.Same.new hD, upd_same⟩ (fun i2 H' _ hh => ⟨SqL.of (hh.1 _ _ rt3), SqT.of (hh.1 _ _ k2)⟩) ?_ ?_
      · rintro i2 x2 H5 H5' hi2 ⟨s5, hd5⟩ ⟨T0, u1, u2, rfl, hT, rfl, f1, f2⟩
        obtain ⟨z1, c1, rfl⟩ := map_intE f1
        obtain ⟨z2, c2, rfl⟩ := map_intE f2
        have hDT : D ≠ T0 := fun w => by rw [w, hT] at hd5; cases hd5
        have sT : Same H3 (upd H5 T0 (.tup [.int z1, .int z2])) := s5.trans (AL.Same.new hT)
        have b2 := rb z2 (List.mem_of_getElem? c2)
        refine ⟨T0, _, rfl, SqT.of upd_same, rfl, _, _, rfl, _, _, rfl, rfl, rfl, ?_⟩
        refine ⟨_, rfl, _, rfl, _, rfl, _, _, rfl, rfl, wide_mul (a := 60) (b := 60) wp b2 (by decide) (by decide) (by decide), _, _, rfl, rfl, _, Eq.trans (upd_ne hDT) hd5, ?_, AL.Same.updn sT hD, ?_⟩
        · rw [List.length_map, List.length_take]
          exact Nat.lt_of_le_of_lt (by omega : _ ≤ 100) (by decide)
        · rw [upd_same]
          have c3 : (List.zipWith (fun o w => o + p.2 * w) (exV ms n (ps.take i)) m.row)[i2]? = some (z1 + p.2 * z2) := by rw [List.getElem?_zipWith, c1, c2]
          rw [take_map_snoc _ c3]
      · rintro H5 ⟨s5, hd5⟩
        refine ⟨D, _, _, rfl, s5 _ _ fx3, s3.then s5, ?_⟩
        rw [hd5, List.take_of_length_le (by rw [List.length_zipWith, exV_len]; omega), List.take_add_one, hp]
        show _ = some (HO.lst ((exV ms n (ps.take i ++ [p])).map V.int))
        rw [← exV_snoc ms n _ p (by rw [rowOf_of hmo, rl]), rowOf_of hmo]
    rintro σ H' ⟨t, v3, v4, rfl, fx, sE, rt⟩
    refine ⟨fx, ?_⟩
    rw [show (pwV ps).length = ps.length by unfold pwV; rw [List.length_map], List.take_length] at rt
    have ux := unlock s1 hx sE
    have rt' : (upd H' x (.dK (pwV ps))) t = some (.lst ((exV ms n ps).map V.int)) := by rw [upd_ne (fun z => by rw [z, fx] at rt; cases rt)]; exact rt
    refine ⟨_, rfl, t, _, rfl, .inl ⟨SqL.of rt', fun l hl => ?_⟩⟩
    exact q l _ (ux.trans (AL.Same.new hl)) upd_same
end
end AL
set_option Elab.async false
set_option maxRecDepth 100000
set_option exponentiation.threshold 70000
set_option maxHeartbeats 1000000
namespace AL
open PySem PySem.Spec PyProof.Rows L2 RZ
section
variable {P : Program} {w : World} {K : PySem.W.Frag} {mg : Str → Option Value} {base : Heap}

/-- units stand at x -/
structure UnAt (CU : Addr) (H : Hp) (x : Addr) (B : List (List Nat)) (ms : List Me) : Prop where
  ex : ∃ dx fs d b, H x = some (.ins CU dx fs) ∧ fs.lookup ("measures" : Str) = some (.ref d) ∧ fs.lookup ("base" : Str) = some (.ref b) ∧ fs.lookup ("exponents_of" : Str) = none ∧ fs.lookup ("size_of" : Str) = none ∧ fs.lookup ("written" : Str) = none ∧ MeAt H d ms ∧ H b = some (.tup (B.map vS))
  le : B.length ≤ 6
  row : ∀ m ∈ ms, m.row.length = B.length ∧ (∀ k ∈ m.row, k.natAbs < 2 ^ 60) ∧ m.sz ≠ 0
theorem UnAt.same {CU x : Addr} {H H' : Hp} {B : List (List Nat)} {ms : List Me} (s : Same H H') (h : UnAt CU H x B ms) : UnAt CU H' x B ms := by
  obtain ⟨dx, fs, d, b, h1, h2, h3, h4, h5, h6, h7, h8⟩ := h.ex
  exact ⟨⟨dx, fs, d, b, s _ _ h1, h2, h3, h4, h5, h6, h7.same s, s _ _ h8⟩, h.le, h.row⟩
theorem meOf_mem {ms : List Me} {l : List Nat} {m : Me} (h : meOf ms l = some m) : m ∈ ms := List.mem_of_find?_eq_some h
theorem UnAt.nz {CU x : Addr} {H : Hp} {B : List (List Nat)} {ms : List Me} (h : UnAt CU H x B ms) (l : List Nat) : szOf ms l ≠ 0 := by
  unfold szOf
  cases e : meOf ms l with
  | none => decide +kernel
  | some m => exact (h.row m (meOf_mem e)).2.2
theorem wt_pws {us : List UW} (h : ∀ u ∈ us, u.Ok) : wt (pws us) ≤ 99 * us.length := by
  induction us with
  | nil => exact Nat.le_refl _
  | cons u r ih =>
    have := ih fun v hv => h v (List.mem_cons_of_mem _ hv)
    have lo := (h u (List.mem_cons_self ..)).lo
    have hi := (h u (List.mem_cons_self ..)).hi
    show u.k.natAbs + wt (pws r) ≤ 99 * (r.length + 1)
    omega
theorem grp_kn {ms : List Me} {us : List UW} (h : KnU ms us) : ∀ p ∈ grp (pws us), ∃ m, meOf ms p.1 = some m := fun p hp => by
  have := grp_mem (pws us) p hp
  unfold pws at this
  rw [List.map_map] at this
  obtain ⟨u, hu, e⟩ := List.mem_map.mp this
  rw [← e]
  exact (h u hu).2
theorem wtx_len {us : List UW} (h : ∀ u ∈ us, u.Ok) : (TL.joinL [32] (wtx us)).length ≤ (us.length + 1) * 17 := by
  have a := joinL_len 32 (L := wtx us) (b := 16) fun l hl => by
    unfold wtx at hl
    split at hl
    · rw [show l = [49] by simpa using hl]; decide
    · obtain ⟨u, hu, rfl⟩ := List.mem_map.mp hl
      exact (tx_len (h u hu)).2
  refine Nat.le_trans a (Nat.mul_le_mul_right _ ?_)
  unfold wtx
  split
  · show 1 ≤ _; omega
  · rw [List.length_map]; omega
def spRd : Sp := fun vs H Q _ => ∃ (d : Addr) (us : List UW) (ms : List Me), vs = [.str (S (TL.joinL [32] (wtx us))), .ref d] ∧ us.length ≤ 1000 ∧ MeAt H d ms ∧ KnU ms us ∧ ∀ x H', H x = none → Same H H' → H' x = some (.dK (pwV (grp (pws us)))) → Q (.ref x) H'
/-- units.exponents_of(words) -/
def spUx (CU : Addr) : Sp := fun vs H Q _ => ∃ (x : Addr) (B : List (List Nat)) (us : List UW) (ms : List Me), vs = [.ref x, .str (S (TL.joinL [32] (wtx us)))] ∧ UnAt CU H x B ms ∧ us.length ≤ 1000 ∧ KnU ms us ∧ ∀ t H', Same H H' → H' t = some (.tup ((exV ms B.length (pws us)).map V.int)) → Q (.ref t) H'
/-- units.size_of(words) -/
def spUs (CU : Addr) : Sp := fun vs H Q _ => ∃ (x : Addr) (B : List (List Nat)) (us : List UW) (ms : List Me) (E : Nat), vs = [.ref x, .str (S (TL.joinL [32] (wtx us)))] ∧ UnAt CU H x B ms ∧ us.length ≤ 1000 ∧ KnU ms us ∧ (∀ u ∈ us, Lim (2 ^ E) (szOf ms u.nm)) ∧ (E + 1) * wt (pws us) ≤ 5900 ∧ E ≤ 5000 ∧ ∀ t H', Same H H' → RQ H' t (szV ms (pws us)) → Q (.ref t) H'

abbrev stchecked_powers : Stmt := top 31
theorem scchecked_powers : FnScope ["words", "measures", "ahead", "wrong", "told"] ["words", "measures", "ahead"] (defScope stchecked_powers) := ⟨rfl, rfl, rfl, by decide +kernel, rfl, by decide +kernel, by decide +kernel⟩
theorem okchecked_powers (B : Blt mg) {CUnits : Addr} (Es : ErU K mg CUnits) {fis_exponent : Addr} {fdis_exponent : FuncData} (Dis_exponent : DefAt K mg "is_exponent" stis_exponent ["text"] fis_exponent fdis_exponent) {fis_name : Addr} {fdis_name : FuncData} (Dis_name : DefAt K mg "is_name" stis_name ["text"] fis_name fdis_name) {fnamed_power : Addr} {fdnamed_power : FuncData} (Dnamed_power : DefAt K mg "named_power" stnamed_power ["word"] fnamed_power fdnamed_power) {fpowers_of : Addr} {fdpowers_of : FuncData} (Dpowers_of : DefAt K mg "powers_of" stpowers_of ["words"] fpowers_of fdpowers_of) {fwrong_unit_word : Addr} {fdwrong_unit_word : FuncData} (Dwrong_unit_word : DefAt K mg "wrong_unit_word" stwrong_unit_word ["words", "measures"] fwrong_unit_word fdwrong_unit_word) {fchecked_powers : Addr} {fdchecked_powers : FuncData} (Dchecked_powers : DefAt K mg "checked_powers" stchecked_powers ["words", "measures", "ahead"] fchecked_powers fdchecked_powers) : FnOk P w K mg base CX0 4 fchecked_powers fdchecked_powers ["words", "measures", "ahead"] spCk := by
  obtain ⟨uD, hD, rD⟩ := Es.dig
  obtain ⟨uM, hM, rM⟩ := Es.most
  obtain ⟨uL, hL, rL⟩ := Es.lett
  obtain ⟨uN, hN, rN⟩ := Es.long
  obtain ⟨uB, hB, rB⟩ := Es.most6
  have OKnamed_power : FnOk P w K mg base CX0 2 fnamed_power fdnamed_power ["word"] spNp := oknamed_power B Es Dis_exponent Dis_name Dnamed_power
  have OKpowers_of : FnOk P w K mg base CX0 3 fpowers_of fdpowers_of ["words"] spPo := okpowers_of B Es Dis_exponent Dis_name Dnamed_power Dpowers_of
  have OKwrong_unit_word : FnOk P w K mg base CX0 3 fwrong_unit_word fdwrong_unit_word ["words", "measures"] spWu := okwrong_unit_word B Es Dis_exponent Dis_name Dnamed_power Dwrong_unit_word
  refine Dchecked_powers.F.ok scchecked_powers (fun vs H Q E h => ?_) (fun cdv A outer s H vs Q E hr h => ?_)
  · obtain ⟨a, d, us, ms, k, rfl, _⟩ := h; rfl
  · have hu := hu_of hr
    refine ⟨_, (pss_cons (ps_set (i := 3) scchecked_powers.nd rfl (Or.inl rfl) (pe_call OKwrong_unit_word (hr.mono (by decide)) rfl Dwrong_unit_word.m Dwrong_unit_word.F.kp Dwrong_unit_word.b .nil pass0 (pa_cons (pv 0) (pa_cons (pv 1) pa_nil))))
    (pss_cons (ps_if (pt_cmpR op_isN (pv 3) pe_non (nomark _)) (pss_one (ps_ret (pe_call OKpowers_of (hr.mono (by decide)) rfl Dpowers_of.m Dpowers_of.F.kp Dpowers_of.b .nil pass0 (pa_cons (pv 0) pa_nil)))) pss_nil)
    (pss_cons (ps_set (i := 4) scchecked_powers.nd rfl (Or.inl rfl) (pe_call OKnamed_power (hr.mono (by decide)) rfl Dnamed_power.m Dnamed_power.F.kp Dnamed_power.b .nil pass0 (pa_cons (pe_ix ix_list (pv 0) (pv 3) (fun _ _ => rfl)) pa_nil)))
    (pss_cons (ps_if (PW.pt (pw_and (pt_cmpR op_notN (pv 4) pe_non (nomark _)) (pw_and1 (pt_cmpR op_ne (pe_ix ix_list (pv 0) pe_int (fun _ _ => rfl)) pe_str (nomark _))))) (pss_one ps_never) pss_nil)
    (pss_one ps_never))))), ?_⟩
    obtain ⟨a, d, us, ms, k, rfl, hw, hlen, hm, hk, q⟩ := h
    refine ⟨_, rfl, _, rfl, a, d, us, ms, rfl, hw, hlen, hm, hk, fun H1 s1 => ?_⟩
    refine ⟨_, rfl, rfl, _, rfl, ?_⟩
    refine iteT ?_
    exact ⟨_, rfl, a, us, rfl, hw.same s1, hlen, fun u hu => (hk u hu).1, fun x H2 hn s2 hx => q x H2 (none_of_same s1 hn) (s1.trans s2) hx⟩
abbrev stread_powers : Stmt := top 44
theorem scread_powers : FnScope ["text", "measures"] ["text", "measures"] (defScope stread_powers) := ⟨rfl, rfl, rfl, by decide +kernel, rfl, by decide +kernel, by decide +kernel⟩
theorem okread_powers (B : Blt mg) {CUnits : Addr} (Es : ErU K mg CUnits) {fis_exponent : Addr} {fdis_exponent : FuncData} (Dis_exponent : DefAt K mg "is_exponent" stis_exponent ["text"] fis_exponent fdis_exponent) {fis_name : Addr} {fdis_name : FuncData} (Dis_name : DefAt K mg "is_name" stis_name ["text"] fis_name fdis_name) {fnamed_power : Addr} {fdnamed_power : FuncData} (Dnamed_power : DefAt K mg "named_power" stnamed_power ["word"] fnamed_power fdnamed_power) {fpowers_of : Addr} {fdpowers_of : FuncData} (Dpowers_of : DefAt K mg "powers_of" stpowers_of ["words"] fpowers_of fdpowers_of) {fwrong_unit_word : Addr} {fdwrong_unit_word : FuncData} (Dwrong_unit_word : DefAt K mg "wrong_unit_word" stwrong_unit_word ["words", "measures"] fwrong_unit_word fdwrong_unit_word) {fchecked_powers : Addr} {fdchecked_powers : FuncData} (Dchecked_powers : DefAt K mg "checked_powers" stchecked_powers ["words", "measures", "ahead"] fchecked_powers fdchecked_powers) {fread_powers : Addr} {fdread_powers : FuncData} (Dread_powers : DefAt K mg "read_powers" stread_powers ["text", "measures"] fread_powers fdread_powers) : FnOk P w K mg base CX0 5 fread_powers fdread_powers ["text", "measures"] spRd := by
  obtain ⟨uD, hD, rD⟩ := Es.dig
  obtain ⟨uM, hM, rM⟩ := Es.most
  obtain ⟨uL, hL, rL⟩ := Es.lett
  obtain ⟨uN, hN, rN⟩ := Es.long
  obtain ⟨uB, hB, rB⟩ := Es.most6
  have OKchecked_powers : FnOk P w K mg base CX0 4 fchecked_powers fdchecked_powers ["words", "measures", "ahead"] spCk := okchecked_powers B Es Dis_exponent Dis_name Dnamed_power Dpowers_of Dwrong_unit_word Dchecked_powers
  refine Dread_powers.F.ok scread_powers (fun vs H Q E h => ?_) (fun cdv A outer s H vs Q E hr h => ?_)
  · obtain ⟨d, us, ms, rfl, _⟩ := h; rfl
  · have hu := hu_of hr
    refine ⟨_, (pss_cons (ps_if (pt_not (pt_val (pe_callB call_isi (by rfl) B.isinstance_ (by decide +kernel) (pa_cons (pv 0) (pa_cons (pe_bltn (v := .ty "str") (by rfl) B.str_ PyProof.Rows.Boot.«str» rfl) pa_nil))))) (pss_one ps_never) pss_nil)
    (pss_one (ps_ret (pe_call OKchecked_powers (hr.mono (by decide)) rfl Dchecked_powers.m Dchecked_powers.F.kp Dchecked_powers.b .nil pass0 (pa_cons (pe_split (pv 0) pe_str) (pa_cons (pv 1) (pa_cons pe_int pa_nil))))))), ?_⟩
    obtain ⟨d, us, ms, rfl, hlen, hm, hk, q⟩ := h
    have kok : ∀ u ∈ us, u.Ok := fun u hu => (hk u hu).1
    refine ⟨_, rfl, _, _, _, _, _, rfl, ClsV.ty _, TyX.base (.str _), rfl, true, rfl, ?_⟩
    refine iteF ?_
    have wl := wtx_len kok
    refine ⟨_, rfl, ⟨_, rfl⟩, _, _, rfl, rfl, by decide +kernel, by rw [S_len]; exact Nat.le_trans (by omega : _ ≤ 20000) (by decide), fun a ha => ?_⟩
    rw [spaceS, split_S 32 (by decide) (wtx_ne us) (wtx_no kok (.inl rfl)), List.map_map]
    have n1 := AL.Same.new (o := .lst (List.map (V.str ∘ S) (wtx us))) ha
    exact ⟨_, rfl, a, d, us, ms, 0, rfl, upd_same, hlen, hm.same n1, hk, fun x H2 hn s2 hx => q x H2 (none_of_same n1 hn) (n1.trans s2) hx⟩
abbrev stU_exp : Stmt := inClass (top 37) 1
theorem scU_exp : FnScope ["self", "words"] ["self", "words"] (defScope stU_exp) := ⟨rfl, rfl, rfl, by decide +kernel, rfl, by decide +kernel, by decide +kernel⟩
theorem okU_exp (B : Blt mg) {CUnits : Addr} (Es : ErU K mg CUnits) {fexponents_in : Addr} {fdexponents_in : FuncData} (Dexponents_in : DefAt K mg "exponents_in" stexponents_in ["powers", "measures", "many"] fexponents_in fdexponents_in) {fis_exponent : Addr} {fdis_exponent : FuncData} (Dis_exponent : DefAt K mg "is_exponent" stis_exponent ["text"] fis_exponent fdis_exponent) {fis_name : Addr} {fdis_name : FuncData} (Dis_name : DefAt K mg "is_name" stis_name ["text"] fis_name fdis_name) {fnamed_power : Addr} {fdnamed_power : FuncData} (Dnamed_power : DefAt K mg "named_power" stnamed_power ["word"] fnamed_power fdnamed_power) {fpowers_of : Addr} {fdpowers_of : FuncData} (Dpowers_of : DefAt K mg "powers_of" stpowers_of ["words"] fpowers_of fdpowers_of) {fwrong_unit_word : Addr} {fdwrong_unit_word : FuncData} (Dwrong_unit_word : DefAt K mg "wrong_unit_word" stwrong_unit_word ["words", "measures"] fwrong_unit_word fdwrong_unit_word) {fchecked_powers : Addr} {fdchecked_powers : FuncData} (Dchecked_powers : DefAt K mg "checked_powers" stchecked_powers ["words", "measures", "ahead"] fchecked_powers fdchecked_powers) {fread_powers : Addr} {fdread_powers : FuncData} (Dread_powers : DefAt K mg "read_powers" stread_powers ["text", "measures"] fread_powers fdread_powers) {fU_exp : Addr} {fdU_exp : FuncData} (DU_exp : MetA K "exponents_of" "Units.exponents_of" stU_exp ["self", "words"] CUnits fU_exp fdU_exp) : FnOk P w K mg base CX0 6 fU_exp fdU_exp ["self", "words"] (spUx CUnits) := by
  obtain ⟨uD, hD, rD⟩ := Es.dig
  obtain ⟨uM, hM, rM⟩ := Es.most
  obtain ⟨uL, hL, rL⟩ := Es.lett
  obtain ⟨uN, hN, rN⟩ := Es.long
  obtain ⟨uB, hB, rB⟩ := Es.most6
  have OKexponents_in : FnOk P w K mg base CX0 1 fexponents_in fdexponents_in ["powers", "measures", "many"] spXi := okexponents_in B Es Dexponents_in
  have OKread_powers : FnOk P w K mg base CX0 5 fread_powers fdread_powers ["text", "measures"] spRd := okread_powers B Es Dis_exponent Dis_name Dnamed_power Dpowers_of Dwrong_unit_word Dchecked_powers Dread_powers
  refine DU_exp.F.ok scU_exp (fun vs H Q E h => ?_) (fun cdv A outer s H vs Q E hr h => ?_)
  · obtain ⟨x, B, us, ms, rfl, _⟩ := h; rfl
  · have hu := hu_of hr
    refine ⟨_, (pss_one (ps_ret (pe_call OKexponents_in (hr.mono (by decide)) rfl Dexponents_in.m Dexponents_in.F.kp Dexponents_in.b .nil pass0 (pa_cons (pe_call OKread_powers (hr.mono (by decide)) rfl Dread_powers.m Dread_powers.F.kp Dread_powers.b .nil pass0 (pa_cons (pv 1) (pa_cons (pe_fld (pv 0) rfl) pa_nil))) (pa_cons (pe_fld (pv 0) rfl) (pa_cons (pe_callB call_len_seq (by rfl) B.len_ (by decide +kernel) (pa_cons (pe_fld (pv 0) rfl) pa_nil)) pa_nil)))))), ?_⟩
    obtain ⟨x, B, us, ms, rfl, hU, hlen, hk, q⟩ := h
    obtain ⟨dx, fs, d, b, h1, h2, h3, h4, h5, h6, h7, h8⟩ := hU.ex
    obtain ⟨kvs, hd, _⟩ := id h7
    refine ⟨_, rfl, _, rfl, x, _, dx, _, _, rfl, h1, Es.cl, Es.nM, h2, d, us, ms, rfl, hlen, h7, hk, fun y H1 hn s1 hy => ?_⟩
    refine ⟨_, rfl, x, _, dx, _, _, rfl, s1 _ _ h1, Es.cl, Es.nM, h2, _, rfl, x, _, dx, _, _, rfl, s1 _ _ h1, Es.cl, Es.nB, h3, b, _, rfl, .inr (SqT.of (s1 _ _ h8)), ?_⟩
    rw [List.length_map]
    have kok : ∀ u ∈ us, u.Ok := fun u hu => (hk u hu).1
    refine ⟨y, d, B.length, grp (pws us), ms, rfl, hy, h7.same s1, hU.le, (fun z => by rw [z, hd] at hn; cases hn), (fun p hp => ?_), ?_, fun t H2 s2 ht => ?_⟩
    · obtain ⟨m, hm⟩ := grp_kn hk p hp
      have r := hU.row m (meOf_mem hm)
      exact ⟨m, hm, r.1, r.2.1⟩
    · refine Nat.lt_of_le_of_lt (Nat.le_trans (wt_grp _) (wt_pws kok)) ?_
      exact Nat.lt_of_le_of_lt (by omega : _ ≤ 99000) (by decide)
    · rw [exV_grp] at ht
      exact q t H2 (s1.trans s2) ht
abbrev stU_size : Stmt := inClass (top 37) 2
theorem scU_size : FnScope ["self", "words"] ["self", "words"] (defScope stU_size) := ⟨rfl, rfl, rfl, by decide +kernel, rfl, by decide +kernel, by decide +kernel⟩
theorem okU_size (B : Blt mg) {CUnits : Addr} (Es : ErU K mg CUnits) {fis_exponent : Addr} {fdis_exponent : FuncData} (Dis_exponent : DefAt K mg "is_exponent" stis_exponent ["text"] fis_exponent fdis_exponent) {fis_name : Addr} {fdis_name : FuncData} (Dis_name : DefAt K mg "is_name" stis_name ["text"] fis_name fdis_name) {fnamed_power : Addr} {fdnamed_power : FuncData} (Dnamed_power : DefAt K mg "named_power" stnamed_power ["word"] fnamed_power fdnamed_power) {fpowers_of : Addr} {fdpowers_of : FuncData} (Dpowers_of : DefAt K mg "powers_of" stpowers_of ["words"] fpowers_of fdpowers_of) {fwrong_unit_word : Addr} {fdwrong_unit_word : FuncData} (Dwrong_unit_word : DefAt K mg "wrong_unit_word" stwrong_unit_word ["words", "measures"] fwrong_unit_word fdwrong_unit_word) {fchecked_powers : Addr} {fdchecked_powers : FuncData} (Dchecked_powers : DefAt K mg "checked_powers" stchecked_powers ["words", "measures", "ahead"] fchecked_powers fdchecked_powers) {fread_powers : Addr} {fdread_powers : FuncData} (Dread_powers : DefAt K mg "read_powers" stread_powers ["text", "measures"] fread_powers fdread_powers) {flowest : Addr} {fdlowest : FuncData} (Dlowest : DefAt K mg "lowest" stlowest ["top", "bottom"] flowest fdlowest) {fwhole_power : Addr} {fdwhole_power : FuncData} (Dwhole_power : DefAt K mg "whole_power" stwhole_power ["base", "n"] fwhole_power fdwhole_power) {fratio_power : Addr} {fdratio_power : FuncData} (Dratio_power : DefAt K mg "ratio_power" stratio_power ["ratio", "n"] fratio_power fdratio_power) {fratio_product : Addr} {fdratio_product : FuncData} (Dratio_product : DefAt K mg "ratio_product" stratio_product ["one", "other"] fratio_product fdratio_product) {fsize_in : Addr} {fdsize_in : FuncData} (Dsize_in : DefAt K mg "size_in" stsize_in ["powers", "measures"] fsize_in fdsize_in) {fU_size : Addr} {fdU_size : FuncData} (DU_size : MetA K "size_of" "Units.size_of" stU_size ["self", "words"] CUnits fU_size fdU_size) : FnOk P w K mg base CX0 6 fU_size fdU_size ["self", "words"] (spUs CUnits) := by
  obtain ⟨uD, hD, rD⟩ := Es.dig
  obtain ⟨uM, hM, rM⟩ := Es.most
  obtain ⟨uL, hL, rL⟩ := Es.lett
  obtain ⟨uN, hN, rN⟩ := Es.long
  obtain ⟨uB, hB, rB⟩ := Es.most6
  have OKread_powers : FnOk P w K mg base CX0 5 fread_powers fdread_powers ["text", "measures"] spRd := okread_powers B Es Dis_exponent Dis_name Dnamed_power Dpowers_of Dwrong_unit_word Dchecked_powers Dread_powers
  have OKsize_in : FnOk P w K mg base CX0 3 fsize_in fdsize_in ["powers", "measures"] spSi := oksize_in B Es Dlowest Dwhole_power Dratio_power Dratio_product Dsize_in
  refine DU_size.F.ok scU_size (fun vs H Q E h => ?_) (fun cdv A outer s H vs Q E hr h => ?_)
  · obtain ⟨x, B, us, ms, E, rfl, _⟩ := h; rfl
  · have hu := hu_of hr
    refine ⟨_, (pss_one (ps_ret (pe_call OKsize_in (hr.mono (by decide)) rfl Dsize_in.m Dsize_in.F.kp Dsize_in.b .nil pass0 (pa_cons (pe_call OKread_powers (hr.mono (by decide)) rfl Dread_powers.m Dread_powers.F.kp Dread_powers.b .nil pass0 (pa_cons (pv 1) (pa_cons (pe_fld (pv 0) rfl) pa_nil))) (pa_cons (pe_fld (pv 0) rfl) pa_nil))))), ?_⟩
    obtain ⟨x, B, us, ms, E9, rfl, hU, hlen, hk, hl, hw, hE, q⟩ := h
    obtain ⟨dx, fs, d, b, h1, h2, h3, h4, h5, h6, h7, h8⟩ := hU.ex
    obtain ⟨kvs, hd, _⟩ := id h7
    refine ⟨_, rfl, _, rfl, x, _, dx, _, _, rfl, h1, Es.cl, Es.nM, h2, d, us, ms, rfl, hlen, h7, hk, fun y H1 hn s1 hy => ?_⟩
    refine ⟨_, rfl, x, _, dx, _, _, rfl, s1 _ _ h1, Es.cl, Es.nM, h2, ?_⟩
    refine ⟨y, d, E9, grp (pws us), ms, rfl, hy, h7.same s1, (fun z => by rw [z, hd] at hn; cases hn), (fun p hp => ?_), ?_, hE, fun t H2 s2 ht => ?_⟩
    · obtain ⟨m, hm⟩ := grp_kn hk p hp
      have r := hU.row m (meOf_mem hm)
      have mem := grp_mem (pws us) p hp
      unfold pws at mem
      rw [List.map_map] at mem
      obtain ⟨u, hu, e⟩ := List.mem_map.mp mem
      have l := hl u hu
      have e' : u.nm = p.1 := e
      rw [e', szOf_of hm] at l
      exact ⟨m, hm, r.2.2, l⟩
    · exact Nat.le_trans (Nat.mul_le_mul_left _ (wt_grp _)) hw
    · rw [szV_grp ms hU.nz] at ht
      exact q t H2 (s1.trans s2) ht
end
end AL
set_option Elab.async false
set_option maxHeartbeats 1000000
namespace AL
open PySem PySem.Spec PyProof.Rows L2 RZ
theorem walk_zipT {K : PySem.W.Frag} {a b : Addr} {xs ys : List V} {n : Nat} (hn : n = min xs.length ys.length) : Walk (ItzT K a b) n (fun H => SqT K H a xs ∧ SqT K H b ys) (YPair (fun i => xs[i]?) (fun i => ys[i]?)) := by
  subst hn
  refine ⟨fun i _ hi z => ?_, fun _ z => ⟨xs, ys, z.1, z.2, by omega⟩, fun i H v H' _ z y => ?_⟩
  · have k1 : i < xs.length := by omega
    have k2 : i < ys.length := by omega
    exact ⟨xs, ys, xs[i], ys[i], z.1, z.2, by simp [k1], by simp [k2]⟩
  · obtain ⟨T, x, y', e1, e2, e3, e4, e5⟩ := y
    exact ⟨T, x, y', e1, e2, e3, e4 xs z.1, e5 ys z.2⟩

end AL
set_option Elab.async false
set_option maxRecDepth 100000
set_option exponentiation.threshold 70000
set_option maxHeartbeats 1000000
namespace AL
open PySem PySem.Spec PyProof.Rows L2 RZ
section
variable {P : Program} {w : World} {K : PySem.W.Frag} {mg : Str → Option Value} {base : Heap}

def bU (l : List Nat) (k : Int) : List UW := if k = 0 then [] else [⟨l, k, decide (k ≠ 1)⟩]
def bUs : List (List Nat) → List Int → List UW
  | l :: B, k :: es => bU l k ++ bUs B es
  | _, _ => []
theorem bUs_snoc : ∀ {B : List (List Nat)} {es : List Int} {i : Nat} {l : List Nat} {k : Int}, B[i]? = some l → es[i]? = some k → bUs (B.take (i + 1)) (es.take (i + 1)) = bUs (B.take i) (es.take i) ++ bU l k
  | [], _, _, _, _, h, _ => by cases h
  | _ :: _, [], _, _, _, _, h => by cases h
  | b :: B, e :: es, 0, l, k, h, g => by
    cases h; cases g
    simp [bUs]
  | b :: B, e :: es, i + 1, l, k, h, g => by
    have h' : B[i]? = some l := h
    have g' : es[i]? = some k := g
    have ih := bUs_snoc h' g'
    simp only [List.take_succ_cons, bUs] at ih ⊢
    rw [ih, List.append_assoc]
theorem bUs_len : ∀ (B : List (List Nat)) (es : List Int), (bUs B es).length ≤ B.length
  | [], es => by cases es <;> exact Nat.zero_le _
  | _ :: _, [] => Nat.zero_le _
  | b :: B, e :: es => by
    have := bUs_len B es
    simp only [bUs, List.length_append, List.length_cons]
    unfold bU
    split
    · simp only [List.length_nil]; omega
    · simp only [List.length_singleton]; omega
/-- units.written(exponents) -/
def spUw (CU : Addr) : Sp := fun vs H Q _ => ∃ (x e : Addr) (B : List (List Nat)) (ms : List Me) (es : List Int), vs = [.ref x, .ref e] ∧ UnAt CU H x B ms ∧ H e = some (.tup (es.map V.int)) ∧ es.length = B.length ∧ (∀ k ∈ es, -99 ≤ k ∧ k ≤ 99) ∧ (∀ l ∈ B, nmOk l = true) ∧ ∀ H', Same H H' → Q (.str (S (TL.joinL [32] (wtx (bUs B es))))) H'
theorem sum_le_of : ∀ {l : List Nat} {b : Nat}, (∀ n ∈ l, n ≤ b) → l.sum ≤ l.length * b
  | [], _, _ => Nat.zero_le _
  | x :: l, b, h => by
    have := sum_le_of (l := l) (b := b) fun n hn => h n (List.mem_cons_of_mem _ hn)
    have := h x (List.mem_cons_self ..)
    rw [List.sum_cons, List.length_cons, Nat.succ_mul]; omega
theorem bUs_ok : ∀ {B : List (List Nat)} {es : List Int}, (∀ l ∈ B, nmOk l = true) → (∀ k ∈ es, -99 ≤ k ∧ k ≤ 99) → ∀ u ∈ bUs B es, u.Ok
  | [], es, _, _, u, h => by cases es <;> cases h
  | _ :: _, [], _, _, u, h => by cases h
  | b :: B, e :: es, hB, he, u, h => by
    simp only [bUs, List.mem_append] at h
    rcases h with h | h
    · unfold bU at h
      split at h
      · cases h
      · have hu : u = ⟨b, e, decide (e ≠ 1)⟩ := by simpa using h
        have kb := he e (List.mem_cons_self ..)
        rw [hu]
        exact ⟨hB b (List.mem_cons_self ..), kb.1, kb.2, fun z => by simpa using z⟩
    · exact bUs_ok (fun l hl => hB l (List.mem_cons_of_mem _ hl)) (fun k hk => he k (List.mem_cons_of_mem _ hk)) u h
theorem dg_small {k : Int} (a : -99 ≤ k) (b : k ≤ 99) : k.natAbs < 10 ^ 4300 := Nat.lt_of_lt_of_le (by omega : k.natAbs < 10 ^ 2) (Nat.pow_le_pow_right (by decide) (by decide))
theorem empty_app2 (z : Str) : Str.empty ++ z = z := empty_app z

abbrev stU_wr : Stmt := inClass (top 37) 3
theorem scU_wr : FnScope ["self", "exponents", "words", "name", "power"] ["self", "exponents"] (defScope stU_wr) := ⟨rfl, rfl, rfl, by decide +kernel, rfl, by decide +kernel, by decide +kernel⟩
theorem okU_wr (B : Blt mg) {CUnits : Addr} (Es : ErU K mg CUnits) {fis_whole : Addr} {fdis_whole : FuncData} (Dis_whole : DefAt K mg "is_whole" stis_whole ["value"] fis_whole fdis_whole) {fare_integers : Addr} {fdare_integers : FuncData} (Dare_integers : DefAt K mg "are_integers" stare_integers ["items"] fare_integers fdare_integers) {fU_wr : Addr} {fdU_wr : FuncData} (DU_wr : MetA K "written" "Units.written" stU_wr ["self", "exponents"] CUnits fU_wr fdU_wr) : FnOk P w K mg base CX0 3 fU_wr fdU_wr ["self", "exponents"] (spUw CUnits) := by
  obtain ⟨uD, hD, rD⟩ := Es.dig
  obtain ⟨uM, hM, rM⟩ := Es.most
  obtain ⟨uL, hL, rL⟩ := Es.lett
  obtain ⟨uN, hN, rN⟩ := Es.long
  obtain ⟨uB, hB, rB⟩ := Es.most6
  have OKare_integers : FnOk P w K mg base CX0 2 fare_integers fdare_integers ["items"] (spAreG K) := okare_integers B Es Dis_whole Dare_integers
  refine DU_wr.F.ok scU_wr (fun vs H Q E h => ?_) (fun cdv A outer s H vs Q E hr h => ?_)
  · obtain ⟨x, e, B, ms, es, rfl, _⟩ := h; rfl
  · have hu := hu_of hr
    refine ⟨_, (pss_cons (ps_if (PW.pt (pw_or (pt_not (pt_val (pe_callB call_isi (by rfl) B.isinstance_ (by decide +kernel) (pa_cons (pv 1) (pa_cons (pe_bltn (v := .ty "tuple") (by rfl) B.tuple_ PyProof.Rows.Boot.«tuple» rfl) pa_nil))))) (pw_or (pt_cmpR op_ne (pe_callB call_len_seq (by rfl) B.len_ (by decide +kernel) (pa_cons (pv 1) pa_nil)) (pe_callB call_len_seq (by rfl) B.len_ (by decide +kernel) (pa_cons (pe_fld (pv 0) rfl) pa_nil)) (nomark _)) (pw_or1 (pt_not (pt_val (pe_call OKare_integers (hr.mono (by decide)) rfl Dare_integers.m Dare_integers.F.kp Dare_integers.b .nil pass0 (pa_cons (pv 1) pa_nil)))))))) (pss_one ps_never) pss_nil)
    (pss_cons (ps_setLc (i := 2) (own := [("name", 3), ("power", 4)]) (g := gTup K 2 (gCons (gName 3) (gCons (gName 4) gNil))) rfl scU_wr.nd rfl rfl (sw_true rfl rfl rfl (by decide +kernel)) (pi_zipA (by rfl) B.zip_ (pa_cons (pe_fld (pv 0) rfl) (pa_cons (pv 1) pa_nil))) (blkOk_by (own := [("name", 3), ("power", 4)]) (N := ["self", "exponents", "words", "name", "power"]) (sc := defScope stU_wr) (by decide +kernel)) (fun _ _ _ _ _ => (pg_tup rfl (pgs_cons (pg_name (i := 3) scU_wr.nd rfl (Or.inl rfl)) (pgs_cons (pg_name (i := 4) scU_wr.nd rfl (Or.inl rfl)) pgs_nil)))) (fun _ _ _ _ _ => (pts_one (pt_cmpR op_ne (pv 4) pe_int (nomark _)))) (fun _ _ _ _ _ => (pe_ifExp (pt_cmpR op_eq (pv 4) pe_int (nomark _)) (pv 3) (pe_joined (PJ.cons (pe_fmtL Es.nodig (pv 3)) (PJ.cons pe_str (PJ.cons (pe_fmtL Es.nodig (pv 4)) PJ.nil)))))))
    (pss_one (ps_ret (pe_ifExp (pt_truth (pv 2) (fun _ => rfl)) (pe_join pe_str (pv 2)) pe_str))))), ?_⟩
    obtain ⟨x, e, B, ms, es, rfl, hU, he, hl, hb, hB, q⟩ := h
    obtain ⟨dx, fs, d, b, h1, h2, h3, h4, h5, h6, h7, h8⟩ := hU.ex
    have le6 := hU.le
    refine ⟨_, rfl, _, _, _, _, _, rfl, ClsV.ty _, TyX.base (.tup he), rfl, true, rfl, ?_⟩
    refine iteF ?_
    refine ⟨_, rfl, e, _, rfl, .inr (SqT.of he), _, rfl, x, _, dx, _, _, rfl, h1, Es.cl, Es.nB, h3, b, _, rfl, .inr (SqT.of h8), rfl, _, rfl, ?_⟩
    have ln : (es.map V.int).length = (B.map vS).length := by rw [List.length_map, List.length_map, hl]
    rw [ln, decide_eq_true rfl]
    refine iteF ?_
    refine ⟨_, rfl, e, _, fun _ => true, rfl, he, by rw [List.length_map]; omega, ints_all es, fun H1 s1 => ⟨_, rfl, ?_⟩⟩
    rw [show (es.map V.int).all (fun _ => true) = true by simp]
    refine iteF ?_
    have hb1 := s1 _ _ h8
    have he1 := s1 _ _ he
    refine ⟨_, rfl, x, _, dx, _, _, rfl, s1 _ _ h1, Es.cl, Es.nB, h3, _, rfl, b, e, _, _, rfl, .inr ⟨SqT.of hb1, SqT.of he1, fun D hD => ?_⟩⟩
    refine lc_it (walk_zipT (K := K) (a := b) (b := e) (xs := B.map vS) (ys := es.map V.int) (n := B.length) (by rw [List.length_map, List.length_map]; omega)) (fun i H' => Same H1 H' ∧ H' D = some (.lst ((((bUs (B.take i) (es.take i)).map UW.tx)).map vS))) ⟨AL.Same.new hD, upd_same⟩ (fun i H' _ hh => ⟨SqT.of (hh.1 _ _ hb1), SqT.of (hh.1 _ _ he1)⟩) ?_ ?_
    · rintro i x2 H5 H5' hi2 ⟨s5, hd5⟩ ⟨T0, u1, u2, rfl, hT, rfl, f1, f2⟩
      obtain ⟨k, c2, rfl⟩ := map_intE f2
      obtain ⟨l, c1, rfl⟩ : ∃ l, B[i]? = some l ∧ u1 = .str (S l) := by
        dsimp only at f1
        rw [List.getElem?_map] at f1
        cases e : B[i]? with
        | none => rw [e] at f1; cases f1
        | some l => rw [e] at f1; exact ⟨l, rfl, (Option.some.inj f1).symm⟩
      have hDT : D ≠ T0 := fun w => by rw [w, hT] at hd5; cases hd5
      have sT : Same H1 (upd H5 T0 (.tup [.str (S l), .int k])) := s5.trans (AL.Same.new hT)
      have kb := hb k (List.mem_of_getElem? c2)
      have nml := hB l (List.mem_of_getElem? c1)
      have sn := bUs_snoc c1 c2
      have few : (((bUs (B.take i) (es.take i)).map UW.tx).map vS).length < sizeLine := by
        rw [List.length_map, List.length_map]
        refine Nat.lt_of_le_of_lt (bUs_len _ _) ?_
        rw [List.length_take]
        exact Nat.lt_of_le_of_lt (by omega : _ ≤ 100) (by decide)
      refine ⟨T0, _, rfl, SqT.of upd_same, rfl, _, _, rfl, _, _, rfl, rfl, rfl, ?_⟩
      refine ⟨_, rfl, rfl, _, rfl, ?_⟩
      have hd6 : (upd H5 T0 (.tup [.str (S l), .int k])) D = _ := Eq.trans (upd_ne hDT) hd5
      refine ite2 (fun h0 => ?_) (fun h0 => ?_)
      · have k0 : k ≠ 0 := by simpa using h0
        refine ⟨_, rfl, rfl, _, rfl, ?_⟩
        refine ite2 (fun h9 => ?_) (fun h9 => ?_)
        · have k1 : k = 1 := by simpa using h9
          refine ⟨_, rfl, _, hd6, few, AL.Same.updn sT hD, ?_⟩
          rw [upd_same, sn]
          unfold bU
          rw [if_neg k0, List.map_append, List.map_append]
          show some (HO.lst (_ ++ [V.str (S l)])) = some (HO.lst (_ ++ [vS (UW.tx ⟨l, k, decide (k ≠ 1)⟩)]))
          unfold UW.tx
          rw [show decide (k ≠ 1) = false from decide_eq_false (fun z => z k1)]; rfl
        · have k1 : k ≠ 1 := by simpa using h9
          have ll := nm_len nml
          have dk := dg_ok kb.1 kb.2
          have e9 : (S l ++ "^" ++ Str.ofString (toString k) : Str) = S (UW.tx ⟨l, k, decide (k ≠ 1)⟩) := by
            unfold UW.tx
            rw [show decide (k ≠ 1) = true from decide_eq_true k1, if_pos rfl, dg_str, hatS]
            show (⟨(l.toArray ++ [94].toArray) ++ (dg k).toArray⟩ : Str) = S _
            simp [S]
          have bigS : (20000 : Nat) ≤ sizeLine := by decide
          have h94 : ("^" : Str).length = 1 := by decide +kernel
          have hdl : (Str.ofString (toString k) : Str).length ≤ 3 := by rw [dg_str, S_len]; exact dk.2.2.1
          refine ⟨_, rfl, .inl ⟨_, rfl, by rw [S_len]; omega, _, rfl, ?_, _, rfl, ?_, _, rfl, .inr ⟨_, rfl, dg_small kb.1 kb.2, _, rfl, ?_, ?_⟩⟩⟩
          · rw [empty_app, S_len]; omega
          · rw [empty_app, Str.length_append, S_len]; omega
          · rw [empty_app, Str.length_append, Str.length_append, S_len]; omega
          · rw [empty_app, e9]
            refine ⟨_, hd6, few, AL.Same.updn sT hD, ?_⟩
            rw [upd_same, sn]
            unfold bU
            rw [if_neg k0, List.map_append, List.map_append]; rfl
      · have k0 : k = 0 := by simpa using h0
        refine ⟨sT, ?_⟩
        rw [hd6, sn]
        unfold bU
        rw [if_pos k0, List.append_nil]
    rintro H5 ⟨s5, hd5⟩
    rw [List.take_length, ← hl, List.take_length] at hd5
    have kok : ∀ u ∈ bUs B es, u.Ok := bUs_ok hB hb
    refine ⟨_, rfl, _, .inl ⟨_, SqL.of hd5, rfl⟩, ?_⟩
    cases hz : (bUs B es).isEmpty with
    | true =>
      rw [show (!(List.map vS (List.map UW.tx (bUs B es))).isEmpty) = false by rw [List.isEmpty_iff.mp hz]; rfl]
      refine iteF ?_
      have z := q H5 (s1.trans s5)
      rw [wtx_one hz, joinL_one, ← oneS] at z
      exact z
    | false =>
      rw [show (!(List.map vS (List.map UW.tx (bUs B es))).isEmpty) = true by simp only [List.isEmpty_map, hz]; rfl]
      refine iteT ?_
      have ev : (List.map UW.tx (bUs B es)).map vS = ((List.map UW.tx (bUs B es)).map S).map V.str := by simp only [List.map_map]; rfl
      refine ⟨⟨_, rfl⟩, _, rfl, _, D, (List.map UW.tx (bUs B es)).map S, rfl, rfl, .inl (SqL.of (by rw [hd5, ev])), ?_, ?_⟩
      · have b1 : ∀ n ∈ ((List.map UW.tx (bUs B es)).map S).map (·.length), n ≤ 16 := fun n hn => by
          rw [List.map_map, List.map_map] at hn
          obtain ⟨u, hu, rfl⟩ := List.mem_map.mp hn
          show (S u.tx).length ≤ 16
          rw [S_len]; exact (tx_len (kok u hu)).2
        have sm := sum_le_of b1
        rw [List.length_map, List.length_map, List.length_map] at sm
        have bl := bUs_len B es
        rw [List.length_map, List.length_map, show (" " : Str).length = 1 by decide +kernel]
        omega
      · rw [spaceS, join_S]
        have z := q H5 (s1.trans s5)
        rw [wtx_map hz] at z
        exact z
end
end AL
set_option Elab.async false
set_option maxRecDepth 100000
set_option exponentiation.threshold 70000
set_option maxHeartbeats 1000000
namespace AL
open PySem PySem.Spec PyProof.Rows L2 RZ
section
variable {P : Program} {w : World} {K : PySem.W.Frag} {mg : Str → Option Value} {base : Heap}

/-- wrong_names_column(words, head, 6), a right line -/
def spNc : Sp := fun vs H Q _ => ∃ (a : Addr) (h : List Nat) (B : List (List Nat)), vs = [.ref a, .str (S h), .int 6] ∧ TxL H a (h :: B) ∧ OkS B ∧ B ≠ [] ∧ B.length ≤ 6 ∧ (∀ l ∈ B, nmOk l = true) ∧ B.Nodup ∧ ∀ H', Same H H' → Q (.int 0) H'
theorem inV_txt (l : List Nat) (L : List (List Nat)) : inV (.str (S l)) (L.map vS) = decide (l ∈ L) := by
  unfold inV
  induction L with
  | nil => rfl
  | cons x L ih =>
    rw [List.map_cons, List.any_cons, ih]
    have e : eqV (vS x) (.str (S l)) = decide (x = l) := by
      show decide (S x = S l) = decide (x = l)
      exact decide_eq_decide.mpr S_inj
    rw [e]
    by_cases h : x = l
    · subst h; simp
    · have h2 : ¬ l = x := fun z => h z.symm
      simp [h, h2]
theorem flat_txt (L : List (List Nat)) : (L.map vS).all flatV = true := by
  rw [List.all_map]
  exact List.all_eq_true.mpr fun _ _ => rfl
theorem cutV_to {xs : List V} (i : Nat) : cutV xs none (some (i : Int)) = xs.take i := by
  unfold cutV
  rw [HT.sIx_nat, HT.sIx_none, Nat.sub_zero, List.drop_zero]
  by_cases h : i ≤ xs.length
  · rw [Nat.min_eq_left h]
  · rw [Nat.min_eq_right (by omega), List.take_length, List.take_of_length_le (by omega)]
theorem nodup_take {L : List (List Nat)} {i : Nat} {l : List Nat} (nd : L.Nodup) (h : L[i]? = some l) : l ∉ L.take i := fun m => by
  obtain ⟨j, hj⟩ := List.mem_iff_getElem?.mp m
  obtain ⟨jl, _⟩ := List.getElem?_eq_some_iff.mp hj
  rw [List.length_take] at jl
  have ji : j < i := by omega
  rw [List.getElem?_take_of_lt ji] at hj
  have il : i < L.length := (List.getElem?_eq_some_iff.mp h).1
  have := (List.getElem?_inj (by omega) nd).mp (hj.trans h.symm)
  omega
/-- measure_of(word, words, measures, many) -/
def spMo : Sp := fun vs H Q _ => ∃ (a d : Addr) (l : List Nat) (us : List UW) (ms : List Me) (n E : Nat) (y : Rat), vs = [.str (S l), .ref a, .ref d, .int (n : Int)] ∧ l.length ≤ 20000 ∧ res l = .ratio y.num (y.den : Int) ∧ Lim (2 ^ 200) y ∧ TxL H a (wtx us) ∧ us.length ≤ 1000 ∧ MeAt H d ms ∧ n ≤ 6 ∧ KnU ms us ∧ (∀ m ∈ ms, m.row.length = n ∧ (∀ k ∈ m.row, k.natAbs < 2 ^ 60) ∧ m.sz ≠ 0) ∧ (∀ u ∈ us, Lim (2 ^ E) (szOf ms u.nm)) ∧ (E + 1) * wt (pws us) ≤ 5700 ∧ E ≤ 5000 ∧
  ∀ t r s H', Same H H' → H' t = some (.tup [.ref r, .ref s]) → H' r = some (.tup ((exV ms n (pws us)).map V.int)) → RQ H' s (y * szV ms (pws us)) → Q (.ref t) H'

abbrev stwrong_names_column : Stmt := top 29
theorem scwrong_names_column : FnScope ["words", "head", "most", "names", "at", "name"] ["words", "head", "most"] (defScope stwrong_names_column) := ⟨rfl, rfl, rfl, by decide +kernel, rfl, by decide +kernel, by decide +kernel⟩
theorem okwrong_names_column (B : Blt mg) {CUnits : Addr} (Es : ErU K mg CUnits) {fis_name : Addr} {fdis_name : FuncData} (Dis_name : DefAt K mg "is_name" stis_name ["text"] fis_name fdis_name) {fwrong_names_column : Addr} {fdwrong_names_column : FuncData} (Dwrong_names_column : DefAt K mg "wrong_names_column" stwrong_names_column ["words", "head", "most"] fwrong_names_column fdwrong_names_column) : FnOk P w K mg base CX0 2 fwrong_names_column fdwrong_names_column ["words", "head", "most"] spNc := by
  obtain ⟨uD, hD, rD⟩ := Es.dig
  obtain ⟨uM, hM, rM⟩ := Es.most
  obtain ⟨uL, hL, rL⟩ := Es.lett
  obtain ⟨uN, hN, rN⟩ := Es.long
  obtain ⟨uB, hB, rB⟩ := Es.most6
  have OKis_name : FnOk P w K mg base CX0 1 fis_name fdis_name ["text"] spNm := okis_name B Es Dis_name
  refine Dwrong_names_column.F.ok scwrong_names_column (fun vs H Q E h => ?_) (fun cdv A outer s H vs Q E hr h => ?_)
  · obtain ⟨a, hd, B, rfl, _⟩ := h; rfl
  · have hu := hu_of hr
    refine ⟨_, (pss_cons (ps_if (pt_cmpR op_ne (pe_ix ix_list (pv 0) pe_int (fun _ _ => rfl)) (pv 1) (nomark _)) (pss_one (ps_ret pe_int)) pss_nil)
    (pss_cons (ps_set (i := 3) scwrong_names_column.nd rfl (Or.inl rfl) (pe_slice sl_list (pv 0) (po_some pe_int) po_none))
    (pss_cons (ps_if (pt_cmpR (op_eqD hr.units) (pv 3) (pe_lst pa_nil) (nomark _)) (pss_one (ps_ret pe_int)) pss_nil)
    (pss_cons (ps_for PassesOwn.never rfl (pi_enum (by rfl) B.enumerate_ (pa_cons (pv 3) pa_nil)) (pg_tup rfl (pgs_cons (pg_name (i := 4) scwrong_names_column.nd rfl (Or.inl rfl)) (pgs_cons (pg_name (i := 5) scwrong_names_column.nd rfl (Or.inl rfl)) pgs_nil)))
      (pss_one (ps_if (PW.pt (pw_or (pt_cmpR op_eq (pv 4) (pv 2) (nomark _)) (pw_or (pt_not (pt_val (pe_call OKis_name (hr.mono (by decide)) rfl Dis_name.m Dis_name.F.kp Dis_name.b .nil pass0 (pa_cons (pv 5) pa_nil)))) (pw_or1 (pt_cmpR op_in_seq (pv 5) (pe_slice sl_list (pv 3) po_none (po_some (pv 4))) rfl))))) (pss_one (ps_ret (pe_op op_add (pv 4) pe_int))) pss_nil)))
    (pss_one (ps_ret pe_int)))))), ?_⟩
    obtain ⟨a, hd, B, rfl, hw, hok, hne, hlen, hnm, nd, q⟩ := h
    refine ⟨_, rfl, a, _, _, _, rfl, rfl, SqL.of hw, atI_nat (j := 0) rfl, _, rfl, rfl, _, rfl, ?_⟩
    rw [show decide (vS hd = V.str (S hd)) = true from str_eq _]
    refine iteF ?_
    refine ⟨_, rfl, _, rfl, a, _, rfl, SqL.of hw, fun b hb => ?_⟩
    rw [show cutV ((hd :: B).map vS) (some 1) none = B.map vS from cutV_from 1]
    have n1 := AL.Same.new (o := .lst (B.map vS)) hb
    have hb1 : (upd H b (.lst (B.map vS))) b = some (.lst (B.map vS)) := upd_same
    generalize upd H b (.lst (B.map vS)) = H1 at n1 hb1 ⊢
    refine ⟨_, rfl, (by show 0 ≤ sizeLine; decide), fun p hp => ?_⟩
    have n2 := AL.Same.new (o := .lst []) hp
    have hb2 := n2 _ _ hb1
    refine ⟨_, _, dp_txtL hb2, Dp.lst (SqL.of upd_same) .nil, shaped_txtL hok, (by decide +kernel), _, rfl, ?_⟩
    rw [show PyData.eqv (.list (B.map dS)) (.list []) = false from (eqv_txtL B []).trans (decide_eq_false hne)]
    refine iteF ?_
    have n12 := n1.trans n2
    generalize upd H1 p (.lst []) = H2 at n2 hb2 n12 ⊢
    refine ⟨_, rfl, b, _, rfl, SqL.of hb2, for_it (walk_enum (K := K) (a := b) (xs := B.map vS)) (fun i σ H' => ∃ v4 v5 : Option V, σ = [some (.ref a), some (.str (S hd)), some (.int 6), some (.ref b), v4, v5] ∧ Same H2 H') ⟨none, none, rfl, Same.refl _⟩ (fun i σ H' _ hh => let ⟨_, _, _, s⟩ := hh; SqL.of (s _ _ hb2)) ?_ ?_⟩
    · rintro i y σ H3 H3' hi ⟨v4, v5, rfl, s3⟩ ⟨Tt, x0, y0, rfl, hTt, rfl, e1, e2⟩
      cases Option.some.inj e1
      obtain ⟨l, hl, rfl⟩ : ∃ l, B[i]? = some l ∧ y0 = .str (S l) := by
        dsimp only at e2
        rw [List.getElem?_map] at e2
        cases e : B[i]? with
        | none => rw [e] at e2; cases e2
        | some l => rw [e] at e2; exact ⟨l, rfl, (Option.some.inj e2).symm⟩
      have il : i < B.length := (List.getElem?_eq_some_iff.mp hl).1
      have nT := AL.Same.new (o := .tup [.int (i : Nat), .str (S l)]) hTt
      refine ⟨Tt, _, rfl, SqT.of upd_same, rfl, _, _, rfl, _, _, rfl, rfl, ?_⟩
      have s4 := s3.trans nT
      generalize upd H3 Tt (.tup [.int (i : Nat), .str (S l)]) = H4 at s4 ⊢
      have nml := hnm l (List.mem_of_getElem? hl)
      have ll := nm_len nml
      refine ⟨_, rfl, _, rfl, rfl, _, rfl, ?_⟩
      rw [show decide (V.int ((i : Nat) : Int) = V.int 6) = false from decide_eq_false fun z => by injection z with z; omega]
      refine iteF ?_
      refine ⟨_, rfl, l, rfl, by omega, fun H5 s5 => ?_⟩
      rw [nml]
      refine ⟨_, rfl, ?_⟩
      refine iteF ?_
      have s45 := s4.trans s5
      refine ⟨_, rfl, _, rfl, _, rfl, _, rfl, b, _, rfl, SqL.of (s45 _ _ hb2), fun p2 hp2 => ?_⟩
      rw [cutV_to, ← List.map_take]
      refine ⟨p2, _, rfl, .inl (SqL.of upd_same), rfl, flat_txt _, _, rfl, ?_⟩
      rw [inV_txt, decide_eq_false (nodup_take nd hl)]
      refine iteF ?_
      exact ⟨_, _, rfl, s45.trans (AL.Same.new hp2)⟩
    · rintro σ H' ⟨v4, v5, rfl, s⟩
      exact q H' (n12.trans s)
abbrev stmeasure_of : Stmt := top 39
theorem scmeasure_of : FnScope ["word", "words", "measures", "many", "powers"] ["word", "words", "measures", "many"] (defScope stmeasure_of) := ⟨rfl, rfl, rfl, by decide +kernel, rfl, by decide +kernel, by decide +kernel⟩
theorem okmeasure_of (B : Blt mg) {CUnits : Addr} (Es : ErU K mg CUnits) {fexponents_in : Addr} {fdexponents_in : FuncData} (Dexponents_in : DefAt K mg "exponents_in" stexponents_in ["powers", "measures", "many"] fexponents_in fdexponents_in) {fis_exponent : Addr} {fdis_exponent : FuncData} (Dis_exponent : DefAt K mg "is_exponent" stis_exponent ["text"] fis_exponent fdis_exponent) {fis_name : Addr} {fdis_name : FuncData} (Dis_name : DefAt K mg "is_name" stis_name ["text"] fis_name fdis_name) {fnamed_power : Addr} {fdnamed_power : FuncData} (Dnamed_power : DefAt K mg "named_power" stnamed_power ["word"] fnamed_power fdnamed_power) {fpowers_of : Addr} {fdpowers_of : FuncData} (Dpowers_of : DefAt K mg "powers_of" stpowers_of ["words"] fpowers_of fdpowers_of) {fratio_product : Addr} {fdratio_product : FuncData} (Dratio_product : DefAt K mg "ratio_product" stratio_product ["one", "other"] fratio_product fdratio_product) {flowest : Addr} {fdlowest : FuncData} (Dlowest : DefAt K mg "lowest" stlowest ["top", "bottom"] flowest fdlowest) {fdigits_end : Addr} {fddigits_end : FuncData} (Ddigits_end : DefAt K mg "digits_end" stdigits_end ["text", "start"] fdigits_end fddigits_end) {fwrong_column_ratios : Addr} {fdwrong_column_ratios : FuncData} (Dwrong_column_ratios : DefAl K mg "wrong_column_ratios" "wrong_column" stwrong_column_ratios ["text"] fwrong_column_ratios fdwrong_column_ratios) {fratio_of : Addr} {fdratio_of : FuncData} (Dratio_of : DefAt K mg "ratio_of" stratio_of ["text"] fratio_of fdratio_of) {fratio_word : Addr} {fdratio_word : FuncData} (Dratio_word : DefAt K mg "ratio_word" stratio_word ["word"] fratio_word fdratio_word) {fwhole_power : Addr} {fdwhole_power : FuncData} (Dwhole_power : DefAt K mg "whole_power" stwhole_power ["base", "n"] fwhole_power fdwhole_power) {fratio_power : Addr} {fdratio_power : FuncData} (Dratio_power : DefAt K mg "ratio_power" stratio_power ["ratio", "n"] fratio_power fdratio_power) {fsize_in : Addr} {fdsize_in : FuncData} (Dsize_in : DefAt K mg "size_in" stsize_in ["powers", "measures"] fsize_in fdsize_in) {fmeasure_of : Addr} {fdmeasure_of : FuncData} (Dmeasure_of : DefAt K mg "measure_of" stmeasure_of ["word", "words", "measures", "many"] fmeasure_of fdmeasure_of) : FnOk P w K mg base CX0 5 fmeasure_of fdmeasure_of ["word", "words", "measures", "many"] spMo := by
  obtain ⟨uD, hD, rD⟩ := Es.dig
  obtain ⟨uM, hM, rM⟩ := Es.most
  obtain ⟨uL, hL, rL⟩ := Es.lett
  obtain ⟨uN, hN, rN⟩ := Es.long
  obtain ⟨uB, hB, rB⟩ := Es.most6
  have OKexponents_in : FnOk P w K mg base CX0 1 fexponents_in fdexponents_in ["powers", "measures", "many"] spXi := okexponents_in B Es Dexponents_in
  have OKpowers_of : FnOk P w K mg base CX0 3 fpowers_of fdpowers_of ["words"] spPo := okpowers_of B Es Dis_exponent Dis_name Dnamed_power Dpowers_of
  have OKratio_product : FnOk P w K mg base CX0 1 fratio_product fdratio_product ["one", "other"] (spTwoL mulR) := okratio_product B Es Dratio_product
  have OKratio_word : FnOk P w K mg base CX0 4 fratio_word fdratio_word ["word"] spRw := okratio_word B Es Dlowest Ddigits_end Dwrong_column_ratios Dratio_of Dratio_word
  have OKsize_in : FnOk P w K mg base CX0 3 fsize_in fdsize_in ["powers", "measures"] spSi := oksize_in B Es Dlowest Dwhole_power Dratio_power Dratio_product Dsize_in
  refine Dmeasure_of.F.ok scmeasure_of (fun vs H Q E h => ?_) (fun cdv A outer s H vs Q E hr h => ?_)
  · obtain ⟨a, d, l, us, ms, n, E, y, rfl, _⟩ := h; rfl
  · have hu := hu_of hr
    refine ⟨_, (pss_cons (ps_set (i := 4) scmeasure_of.nd rfl (Or.inl rfl) (pe_call OKpowers_of (hr.mono (by decide)) rfl Dpowers_of.m Dpowers_of.F.kp Dpowers_of.b .nil pass0 (pa_cons (pv 1) pa_nil)))
    (pss_one (ps_ret (pe_tup (pa_cons (pe_call OKexponents_in (hr.mono (by decide)) rfl Dexponents_in.m Dexponents_in.F.kp Dexponents_in.b .nil pass0 (pa_cons (pv 4) (pa_cons (pv 2) (pa_cons (pv 3) pa_nil)))) (pa_cons (pe_call OKratio_product (hr.mono (by decide)) rfl Dratio_product.m Dratio_product.F.kp Dratio_product.b .nil pass0 (pa_cons (pe_call OKratio_word (hr.mono (by decide)) rfl Dratio_word.m Dratio_word.F.kp Dratio_word.b .nil pass0 (pa_cons (pv 0) pa_nil)) (pa_cons (pe_call OKsize_in (hr.mono (by decide)) rfl Dsize_in.m Dsize_in.F.kp Dsize_in.b .nil pass0 (pa_cons (pv 4) (pa_cons (pv 2) pa_nil))) pa_nil))) pa_nil)))))), ?_⟩
    obtain ⟨a, d, l, us, ms, n, E9, y, rfl, hl, er, ly, hw, hlen, hm, hn, hk, hrow, hlim, hE, hE5, q⟩ := h
    have kok : ∀ u ∈ us, u.Ok := fun u hu => (hk u hu).1
    obtain ⟨kvs, hd, _⟩ := id hm
    refine ⟨_, rfl, a, us, rfl, hw, hlen, kok, fun x H1 hx0 s1 hx => ?_⟩
    have nd : x ≠ d := fun z => by rw [z, hd] at hx0; cases hx0
    have grk : ∀ p ∈ grp (pws us), ∃ m, meOf ms p.1 = some m ∧ (m.row.length = n ∧ (∀ k ∈ m.row, k.natAbs < 2 ^ 60) ∧ m.sz ≠ 0) ∧ Lim (2 ^ E9) m.sz := fun p hp => by
      obtain ⟨m, hm'⟩ := grp_kn hk p hp
      have r := hrow m (meOf_mem hm')
      have mem := grp_mem (pws us) p hp
      unfold pws at mem
      rw [List.map_map] at mem
      obtain ⟨u, hu, e⟩ := List.mem_map.mp mem
      have l := hlim u hu
      have e' : u.nm = p.1 := e
      rw [e', szOf_of hm'] at l
      exact ⟨m, hm', r, l⟩
    have wg := wt_grp (pws us)
    have nz : ∀ l, szOf ms l ≠ 0 := fun l => by
      unfold szOf
      cases e : meOf ms l with
      | none => decide +kernel
      | some m => exact (hrow m (meOf_mem e)).2.2
    refine ⟨_, rfl, _, rfl, _, rfl, x, d, n, grp (pws us), ms, rfl, hx, hm.same s1, hn, nd, (fun p hp => ?_), ?_, fun r H2 s2 hr2 => ?_⟩
    · obtain ⟨m, h1, h2, _⟩ := grk p hp
      exact ⟨m, h1, h2.1, h2.2.1⟩
    · refine Nat.lt_of_le_of_lt (Nat.le_trans wg (wt_pws kok)) ?_
      exact Nat.lt_of_le_of_lt (by omega : _ ≤ 99000) (by decide)
    rw [exV_grp] at hr2
    have s12 := s1.trans s2
    refine ⟨_, rfl, l, _, _, rfl, hl, er, fun t1 H3 s3 ht1 => ?_⟩
    have s123 := s12.trans s3
    refine ⟨_, rfl, _, rfl, x, d, E9, grp (pws us), ms, rfl, s3 _ _ (s2 _ _ hx), hm.same s123, nd, (fun p hp => ?_), ?_, hE5, fun t2 H4 s4 ht2 => ?_⟩
    · obtain ⟨m, h1, h2, h3⟩ := grk p hp
      exact ⟨m, h1, h2.2.2, h3⟩
    · exact Nat.le_trans (Nat.mul_le_mul_left _ wg) (by omega)
    rw [szV_grp ms nz] at ht2
    have hlz : ∀ p ∈ pws us, szOf ms p.1 ≠ 0 ∧ Lim (2 ^ E9) (szOf ms p.1) := fun p hp => by
      obtain ⟨u, hu, rfl⟩ := List.mem_map.mp hp
      exact ⟨nz _, hlim u hu⟩
    have l2 := lim_szV _ hlz
    have w1 : E9 * wt (pws us) ≤ 5700 := Nat.le_trans (Nat.mul_le_mul_right _ (by omega : E9 ≤ E9 + 1)) hE
    have rt1 : RQ H4 t1 y := s4 _ _ ht1
    refine ⟨t1, t2, _, _, _, _, rfl, rt1, ht2, lim_mid ly (by omega), lim_mid l2 (by omega), low_rat _, low_rat _, fun z hz => ?_⟩
    rw [mul_rat]
    have n5 := AL.Same.new (o := .tup [.int (y * szV ms (pws us)).num, .int ((y * szV ms (pws us)).den : Int)]) hz
    refine ⟨(by show 2 ≤ sizeLine; decide), fun t ht => ?_⟩
    have n6 := AL.Same.new (o := .tup [.ref r, .ref z]) ht
    have s45 := s123.trans s4
    exact q t r z _ ((s45.trans n5).trans n6) upd_same (n6 _ _ (n5 _ _ (s4 _ _ (s3 _ _ hr2)))) (n6 _ _ upd_same)
end
end AL
set_option Elab.async false
set_option maxRecDepth 100000
set_option exponentiation.threshold 70000
set_option maxHeartbeats 1000000
namespace AL
open PySem PySem.Spec PyProof.Rows L2 RZ
section
variable {P : Program} {w : World} {K : PySem.W.Frag} {mg : Str → Option Value} {base : Heap}

def rTup (K : PySem.W.Frag) : List V → Hp → VK → Prop := fun xs H Q => ∃ p ys, xs = [.ref p] ∧ ((SqL K H p ys ∧ ∀ l, H l = none → Q (.ref l) (upd H l (.tup ys))) ∨ (SqT K H p ys ∧ Q (.ref p) H))
theorem call_tupK {X : Cx} : CallR X (.type "tuple") (rTup X.K) := call_tuple_of
theorem blkOk_nf {N : List Str} {sc scope : Scope} {own : List (Str × Nat)} (h : blkC N { scope with names := [] } scope own = true) : BlkOk N sc scope own := by
  obtain ⟨k, u, i, f, o⟩ := blkOk_by h
  exact ⟨k, u, i, fun y hy e => by have z := f y hy e; simp at z, o⟩
def unR (n j : Nat) : List Int := (List.range n).map fun a => if a = j then 1 else 0
def baM (B : List (List Nat)) (i : Nat) : List Me := (List.range i).filterMap fun j => (B[j]?).map fun l => ⟨l, unR B.length j, 1⟩
theorem unR_get {n i j : Nat} (h : j < n) : (unR n i)[j]? = some (if j = i then 1 else 0) := by
  unfold unR
  rw [List.getElem?_map, List.getElem?_range h]; rfl
theorem unR_len (n i : Nat) : (unR n i).length = n := by unfold unR; rw [List.length_map, List.length_range]
theorem baM_succ {B : List (List Nat)} {i : Nat} {l : List Nat} (h : B[i]? = some l) : baM B (i + 1) = baM B i ++ [⟨l, unR B.length i, 1⟩] := by
  unfold baM
  rw [List.range_succ, List.filterMap_append, List.filterMap_cons, h]; rfl
theorem baM_new {B : List (List Nat)} {i : Nat} {l : List Nat} (nd : B.Nodup) (h : B[i]? = some l) : ∀ m ∈ baM B i, m.nm ≠ l := by
  intro m hm e
  unfold baM at hm
  obtain ⟨j, hj, hb⟩ := List.mem_filterMap.mp hm
  have ji := List.mem_range.mp hj
  cases e2 : B[j]? with
  | none => rw [e2] at hb; cases hb
  | some x =>
    rw [e2] at hb
    have hx : x = l := by rw [← e, ← Option.some.inj hb]
    have jl := (List.getElem?_eq_some_iff.mp e2).1
    have qq : B[j]? = B[i]? := by rw [e2, h, hx]
    have := (List.getElem?_inj jl nd).mp qq
    omega
theorem paired_snoc {α β : Type} {F : α → β → Prop} : ∀ {xs : List α} {ys : List β} {x : α} {y : β}, Paired F xs ys → F x y → Paired F (xs ++ [x]) (ys ++ [y])
  | _, _, _, _, .nil, h => .cons h .nil
  | _, _, _, _, .cons a r, h => .cons a (paired_snoc r h)
theorem put_new {H : Hp} {l : List Nat} {v : V} : ∀ {kvs : List (Key × V)} {ms : List Me}, Paired (fun (kv : Key × V) (m : Me) => kv.1 = kS m.nm ∧ MeV H kv.2 m) kvs ms → (∀ m ∈ ms, m.nm ≠ l) → putK kvs (kS l) v = kvs ++ [(kS l, v)] := by
  intro kvs ms p h
  have an : (kvs.any fun kv => decide (kv.1 = kS l)) = false := by
    induction p with
    | nil => rfl
    | cons a r ih =>
      rw [List.any_cons, ih fun m hm => h m (List.mem_cons_of_mem _ hm), Bool.or_false]
      exact decide_eq_false fun z => h _ (List.mem_cons_self ..) (kS_inj.mp (a.1.symm.trans z))
  unfold putK
  rw [if_neg (by rw [an]; decide)]
theorem MeAt.put {H H' : Hp} {d : Addr} {ms : List Me} {m : Me} {v : V} {kvs : List (Key × V)} (hd : H d = some (.dK kvs)) (p : Paired (fun (kv : Key × V) (m : Me) => kv.1 = kS m.nm ∧ MeV H kv.2 m) kvs ms) (new : ∀ x ∈ ms, x.nm ≠ m.nm) (hv : MeV H v m)
    (keep : ∀ b ys, H b = some (.tup ys) → H' b = some (.tup ys)) (hd' : H' d = some (.dK (putK kvs (kS m.nm) v))) : MeAt H' d (ms ++ [m]) := by
  have mk : ∀ v m, MeV H v m → MeV H' v m := fun v m z => by
    obtain ⟨t, r, s, e, k1, k2, k3⟩ := z
    exact ⟨t, r, s, e, keep _ _ k1, keep _ _ k2, keep _ _ k3⟩
  rw [put_new p new] at hd'
  exact ⟨_, hd', paired_snoc (paired_imp (fun _ _ z => ⟨z.1, mk _ _ z.2⟩) p) ⟨rfl, mk _ _ hv⟩⟩
theorem pair_len {α β : Type} {F : α → β → Prop} : ∀ {xs : List α} {ys : List β}, Paired F xs ys → xs.length = ys.length
  | _, _, .nil => rfl
  | _, _, .cons _ r => congrArg (· + 1) (pair_len r)
theorem baM_len (B : List (List Nat)) (i : Nat) : (baM B i).length ≤ i := by
  unfold baM
  exact Nat.le_trans (List.length_filterMap_le _ _) (by rw [List.length_range]; exact Nat.le_refl _)
/-- base_measures(base) -/
def spBm : Sp := fun vs H Q _ => ∃ (b : Addr) (B : List (List Nat)), vs = [.ref b] ∧ H b = some (.tup (B.map vS)) ∧ B.length ≤ 6 ∧ B.Nodup ∧ ∀ d H', H d = none → Same H H' → MeAt H' d (baM B B.length) → Q (.ref d) H'

abbrev stbase_measures : Stmt := top 38
theorem scbase_measures : FnScope ["base", "other", "name"] ["base"] (defScope stbase_measures) := ⟨rfl, rfl, rfl, by decide +kernel, rfl, by decide +kernel, by decide +kernel⟩
theorem okbase_measures (B : Blt mg) {CUnits : Addr} (Es : ErU K mg CUnits) {fbase_measures : Addr} {fdbase_measures : FuncData} (Dbase_measures : DefAt K mg "base_measures" stbase_measures ["base"] fbase_measures fdbase_measures) : FnOk P w K mg base CX0 1 fbase_measures fdbase_measures ["base"] spBm := by
  obtain ⟨uD, hD, rD⟩ := Es.dig
  obtain ⟨uM, hM, rM⟩ := Es.most
  obtain ⟨uL, hL, rL⟩ := Es.lett
  obtain ⟨uN, hN, rN⟩ := Es.long
  obtain ⟨uB, hB, rB⟩ := Es.most6
  refine Dbase_measures.F.ok scbase_measures (fun vs H Q E h => ?_) (fun cdv A outer s H vs Q E hr h => ?_)
  · obtain ⟨b, B, rfl, _⟩ := h; rfl
  · have hu := hu_of hr
    refine ⟨_, (pss_one (ps_ret (pe_dc (own := [("name", 2)]) (g := gName 2) (tt := tYes) rfl scbase_measures.nd (pi_tup (pv 0)) (blkOk_by (own := [("name", 2)]) (N := ["base", "other", "name"]) (sc := defScope stbase_measures) (by decide +kernel)) (fun _ _ _ _ _ => pg_name (i := 2) scbase_measures.nd rfl (Or.inr rfl)) (fun _ _ _ _ _ => pts_nil) (fun _ _ _ _ _ => (pv 2)) (fun _ _ _ _ _ => (pe_tup (pa_cons (pe_callTy (call_tupK : CallR _ _ (rTup K)) (by rfl) B.tuple_ (by decide +kernel) (pa_cons (pe_lc (own := [("other", 1)]) (g := gName 1) (tt := tYes) rfl scbase_measures.nd (pi_tup (pv 0) : PI _ _ _ (iTup K (tVar 0))) (blkOk_by (own := [("other", 1)]) (N := ["base", "other", "name"]) (by rfl)) (fun _ _ _ _ _ => pg_name (i := 1) scbase_measures.nd rfl (Or.inl rfl)) (fun _ _ _ _ _ => pts_nil) (fun _ _ _ _ _ => (pe_ifExp (pt_cmpR op_eq (pv 1) (pv 2) (nomark _)) pe_int pe_int))) pa_nil)) (pa_cons (pe_tup (pa_cons pe_int (pa_cons pe_int pa_nil))) pa_nil))))))), ?_⟩
    obtain ⟨b, B, rfl, hb, hl, nd, q⟩ := h
    refine ⟨_, rfl, b, rfl, ⟨_, SqT.of hb⟩, fun D hD => ?_⟩
    refine dc_tup (K := K) (a := b) (xs := B.map vS) (fun i H' => Same H H' ∧ MeAt H' D (baM B i)) ⟨AL.Same.new hD, [], upd_same, .nil⟩ (fun i H' _ hh => SqT.of (hh.1 _ _ hb)) ?_ ?_
    · rintro i y H1 hy ⟨s1, m1⟩
      obtain ⟨l, hl1, rfl⟩ : ∃ l, B[i]? = some l ∧ y = .str (S l) := by
        rw [List.getElem?_map] at hy
        cases e : B[i]? with
        | none => rw [e] at hy; cases hy
        | some l => rw [e] at hy; exact ⟨l, rfl, (Option.some.inj hy).symm⟩
      refine ⟨rfl, ?_⟩
      refine ⟨_, rfl, ?_⟩
      refine ⟨_, rfl, b, rfl, ⟨_, SqT.of (s1 _ _ hb)⟩, fun D2 hD2 => ?_⟩
      refine lc_tup (K := K) (a := b) (xs := B.map vS) (fun j H' => Same H1 H' ∧ H' D2 = some (.lst (((unR B.length i).take j).map V.int))) ⟨AL.Same.new hD2, upd_same⟩ (fun j H' _ hh => SqT.of ((s1.trans hh.1) _ _ hb)) ?_ ?_
      · rintro j y2 H2 hy2 ⟨s2, hd2⟩
        obtain ⟨l2, hl2, rfl⟩ : ∃ l, B[j]? = some l ∧ y2 = .str (S l) := by
          rw [List.getElem?_map] at hy2
          cases e : B[j]? with
          | none => rw [e] at hy2; cases hy2
          | some l => rw [e] at hy2; exact ⟨l, rfl, (Option.some.inj hy2).symm⟩
        have jl := (List.getElem?_eq_some_iff.mp hl2).1
        have fin : ∀ z : Int, z = (if j = i then 1 else 0) → ∃ acc, H2 D2 = some (HO.lst acc) ∧ acc.length < sizeLine ∧ Same H1 (upd H2 D2 (.lst (acc ++ [V.int z]))) ∧ (upd H2 D2 (.lst (acc ++ [V.int z]))) D2 = some (.lst (((unR B.length i).take (j + 1)).map V.int)) := fun z hz => by
          refine ⟨_, hd2, ?_, AL.Same.updn s2 hD2, ?_⟩
          · rw [List.length_map, List.length_take, unR_len]
            exact Nat.lt_of_le_of_lt (by omega : _ ≤ 100) (by decide)
          · rw [upd_same, take_map_snoc _ (unR_get jl), hz]
        refine ⟨rfl, ?_⟩
        refine ⟨_, rfl, _, rfl, rfl, _, rfl, ?_⟩
        refine ite2 (fun h9 => ?_) (fun h9 => ?_)
        · have e9 : l2 = l := by have z := of_decide_eq_true h9; injection z with z; exact S_inj.mp z
          have ji : j = i := (List.getElem?_inj jl nd).mp (by rw [hl2, hl1, e9])
          exact fin 1 (by rw [if_pos ji])
        · have ji : ¬ j = i := fun z => by subst z; rw [hl2] at hl1; cases hl1; exact h9 (str_eq _)
          exact fin 0 (by rw [if_neg ji])
      · rintro H2 ⟨s2, hd2⟩
        rw [List.length_map, List.take_of_length_le (by rw [unR_len]; exact Nat.le_refl _)] at hd2
        refine ⟨D2, _, rfl, .inl ⟨SqL.of hd2, fun r hr => ?_⟩⟩
        have n3 := AL.Same.new (o := .tup ((unR B.length i).map V.int)) hr
        refine ⟨(by show 2 ≤ sizeLine; decide), fun y hy0 => ?_⟩
        have n4 := AL.Same.new (o := .tup [.int 1, .int 1]) hy0
        refine ⟨(by show 2 ≤ sizeLine; decide), fun t ht => ?_⟩
        have n5 := AL.Same.new (o := .tup [.ref r, .ref y]) ht
        have s25 := ((s2.trans n3).trans n4).trans n5
        have hr5 := n5 _ _ (n4 _ _ (upd_same (H := H2) (a := r) (o := .tup ((unR B.length i).map V.int))))
        have hy5 := n5 _ _ (upd_same (a := y) (o := .tup [.int 1, .int 1]) (H := upd H2 r (.tup ((unR B.length i).map V.int))))
        have ht5 := upd_same (a := t) (o := .tup [.ref r, .ref y]) (H := upd (upd H2 r (.tup ((unR B.length i).map V.int))) y (.tup [.int 1, .int 1]))
        generalize upd (upd (upd H2 r (.tup ((unR B.length i).map V.int))) y (.tup [.int 1, .int 1])) t (.tup [.ref r, .ref y]) = H5 at s25 hr5 hy5 ht5 ⊢
        obtain ⟨kvs, hk, pr⟩ := m1.same s25
        refine ⟨kvs, kS l, rfl, hk, ?_, AL.Same.updn (s1.trans s25) hD, ?_⟩
        · rw [pair_len pr]
          exact Nat.lt_of_le_of_lt (Nat.le_trans (baM_len B i) (by have := (List.getElem?_eq_some_iff.mp hl1).1; omega : _ ≤ 100)) (by decide)
        · rw [baM_succ hl1]
          exact MeAt.put (m := ⟨l, unR B.length i, 1⟩) hk pr (baM_new nd hl1) ⟨t, r, y, rfl, ht5, hr5, hy5⟩ (fun b ys hb => by rw [upd_ne (fun z => by rw [z, hk] at hb; cases hb)]; exact hb) upd_same
    · rintro H1 ⟨s1, m1⟩
      rw [List.length_map] at m1
      exact q D H1 hD s1 m1
end
end AL
set_option Elab.async false
set_option maxRecDepth 100000
set_option exponentiation.threshold 70000
set_option maxHeartbeats 1000000
namespace AL
open PySem PySem.Spec PyProof.Rows L2 RZ
section
variable {P : Program} {w : World} {K : PySem.W.Frag} {mg : Str → Option Value} {base : Heap}

def dL (l : List (List Nat)) : PyData := .list (l.map dS)
/-- wrong_scale_column(words, measures, scales), a right line -/
def ScalAt (H : Hp) (d : Addr) (ns : List (List Nat)) : Prop := ∃ kvs : List (Key × V), H d = some (.dK kvs) ∧ kvs.map (·.1) = ns.map kS
theorem ScalAt.same {H H' : Hp} {d : Addr} {ns : List (List Nat)} (s : Same H H') (h : ScalAt H d ns) : ScalAt H' d ns := let ⟨k, h1, h2⟩ := h; ⟨k, s _ _ h1, h2⟩
theorem val_some {l : List Nat} : ∀ {kvs : List (Key × V)} {ns : List (List Nat)}, kvs.map (·.1) = ns.map kS → ((valV kvs (kS l)).isSome = decide (l ∈ ns))
  | [], [], _ => rfl
  | [], _ :: _, h => by cases h
  | _ :: _, [], h => by cases h
  | kv :: kvs, n :: ns, h => by
    rw [List.map_cons, List.map_cons] at h
    injection h with h1 h2
    have ih := val_some (l := l) h2
    unfold valV at ih ⊢
    rw [List.find?_cons]
    by_cases e : n = l
    · rw [decide_eq_true (show kv.1 = kS l by rw [h1, e])]
      simp [e]
    · rw [decide_eq_false (fun z => e (kS_inj.mp (h1.symm.trans z)))]
      have e2 : ¬ l = n := fun z => e z.symm
      simpa [e2] using ih
theorem ScalAt.get {H : Hp} {d : Addr} {ns : List (List Nat)} (h : ScalAt H d ns) (l : List Nat) : ∃ o, DGet H d (.str (S l)) o ∧ o.isSome = decide (l ∈ ns) := by
  obtain ⟨kvs, h1, h2⟩ := h
  exact ⟨_, .inl ⟨kvs, kS l, .inl h1, rfl, rfl⟩, val_some h2⟩
def spSc : Sp := fun vs H Q _ => ∃ (a d s : Addr) (nm ot wa wb : List Nat) (ms : List Me) (ns : List (List Nat)) (p q : Int) (r t : Int), vs = [.ref a, .ref d, .ref s] ∧ TxL H a [[115, 99, 97, 108, 101], nm, ot, wa, wb] ∧ MeAt H d ms ∧ ScalAt H s ns ∧ ((∃ m, meOf ms ot = some m) ∨ ot ∈ ns) ∧
  wa.length ≤ 20000 ∧ res wa = .ratio p q ∧ p ≠ 0 ∧ wb.length ≤ 20000 ∧ res wb = .ratio r t ∧ ∀ H', Same H H' → Q (.int 0) H'

abbrev stwrong_scale_column : Stmt := top 43
theorem scwrong_scale_column : FnScope ["words", "measures", "scales", "factor"] ["words", "measures", "scales"] (defScope stwrong_scale_column) := ⟨rfl, rfl, rfl, by decide +kernel, rfl, by decide +kernel, by decide +kernel⟩
theorem okwrong_scale_column (B : Blt mg) {CUnits : Addr} (Es : ErU K mg CUnits) {flowest : Addr} {fdlowest : FuncData} (Dlowest : DefAt K mg "lowest" stlowest ["top", "bottom"] flowest fdlowest) {fdigits_end : Addr} {fddigits_end : FuncData} (Ddigits_end : DefAt K mg "digits_end" stdigits_end ["text", "start"] fdigits_end fddigits_end) {fwrong_column_ratios : Addr} {fdwrong_column_ratios : FuncData} (Dwrong_column_ratios : DefAl K mg "wrong_column_ratios" "wrong_column" stwrong_column_ratios ["text"] fwrong_column_ratios fdwrong_column_ratios) {fratio_of : Addr} {fdratio_of : FuncData} (Dratio_of : DefAt K mg "ratio_of" stratio_of ["text"] fratio_of fdratio_of) {fratio_word : Addr} {fdratio_word : FuncData} (Dratio_word : DefAt K mg "ratio_word" stratio_word ["word"] fratio_word fdratio_word) {fwrong_scale_column : Addr} {fdwrong_scale_column : FuncData} (Dwrong_scale_column : DefAt K mg "wrong_scale_column" stwrong_scale_column ["words", "measures", "scales"] fwrong_scale_column fdwrong_scale_column) : FnOk P w K mg base CX0 5 fwrong_scale_column fdwrong_scale_column ["words", "measures", "scales"] spSc := by
  obtain ⟨uD, hD, rD⟩ := Es.dig
  obtain ⟨uM, hM, rM⟩ := Es.most
  obtain ⟨uL, hL, rL⟩ := Es.lett
  obtain ⟨uN, hN, rN⟩ := Es.long
  obtain ⟨uB, hB, rB⟩ := Es.most6
  have OKratio_word : FnOk P w K mg base CX0 4 fratio_word fdratio_word ["word"] spRw := okratio_word B Es Dlowest Ddigits_end Dwrong_column_ratios Dratio_of Dratio_word
  refine Dwrong_scale_column.F.ok scwrong_scale_column (fun vs H Q E h => ?_) (fun cdv A outer s H vs Q E hr h => ?_)
  · obtain ⟨a, d, s, nm, ot, wa, wb, ms, ns, p, q1, r, t, rfl, _⟩ := h; rfl
  · have hu := hu_of hr
    refine ⟨_, (pss_cons (ps_if (PW.pt (pw_or (pt_cmpR op_lt (pe_callB call_len_seq (by rfl) B.len_ (by decide +kernel) (pa_cons (pv 0) pa_nil)) pe_int (nomark _)) (pw_or1 (PW.pt (pw_and (pt_cmp (pc_dnotin hu (pe_ix ix_list (pv 0) pe_int (fun _ _ => rfl)) (pv 1))) (pw_and1 (pt_cmp (pc_dnotin hu (pe_ix ix_list (pv 0) pe_int (fun _ _ => rfl)) (pv 2))))))))) (pss_one (ps_ret pe_int)) pss_nil)
    (pss_cons (ps_set (i := 3) scwrong_scale_column.nd rfl (Or.inl rfl) (pe_ifExp (pt_cmpR op_gt (pe_callB call_len_seq (by rfl) B.len_ (by decide +kernel) (pa_cons (pv 0) pa_nil)) pe_int (nomark _)) (pe_call OKratio_word (hr.mono (by decide)) rfl Dratio_word.m Dratio_word.F.kp Dratio_word.b .nil pass0 (pa_cons (pe_ix ix_list (pv 0) pe_int (fun _ _ => rfl)) pa_nil)) pe_non))
    (pss_cons (ps_if (PW.pt (pw_or (pt_cmpR op_isN (pv 3) pe_non (nomark _)) (pw_or1 (pt_cmpR op_eq (pe_ix ix_tup (pv 3) pe_int (fun _ _ => rfl)) pe_int (nomark _))))) (pss_one (ps_ret pe_int)) pss_nil)
    (pss_cons (ps_if (PW.pt (pw_or (pt_cmpR op_lt (pe_callB call_len_seq (by rfl) B.len_ (by decide +kernel) (pa_cons (pv 0) pa_nil)) pe_int (nomark _)) (pw_or1 (pt_cmpR op_isN (pe_call OKratio_word (hr.mono (by decide)) rfl Dratio_word.m Dratio_word.F.kp Dratio_word.b .nil pass0 (pa_cons (pe_ix ix_list (pv 0) pe_int (fun _ _ => rfl)) pa_nil)) pe_non (nomark _))))) (pss_one (ps_ret pe_int)) pss_nil)
    (pss_one (ps_ret (pe_ifExp (pt_cmpR op_gt (pe_callB call_len_seq (by rfl) B.len_ (by decide +kernel) (pa_cons (pv 0) pa_nil)) pe_int (nomark _)) pe_int pe_int))))))), ?_⟩
    obtain ⟨a, d, s, nm, ot, wa, wb, ms, ns, p, q1, r, t, rfl, hw, hm, hs, hot, la, ea, pn, lb, eb, q⟩ := h
    have hw1 : H a = some (.lst [vS [115, 99, 97, 108, 101], vS nm, vS ot, vS wa, vS wb]) := hw
    refine ⟨_, rfl, a, _, rfl, .inl (SqL.of hw1), _, _, rfl, rfl, _, rfl, ?_⟩
    refine iteF ?_
    cases e : meOf ms ot with
    | some m =>
      obtain ⟨v, hg, _⟩ := hm.get e
      refine ⟨_, rfl, _, _, _, _, rfl, rfl, SqL.of hw1, atI_nat (j := 2) rfl, _, rfl, d, _, rfl, hg, _, rfl, ?_⟩
      refine iteF ?_
      refine ⟨_, rfl, a, _, rfl, .inl (SqL.of hw1), ?_⟩
      refine ⟨_, _, rfl, rfl, _, rfl, ?_⟩
      refine iteT ?_
      refine ⟨_, rfl, _, _, _, _, rfl, rfl, SqL.of hw1, atI_nat (j := 3) rfl, wa, p, q1, rfl, la, ea, fun t1 H1 s1 h1 => ?_⟩
      refine ⟨_, rfl, rfl, _, rfl, ?_⟩
      refine iteF ?_
      refine ⟨_, rfl, t1, _, _, _, rfl, rfl, SqT.of h1, rfl, rfl, _, rfl, ?_⟩
      rw [show decide (V.int p = V.int 0) = false from decide_eq_false fun z => pn (by injection z)]
      refine iteF ?_
      refine ⟨_, rfl, a, _, rfl, .inl (SqL.of (s1 _ _ hw1)), _, _, rfl, rfl, _, rfl, ?_⟩
      refine iteF ?_
      refine ⟨_, rfl, _, _, _, _, rfl, rfl, SqL.of (s1 _ _ hw1), atI_nat (j := 4) rfl, wb, r, t, rfl, lb, eb, fun t2 H2 s2 h2 => ?_⟩
      refine ⟨rfl, _, rfl, ?_⟩
      refine iteF ?_
      refine ⟨_, rfl, a, _, rfl, .inl (SqL.of (s2 _ _ (s1 _ _ hw1))), ?_⟩
      refine ⟨_, _, rfl, rfl, _, rfl, ?_⟩
      refine iteF ?_
      exact q _ (s1.trans s2)
    | none =>
      have ho := hot.resolve_left fun ⟨m, z⟩ => by rw [e] at z; cases z
      obtain ⟨o, hg, io⟩ := hs.get ot
      refine ⟨_, rfl, _, _, _, _, rfl, rfl, SqL.of hw1, atI_nat (j := 2) rfl, _, rfl, d, _, rfl, hm.no e, _, rfl, ?_⟩
      refine iteT ?_
      refine ⟨_, rfl, _, _, _, _, rfl, rfl, SqL.of hw1, atI_nat (j := 2) rfl, _, rfl, s, _, rfl, hg, _, rfl, ?_⟩
      rw [io, decide_eq_true ho]
      refine iteF ?_
      refine ⟨_, rfl, a, _, rfl, .inl (SqL.of hw1), ?_⟩
      refine ⟨_, _, rfl, rfl, _, rfl, ?_⟩
      refine iteT ?_
      refine ⟨_, rfl, _, _, _, _, rfl, rfl, SqL.of hw1, atI_nat (j := 3) rfl, wa, p, q1, rfl, la, ea, fun t1 H1 s1 h1 => ?_⟩
      refine ⟨_, rfl, rfl, _, rfl, ?_⟩
      refine iteF ?_
      refine ⟨_, rfl, t1, _, _, _, rfl, rfl, SqT.of h1, rfl, rfl, _, rfl, ?_⟩
      rw [show decide (V.int p = V.int 0) = false from decide_eq_false fun z => pn (by injection z)]
      refine iteF ?_
      refine ⟨_, rfl, a, _, rfl, .inl (SqL.of (s1 _ _ hw1)), _, _, rfl, rfl, _, rfl, ?_⟩
      refine iteF ?_
      refine ⟨_, rfl, _, _, _, _, rfl, rfl, SqL.of (s1 _ _ hw1), atI_nat (j := 4) rfl, wb, r, t, rfl, lb, eb, fun t2 H2 s2 h2 => ?_⟩
      refine ⟨rfl, _, rfl, ?_⟩
      refine iteF ?_
      refine ⟨_, rfl, a, _, rfl, .inl (SqL.of (s2 _ _ (s1 _ _ hw1))), ?_⟩
      refine ⟨_, _, rfl, rfl, _, rfl, ?_⟩
      refine iteF ?_
      exact q _ (s1.trans s2)
end
end AL
set_option Elab.async false
set_option maxRecDepth 100000
set_option exponentiation.threshold 70000
set_option maxHeartbeats 1000000
namespace AL
open PySem PySem.Spec PyProof.Rows L2 RZ
section
variable {P : Program} {w : World} {K : PySem.W.Frag} {mg : Str → Option Value} {base : Heap}

/-- a further line: a unit or a scale -/
inductive Item where
  | unit (nm rw : List Nat) (y : Rat) (us : List UW)
  | scale (nm ot wa wb : List Nat) (p q r t : Int)
def Item.nm : Item → List Nat
  | .unit nm _ _ _ => nm
  | .scale nm _ _ _ _ _ _ _ => nm
def Item.words : Item → List (List Nat)
  | .unit nm rw _ us => [117, 110, 105, 116] :: nm :: rw :: wtx us
  | .scale nm ot wa wb _ _ _ _ => [[115, 99, 97, 108, 101], nm, ot, wa, wb]
def Item.Ok (ms : List Me) (ns : List (List Nat)) : Item → Prop
  | .unit nm rw y us => nmOk nm = true ∧ meOf ms nm = none ∧ nm ∉ ns ∧ rw.length ≤ 20000 ∧ res rw = .ratio y.num (y.den : Int) ∧ 0 < y.num ∧ Lim (2 ^ 200) y ∧ us.length ≤ 1000 ∧ KnU ms us
  | .scale nm ot wa wb p q r t => nmOk nm = true ∧ meOf ms nm = none ∧ nm ∉ ns ∧ ((∃ m, meOf ms ot = some m) ∨ ot ∈ ns) ∧ wa.length ≤ 20000 ∧ res wa = .ratio p q ∧ p ≠ 0 ∧ wb.length ≤ 20000 ∧ res wb = .ratio r t
/-- wrong_column(words, measures, scales) of units, a right line -/
def spWc : Sp := fun vs H Q _ => ∃ (a d s : Addr) (it : Item) (ms : List Me) (ns : List (List Nat)), vs = [.ref a, .ref d, .ref s] ∧ TxL H a it.words ∧ MeAt H d ms ∧ ScalAt H s ns ∧ it.Ok ms ns ∧ ∀ H', Same H H' → Q (.int 0) H'
theorem unitS : ("unit" : Str) = S [117, 110, 105, 116] := by kernel_rfl
theorem scaleS : ("scale" : Str) = S [115, 99, 97, 108, 101] := by kernel_rfl
theorem in_two (l : List Nat) (h : l = [117, 110, 105, 116] ∨ l = [115, 99, 97, 108, 101]) : inV (vS l) [V.str "unit", V.str "scale"] = true := by
  rw [unitS, scaleS]
  have := inV_txt l [[117, 110, 105, 116], [115, 99, 97, 108, 101]]
  refine Eq.trans this (decide_eq_true ?_)
  rcases h with rfl | rfl <;> simp

abbrev stwrong_column_units : Stmt := top 41
theorem scwrong_column_units : FnScope ["words", "measures", "scales", "ratio", "wrong"] ["words", "measures", "scales"] (defScope stwrong_column_units) := ⟨rfl, rfl, rfl, by decide +kernel, rfl, by decide +kernel, by decide +kernel⟩
theorem okwrong_column_units (B : Blt mg) {CUnits : Addr} (Es : ErU K mg CUnits) {fis_name : Addr} {fdis_name : FuncData} (Dis_name : DefAt K mg "is_name" stis_name ["text"] fis_name fdis_name) {flowest : Addr} {fdlowest : FuncData} (Dlowest : DefAt K mg "lowest" stlowest ["top", "bottom"] flowest fdlowest) {fdigits_end : Addr} {fddigits_end : FuncData} (Ddigits_end : DefAt K mg "digits_end" stdigits_end ["text", "start"] fdigits_end fddigits_end) {fwrong_column_ratios : Addr} {fdwrong_column_ratios : FuncData} (Dwrong_column_ratios : DefAl K mg "wrong_column_ratios" "wrong_column" stwrong_column_ratios ["text"] fwrong_column_ratios fdwrong_column_ratios) {fratio_of : Addr} {fdratio_of : FuncData} (Dratio_of : DefAt K mg "ratio_of" stratio_of ["text"] fratio_of fdratio_of) {fratio_word : Addr} {fdratio_word : FuncData} (Dratio_word : DefAt K mg "ratio_word" stratio_word ["word"] fratio_word fdratio_word) {fwrong_scale_column : Addr} {fdwrong_scale_column : FuncData} (Dwrong_scale_column : DefAt K mg "wrong_scale_column" stwrong_scale_column ["words", "measures", "scales"] fwrong_scale_column fdwrong_scale_column) {fis_exponent : Addr} {fdis_exponent : FuncData} (Dis_exponent : DefAt K mg "is_exponent" stis_exponent ["text"] fis_exponent fdis_exponent) {fnamed_power : Addr} {fdnamed_power : FuncData} (Dnamed_power : DefAt K mg "named_power" stnamed_power ["word"] fnamed_power fdnamed_power) {fwrong_unit_word : Addr} {fdwrong_unit_word : FuncData} (Dwrong_unit_word : DefAt K mg "wrong_unit_word" stwrong_unit_word ["words", "measures"] fwrong_unit_word fdwrong_unit_word) {fwrong_column_units : Addr} {fdwrong_column_units : FuncData} (Dwrong_column_units : DefAl K mg "wrong_column_units" "wrong_column" stwrong_column_units ["words", "measures", "scales"] fwrong_column_units fdwrong_column_units) : FnOk P w K mg base CX0 6 fwrong_column_units fdwrong_column_units ["words", "measures", "scales"] spWc := by
  obtain ⟨uD, hD, rD⟩ := Es.dig
  obtain ⟨uM, hM, rM⟩ := Es.most
  obtain ⟨uL, hL, rL⟩ := Es.lett
  obtain ⟨uN, hN, rN⟩ := Es.long
  obtain ⟨uB, hB, rB⟩ := Es.most6
  have OKis_name : FnOk P w K mg base CX0 1 fis_name fdis_name ["text"] spNm := okis_name B Es Dis_name
  have OKratio_word : FnOk P w K mg base CX0 4 fratio_word fdratio_word ["word"] spRw := okratio_word B Es Dlowest Ddigits_end Dwrong_column_ratios Dratio_of Dratio_word
  have OKwrong_scale_column : FnOk P w K mg base CX0 5 fwrong_scale_column fdwrong_scale_column ["words", "measures", "scales"] spSc := okwrong_scale_column B Es Dlowest Ddigits_end Dwrong_column_ratios Dratio_of Dratio_word Dwrong_scale_column
  have OKwrong_unit_word : FnOk P w K mg base CX0 3 fwrong_unit_word fdwrong_unit_word ["words", "measures"] spWu := okwrong_unit_word B Es Dis_exponent Dis_name Dnamed_power Dwrong_unit_word
  refine Dwrong_column_units.F.ok scwrong_column_units (fun vs H Q E h => ?_) (fun cdv A outer s H vs Q E hr h => ?_)
  · obtain ⟨a, d, s, it, ms, ns, rfl, _⟩ := h; rfl
  · have hu := hu_of hr
    refine ⟨_, (pss_cons (ps_if (pt_cmpR op_notIn_seq (pe_ix ix_list (pv 0) pe_int (fun _ _ => rfl)) (pe_tup (pa_cons pe_str (pa_cons pe_str pa_nil))) rfl) (pss_one (ps_ret pe_int)) pss_nil)
    (pss_cons (ps_if (PW.pt (pw_or (pt_cmpR op_lt (pe_callB call_len_seq (by rfl) B.len_ (by decide +kernel) (pa_cons (pv 0) pa_nil)) pe_int (nomark _)) (pw_or (pt_not (pt_val (pe_call OKis_name (hr.mono (by decide)) rfl Dis_name.m Dis_name.F.kp Dis_name.b .nil pass0 (pa_cons (pe_ix ix_list (pv 0) pe_int (fun _ _ => rfl)) pa_nil)))) (pw_or (pt_cmp (pc_din hu (pe_ix ix_list (pv 0) pe_int (fun _ _ => rfl)) (pv 1))) (pw_or1 (pt_cmp (pc_din hu (pe_ix ix_list (pv 0) pe_int (fun _ _ => rfl)) (pv 2)))))))) (pss_one (ps_ret pe_int)) pss_nil)
    (pss_cons (ps_if (pt_cmpR op_eq (pe_ix ix_list (pv 0) pe_int (fun _ _ => rfl)) pe_str (nomark _)) (pss_one (ps_ret (pe_call OKwrong_scale_column (hr.mono (by decide)) rfl Dwrong_scale_column.m Dwrong_scale_column.F.kp Dwrong_scale_column.b .nil pass0 (pa_cons (pv 0) (pa_cons (pv 1) (pa_cons (pv 2) pa_nil)))))) pss_nil)
    (pss_cons (ps_set (i := 3) scwrong_column_units.nd rfl (Or.inl rfl) (pe_ifExp (pt_cmpR op_gt (pe_callB call_len_seq (by rfl) B.len_ (by decide +kernel) (pa_cons (pv 0) pa_nil)) pe_int (nomark _)) (pe_call OKratio_word (hr.mono (by decide)) rfl Dratio_word.m Dratio_word.F.kp Dratio_word.b .nil pass0 (pa_cons (pe_ix ix_list (pv 0) pe_int (fun _ _ => rfl)) pa_nil)) pe_non))
    (pss_cons (ps_if (PW.pt (pw_or (pt_cmpR op_isN (pv 3) pe_non (nomark _)) (pw_or1 (pt_cmpR op_le (pe_ix ix_tup (pv 3) pe_int (fun _ _ => rfl)) pe_int (nomark _))))) (pss_one (ps_ret pe_int)) pss_nil)
    (pss_cons (ps_set (i := 4) scwrong_column_units.nd rfl (Or.inl rfl) (pe_call OKwrong_unit_word (hr.mono (by decide)) rfl Dwrong_unit_word.m Dwrong_unit_word.F.kp Dwrong_unit_word.b .nil pass0 (pa_cons (pe_slice sl_list (pv 0) (po_some pe_int) po_none) (pa_cons (pv 1) pa_nil))))
    (pss_one (ps_ret (pe_ifExp (pt_cmpR op_isN (pv 4) pe_non (nomark _)) pe_int (pe_op op_add (pv 4) pe_int)))))))))), ?_⟩
    obtain ⟨a, d, s9, it, ms, ns, rfl, hw, hm, hs, ok, q⟩ := h
    cases it with
    | unit nm rw0 y us =>
      obtain ⟨o1, o2, o3, o4, o5, o6, o7, o8, o9⟩ := ok
      have hw1 : H a = some (.lst (vS [117, 110, 105, 116] :: vS nm :: vS rw0 :: (wtx us).map vS)) := hw
      refine ⟨_, rfl, _, _, _, _, rfl, rfl, SqL.of hw1, atI_nat (j := 0) rfl, (by show 2 ≤ sizeLine; decide), fun p0 hp0 => ?_⟩
      have n0 := AL.Same.new (o := .tup [.str "unit", .str "scale"]) hp0
      refine ⟨p0, _, rfl, .inr (SqT.of upd_same), rfl, rfl, _, rfl, ?_⟩
      rw [if_pos rfl, in_two _ (.inl rfl)]
      refine iteF ?_
      have hw2 := n0 _ _ hw1
      have hm2 := hm.same n0
      have hs2 := hs.same n0
      generalize upd H p0 (.tup [.str "unit", .str "scale"]) = H0 at n0 hw2 hm2 hs2 ⊢
      refine ⟨_, rfl, a, _, rfl, .inl (SqL.of hw2), _, _, rfl, rfl, _, rfl, ?_⟩
      rw [decide_eq_false (by simp only [List.length_cons]; omega)]
      refine iteF ?_
      have ll := nm_len o1
      refine ⟨_, rfl, _, _, _, _, rfl, rfl, SqL.of hw2, atI_nat (j := 1) rfl, nm, rfl, by omega, fun H1 s1 => ?_⟩
      rw [o1]
      refine ⟨_, rfl, ?_⟩
      refine iteF ?_
      have s01 := n0.trans s1
      have hw3 := s1 _ _ hw2
      refine ⟨_, rfl, _, _, _, _, rfl, rfl, SqL.of hw3, atI_nat (j := 1) rfl, _, rfl, d, _, rfl, (hm2.same s1).no o2, _, rfl, ?_⟩
      refine iteF ?_
      obtain ⟨o, hg, io⟩ := (hs2.same s1).get nm
      refine ⟨_, rfl, _, _, _, _, rfl, rfl, SqL.of hw3, atI_nat (j := 1) rfl, _, rfl, s9, _, rfl, hg, _, rfl, ?_⟩
      rw [io, decide_eq_false o3]
      refine iteF ?_
      refine ⟨_, rfl, _, _, _, _, rfl, rfl, SqL.of hw3, atI_nat (j := 0) rfl, rfl, _, rfl, ?_⟩
      rw [show decide (vS [117, 110, 105, 116] = V.str "scale") = false by rw [scaleS]; exact str_ne (by decide)]
      refine iteF ?_
      refine ⟨_, rfl, a, _, rfl, .inl (SqL.of hw3), ?_⟩
      refine ⟨_, _, rfl, rfl, _, rfl, ?_⟩
      rw [decide_eq_true (by simp only [List.length_cons]; omega)]
      refine iteT ?_
      refine ⟨_, rfl, _, _, _, _, rfl, rfl, SqL.of hw3, atI_nat (j := 2) rfl, rw0, _, _, rfl, o4, o5, fun t1 H2 s2 h1 => ?_⟩
      refine ⟨_, rfl, rfl, _, rfl, ?_⟩
      refine iteF ?_
      refine ⟨_, rfl, t1, _, _, _, rfl, rfl, SqT.of h1, rfl, _, _, rfl, rfl, _, rfl, ?_⟩
      rw [decide_eq_false (by omega)]
      refine iteF ?_
      have hw4 := s2 _ _ hw3
      refine ⟨_, rfl, _, rfl, a, _, rfl, SqL.of hw4, fun b hb => ?_⟩
      rw [show cutV (vS [117, 110, 105, 116] :: vS nm :: vS rw0 :: (wtx us).map vS) (some 3) none = (wtx us).map vS from cutV_from 3]
      have nb := AL.Same.new (o := .lst ((wtx us).map vS)) hb
      have s012 := s01.trans (s2.trans nb)
      refine ⟨_, rfl, b, d, us, ms, rfl, upd_same, o8, hm.same s012, o9, fun H3 s3 => ?_⟩
      refine ⟨_, rfl, rfl, _, rfl, ?_⟩
      refine iteT ?_
      exact q _ (s012.trans s3)
    | scale nm ot wa wb p q1 r t =>
      obtain ⟨o1, o2, o3, o4, o5, o6, o7, o8, o9⟩ := ok
      have hw1 : H a = some (.lst [vS [115, 99, 97, 108, 101], vS nm, vS ot, vS wa, vS wb]) := hw
      refine ⟨_, rfl, _, _, _, _, rfl, rfl, SqL.of hw1, atI_nat (j := 0) rfl, (by show 2 ≤ sizeLine; decide), fun p0 hp0 => ?_⟩
      have n0 := AL.Same.new (o := .tup [.str "unit", .str "scale"]) hp0
      refine ⟨p0, _, rfl, .inr (SqT.of upd_same), rfl, rfl, _, rfl, ?_⟩
      rw [if_pos rfl, in_two _ (.inr rfl)]
      refine iteF ?_
      have hw2 := n0 _ _ hw1
      have hm2 := hm.same n0
      have hs2 := hs.same n0
      generalize upd H p0 (.tup [.str "unit", .str "scale"]) = H0 at n0 hw2 hm2 hs2 ⊢
      refine ⟨_, rfl, a, _, rfl, .inl (SqL.of hw2), _, _, rfl, rfl, _, rfl, ?_⟩
      refine iteF ?_
      have ll := nm_len o1
      refine ⟨_, rfl, _, _, _, _, rfl, rfl, SqL.of hw2, atI_nat (j := 1) rfl, nm, rfl, by omega, fun H1 s1 => ?_⟩
      rw [o1]
      refine ⟨_, rfl, ?_⟩
      refine iteF ?_
      have s01 := n0.trans s1
      have hw3 := s1 _ _ hw2
      refine ⟨_, rfl, _, _, _, _, rfl, rfl, SqL.of hw3, atI_nat (j := 1) rfl, _, rfl, d, _, rfl, (hm2.same s1).no o2, _, rfl, ?_⟩
      refine iteF ?_
      obtain ⟨o, hg, io⟩ := (hs2.same s1).get nm
      refine ⟨_, rfl, _, _, _, _, rfl, rfl, SqL.of hw3, atI_nat (j := 1) rfl, _, rfl, s9, _, rfl, hg, _, rfl, ?_⟩
      rw [io, decide_eq_false o3]
      refine iteF ?_
      refine ⟨_, rfl, _, _, _, _, rfl, rfl, SqL.of hw3, atI_nat (j := 0) rfl, rfl, _, rfl, ?_⟩
      rw [show decide (vS [115, 99, 97, 108, 101] = V.str "scale") = true by rw [scaleS]; exact str_eq _]
      refine iteT ?_
      exact ⟨_, rfl, _, rfl, _, rfl, a, d, s9, nm, ot, wa, wb, ms, ns, p, q1, r, t, rfl, hw3, hm2.same s1, hs2.same s1, o4, o5, o6, o7, o8, o9, fun H2 s2 => q H2 (s01.trans s2)⟩
end
end AL
set_option Elab.async false
set_option maxRecDepth 100000
set_option exponentiation.threshold 70000
set_option maxHeartbeats 1000000
namespace AL
open PySem PySem.Spec PyProof.Rows L2 RZ
section
variable {P : Program} {w : World} {K : PySem.W.Frag} {mg : Str → Option Value} {base : Heap}

theorem dp_lines {K : PySem.W.Frag} {H : Hp} : ∀ {as : List Addr} {Ls : List (List (List Nat))}, Paired (fun a L => TxL H a L) as Ls → DpAll K H (as.map V.ref) (Ls.map dL)
  | _, _, .nil => .nil
  | _, _, .cons h r => .cons (dp_txtL h) (dp_lines r)
theorem can_lines {Ls : List (List (List Nat))} (h : ∀ L ∈ Ls, OkS L) : PyData.canLayAll0 (Ls.map dL) = true ∧ PyData.depthAll (Ls.map dL) ≤ 1 := by
  induction Ls with
  | nil => exact ⟨rfl, Nat.zero_le _⟩
  | cons b l ih =>
    have ih := ih fun x m => h x (List.mem_cons_of_mem _ m)
    have c := can_txt (h b (List.mem_cons_self ..))
    refine ⟨?_, ?_⟩
    · simp only [List.map_cons, dL, PyData.canLayAll0, PyData.canLay0, c.1, Bool.true_and]; exact ih.1
    · simp only [List.map_cons, dL, PyData.depthAll, PyData.depth, c.2]
      exact Nat.max_le.mpr ⟨by decide, ih.2⟩
theorem shaped_lines {Ls : List (List (List Nat))} (h : ∀ L ∈ Ls, OkS L) : SeqAt.shaped (.list (Ls.map dL)) = true := by
  have c := can_lines h
  unfold SeqAt.shaped
  rw [show PyData.canLay0 (.list (Ls.map dL)) = true by simpa [PyData.canLay0] using c.1]
  have : PyData.depth (.list (Ls.map dL)) ≤ 64 := by simp only [PyData.depth]; omega
  rw [decide_eq_true this]; rfl
theorem baseS : ("base" : Str) = S [98, 97, 115, 101] := by kernel_rfl
/-- wrong_base_column(lines) -/
def spBc : Sp := fun vs H Q _ => ∃ (ln : Addr) (as : List Addr) (B : List (List Nat)) (Ls : List (List (List Nat))), vs = [.ref ln] ∧ H ln = some (.lst (as.map V.ref)) ∧ Paired (fun a L => TxL H a L) as (([98, 97, 115, 101] :: B) :: Ls) ∧ (∀ L ∈ (([98, 97, 115, 101] :: B) :: Ls), OkS L) ∧ B ≠ [] ∧ B.length ≤ 6 ∧ (∀ l ∈ B, nmOk l = true) ∧ B.Nodup ∧ ∀ H', Same H H' → Q (.int 0) H'

abbrev stwrong_base_column : Stmt := top 40
theorem scwrong_base_column : FnScope ["lines"] ["lines"] (defScope stwrong_base_column) := ⟨rfl, rfl, rfl, by decide +kernel, rfl, by decide +kernel, by decide +kernel⟩
theorem okwrong_base_column (B : Blt mg) {CUnits : Addr} (Es : ErU K mg CUnits) {fis_name : Addr} {fdis_name : FuncData} (Dis_name : DefAt K mg "is_name" stis_name ["text"] fis_name fdis_name) {fwrong_names_column : Addr} {fdwrong_names_column : FuncData} (Dwrong_names_column : DefAt K mg "wrong_names_column" stwrong_names_column ["words", "head", "most"] fwrong_names_column fdwrong_names_column) {fwrong_base_column : Addr} {fdwrong_base_column : FuncData} (Dwrong_base_column : DefAt K mg "wrong_base_column" stwrong_base_column ["lines"] fwrong_base_column fdwrong_base_column) : FnOk P w K mg base CX0 3 fwrong_base_column fdwrong_base_column ["lines"] spBc := by
  obtain ⟨uD, hD, rD⟩ := Es.dig
  obtain ⟨uM, hM, rM⟩ := Es.most
  obtain ⟨uL, hL, rL⟩ := Es.lett
  obtain ⟨uN, hN, rN⟩ := Es.long
  obtain ⟨uB, hB, rB⟩ := Es.most6
  have OKwrong_names_column : FnOk P w K mg base CX0 2 fwrong_names_column fdwrong_names_column ["words", "head", "most"] spNc := okwrong_names_column B Es Dis_name Dwrong_names_column
  refine Dwrong_base_column.F.ok scwrong_base_column (fun vs H Q E h => ?_) (fun cdv A outer s H vs Q E hr h => ?_)
  · obtain ⟨ln, as, B, Ls, rfl, _⟩ := h; rfl
  · have hu := hu_of hr
    refine ⟨_, (pss_cons (ps_if (pt_cmpR (op_eqD hr.units) (pv 0) (pe_lst pa_nil) (nomark _)) (pss_one (ps_ret pe_int)) pss_nil)
    (pss_one (ps_ret (pe_call OKwrong_names_column (hr.mono (by decide)) rfl Dwrong_names_column.m Dwrong_names_column.F.kp Dwrong_names_column.b .nil pass0 (pa_cons (pe_ix ix_list (pv 0) pe_int (fun _ _ => rfl)) (pa_cons pe_str (pa_cons (pe_glob rfl hB rB) pa_nil))))))), ?_⟩
    obtain ⟨ln, as, B, Ls, rfl, hln, pr, hok, hne, hlen, hnm, nd, q⟩ := h
    refine ⟨_, rfl, (by show 0 ≤ sizeLine; decide), fun p hp => ?_⟩
    have n1 := AL.Same.new (o := .lst []) hp
    have hl1 := n1 _ _ hln
    have pr1 := paired_imp (fun _ _ z => TxL.same n1 z) pr
    refine ⟨_, _, Dp.lst (SqL.of hl1) (dp_lines pr1), Dp.lst (SqL.of upd_same) .nil, shaped_lines hok, (by decide +kernel), _, rfl, ?_⟩
    rw [show PyData.eqv (.list ((([98, 97, 115, 101] :: B) :: Ls).map dL)) (.list []) = false by rw [PyData.eqv]; rfl]
    refine iteF ?_
    generalize upd H p (.lst []) = H1 at n1 hl1 pr1 ⊢
    cases pr1 with
    | cons h0 r0 =>
      rename_i a0 as0
      have b0 : OkS B := fun l hl => hok _ (List.mem_cons_self ..) l (List.mem_cons_of_mem _ hl)
      refine ⟨_, rfl, _, _, _, _, rfl, rfl, SqL.of hl1, atI_nat (j := 0) rfl, ?_⟩
      exact ⟨a0, [98, 97, 115, 101], B, by rw [← baseS]; rfl, h0, b0, hne, hlen, hnm, nd, fun H2 s2 => q H2 (n1.trans s2)⟩
end
end AL
set_option Elab.async false
set_option maxRecDepth 100000
set_option exponentiation.threshold 70000
set_option maxHeartbeats 1000000
namespace AL
open PySem PySem.Spec PyProof.Rows L2 RZ
section
variable {P : Program} {w : World} {K : PySem.W.Frag} {mg : Str → Option Value} {base : Heap}

structure SN (a : Int) (b : Nat) : Prop where
  low : Low a b
  top : a.natAbs < 10 ^ 30
  bot : b < 100
theorem SN.sm {a : Int} {b : Nat} (h : SN a b) : Sm a b := ⟨Nat.lt_of_lt_of_le h.top (by decide +kernel), Nat.lt_of_lt_of_le h.bot (by decide +kernel)⟩
theorem SN.mid {a : Int} {b : Nat} (h : SN a b) : Mid a b := sm_mid h.sm h.low.1
/-- _law_ratio(pen, figures) -/
def spRatL : Sp := fun vs H Q _ => ∃ (p c : Addr) (m k : Nat), vs = [.ref p, .int (k : Int)] ∧ Pen H p c m ∧ m < 800000000 ∧ 0 < k ∧ k ≤ 30 ∧
  ∀ t a b H', SN a b → RatAt H' t a b → Pen H' p c (m + 300) → Keep p H H' → Q (.ref t) H'

abbrev st_law_gcd : Stmt := top 50
theorem sc_law_gcd : FnScope ["_law_one", "_law_two", "_law_lap"] ["_law_one", "_law_two"] (defScope st_law_gcd) := ⟨rfl, rfl, rfl, by decide +kernel, rfl, by decide +kernel, by decide +kernel⟩
theorem ok_law_gcd (B : Blt mg)  {f_law_gcd : Addr} {fd_law_gcd : FuncData} (D_law_gcd : DefAt K mg "_law_gcd" st_law_gcd ["_law_one", "_law_two"] f_law_gcd fd_law_gcd) : FnOk P w K mg base CX0 1 f_law_gcd fd_law_gcd ["_law_one", "_law_two"] spGcdL := by
  refine D_law_gcd.F.ok sc_law_gcd (fun vs H Q E h => ?_) (fun cdv A outer s H vs Q E hr h => ?_)
  · obtain ⟨a, b, rfl, _⟩ := h; rfl
  · have hu := hu_of hr
    refine ⟨_, (pss_cons (ps_par (i := 0) (j := 1) (by rfl) sc_law_gcd.nd rfl rfl (by decide) rfl rfl (pa_cons (pe_callB call_abs (by rfl) B.abs_ (by decide +kernel) (pa_cons (pv 0) pa_nil)) (pa_cons (pe_callB call_abs (by rfl) B.abs_ (by decide +kernel) (pa_cons (pv 1) pa_nil)) pa_nil)) (by rfl))
    (pss_cons (ps_for PassesOwn.never rfl (pi_range1 rfl B.range_ (pa_cons pe_int pa_nil)) (pg_name (i := 2) sc_law_gcd.nd rfl (Or.inl rfl))
      (pss_cons (ps_if (pt_cmpR op_eq (pv 1) pe_int (nomark _)) (pss_one ps_break) pss_nil)
    (pss_one (ps_par (i := 0) (j := 1) (by rfl) sc_law_gcd.nd rfl rfl (by decide) rfl rfl (pa_cons (pv 1) (pa_cons (pe_op op_modN (pe_callTy call_int1 (by rfl) B.int_ (by decide +kernel) (pa_cons (pv 0) pa_nil)) (pv 1)) pa_nil)) (by rfl)))))
    (pss_one (ps_ret (pv 0))))), ?_⟩
    obtain ⟨a, b, rfl, ha, hb, q⟩ := h
    have eabs : ∀ i : Int, (if i < 0 then -i else i) = ((i.natAbs : Nat) : Int) := fun i => by split <;> omega
    refine ⟨_, rfl, _, rfl, _, rfl, _, rfl, _, _, rfl, ?_⟩
    refine ⟨_, rfl, by decide, by decide, for_range (lo := 0) (n := 60000) (fun i σ H' => ∃ (x y : Nat) (v : Option V), σ = [some (.int (x : Int)), some (.int (y : Int)), v] ∧ H' = H ∧ pairOk a.natAbs b.natAbs i x y) ⟨a.natAbs, b.natAbs, none, by rw [← eabs, ← eabs]; rfl, rfl, pairOk0 _ _⟩ ?_ ?_⟩
    · rintro i σ H' hi ⟨x, y, v, rfl, rfl, hp⟩
      refine ⟨_, rfl, rfl, _, rfl, ?_⟩
      refine ite2 (fun h0 => ?_) (fun h0 => ?_)
      · have hy0 : y = 0 := vi_eq (j := 0) h0
        subst hy0
        refine ⟨_, rfl, ?_⟩
        rw [pairOk_end hp]; exact q
      · have hy0 : y ≠ 0 := vi_ne (j := 0) h0
        refine ⟨_, rfl, _, rfl, .inl ⟨_, rfl, _, rfl, _, _, rfl, rfl, by show (y : Int) ≠ 0; omega, _, _, rfl, ?_⟩⟩
        refine ⟨y, x % y, some (.int (0 + (i : Int))), ?_, rfl, pairOk_step hp hy0⟩
        rw [← fmod_nat]
        rfl
    · rintro σ H' ⟨x, y, v, rfl, rfl, hp⟩
      have hy0 := pairOk_zero hp ha hb
      subst hy0
      refine ⟨_, rfl, ?_⟩
      rw [pairOk_end hp]; exact q
abbrev st_law_q : Stmt := top 51
theorem sc_law_q : FnScope ["_law_top", "_law_bottom", "_law_by"] ["_law_top", "_law_bottom"] (defScope st_law_q) := ⟨rfl, rfl, rfl, by decide +kernel, rfl, by decide +kernel, by decide +kernel⟩
theorem ok_law_q (B : Blt mg)  {f_law_gcd : Addr} {fd_law_gcd : FuncData} (D_law_gcd : DefAt K mg "_law_gcd" st_law_gcd ["_law_one", "_law_two"] f_law_gcd fd_law_gcd) {f_law_q : Addr} {fd_law_q : FuncData} (D_law_q : DefAt K mg "_law_q" st_law_q ["_law_top", "_law_bottom"] f_law_q fd_law_q) : FnOk P w K mg base CX0 2 f_law_q fd_law_q ["_law_top", "_law_bottom"] spQG := by
  have OK_law_gcd : FnOk P w K mg base CX0 1 f_law_gcd fd_law_gcd ["_law_one", "_law_two"] spGcdL := ok_law_gcd B  D_law_gcd
  refine D_law_q.F.ok sc_law_q (fun vs H Q E h => ?_) (fun cdv A outer s H vs Q E hr h => ?_)
  · obtain ⟨a, b, rfl, _⟩ := h; rfl
  · have hu := hu_of hr
    refine ⟨_, (pss_cons (ps_set (i := 2) sc_law_q.nd rfl (Or.inl rfl) (pe_call OK_law_gcd (hr.mono (by decide)) rfl D_law_gcd.m D_law_gcd.F.kp D_law_gcd.b .nil pass0 (pa_cons (pv 0) (pa_cons (pv 1) pa_nil))))
    (pss_cons (ps_if (pt_cmpR op_lt (pv 1) pe_int (nomark _)) (pss_one (ps_set (i := 2) sc_law_q.nd rfl (Or.inl rfl) (pe_un un_neg (pv 2)))) pss_nil)
    (pss_one (ps_ret (pe_tup (pa_cons (pe_op op_fdivC (pv 0) (pv 2)) (pa_cons (pe_op op_fdivC (pv 1) (pv 2)) pa_nil))))))), ?_⟩
    obtain ⟨a, b, rfl, ha, hb, hlo, h0, q⟩ := h
    refine ⟨_, rfl, _, rfl, a, b, rfl, ha, hb, ?_⟩
    have hg : Nat.gcd a.natAbs b.natAbs ≠ 0 := fun z => h0 (Int.natAbs_eq_zero.mp (Nat.eq_zero_of_gcd_eq_zero_right z))
    have d1 : ∀ s : Int, s.natAbs = Nat.gcd a.natAbs b.natAbs → CDivC a s ∧ CDivC b s := fun s hs => by
      refine ⟨⟨fun z => hg (by rw [← hs, z]; rfl), ?_⟩, ⟨fun z => hg (by rw [← hs, z]; rfl), ?_⟩⟩
      · exact hlo.elim (fun z => .inl z.1) (fun z => .inr (by rw [hs]; exact z))
      · exact hlo.elim (fun z => .inl z.2) (fun z => .inr (by rw [hs]; exact z))
    refine ⟨_, rfl, _, _, rfl, rfl, _, rfl, ?_⟩
    refine ite2 (fun hneg => ?_) (fun hneg => ?_)
    · have hneg' := of_decide_eq_true hneg
      obtain ⟨c1, c2⟩ := d1 (-((Nat.gcd a.natAbs b.natAbs : Nat) : Int)) (by rw [Int.natAbs_neg, Int.natAbs_natCast])
      refine ⟨_, rfl, _, rfl, _, rfl, _, rfl, _, _, rfl, rfl, c1, _, rfl, _, rfl, _, _, rfl, rfl, c2, (by show 2 ≤ sizeLine; decide), fun t ht => ?_⟩
      have z := q t ht
      unfold lowI shr at z
      rw [if_pos hneg'] at z
      exact z
    · have hneg' : ¬ b < 0 := fun z => hneg (decide_eq_true z)
      obtain ⟨c1, c2⟩ := d1 ((Nat.gcd a.natAbs b.natAbs : Nat) : Int) (Int.natAbs_natCast _)
      refine ⟨_, rfl, _, rfl, _, _, rfl, rfl, c1, _, rfl, _, rfl, _, _, rfl, rfl, c2, (by show 2 ≤ sizeLine; decide), fun t ht => ?_⟩
      have z := q t ht
      unfold lowI shr at z
      rw [if_neg hneg'] at z
      exact z
abbrev st_law_plus : Stmt := top 52
theorem sc_law_plus : FnScope ["_law_one", "_law_two"] ["_law_one", "_law_two"] (defScope st_law_plus) := ⟨rfl, rfl, rfl, by decide +kernel, rfl, by decide +kernel, by decide +kernel⟩
theorem ok_law_plus (B : Blt mg)  {f_law_gcd : Addr} {fd_law_gcd : FuncData} (D_law_gcd : DefAt K mg "_law_gcd" st_law_gcd ["_law_one", "_law_two"] f_law_gcd fd_law_gcd) {f_law_q : Addr} {fd_law_q : FuncData} (D_law_q : DefAt K mg "_law_q" st_law_q ["_law_top", "_law_bottom"] f_law_q fd_law_q) {f_law_plus : Addr} {fd_law_plus : FuncData} (D_law_plus : DefAt K mg "_law_plus" st_law_plus ["_law_one", "_law_two"] f_law_plus fd_law_plus) : FnOk P w K mg base CX0 3 f_law_plus fd_law_plus ["_law_one", "_law_two"] (spTwo sumR) := by
  have OK_law_q : FnOk P w K mg base CX0 2 f_law_q fd_law_q ["_law_top", "_law_bottom"] spQG := ok_law_q B  D_law_gcd D_law_q
  refine D_law_plus.F.ok sc_law_plus (fun vs H Q E h => ?_) (fun cdv A outer s H vs Q E hr h => ?_)
  · obtain ⟨s, t, a, c, b, d, rfl, _⟩ := h; rfl
  · have hu := hu_of hr
    refine ⟨_, (pss_one (ps_ret (pe_call OK_law_q (hr.mono (by decide)) rfl D_law_q.m D_law_q.F.kp D_law_q.b .nil pass0 (pa_cons (pe_op op_add (pe_op op_mulW (pe_ix ix_tup (pv 0) pe_int (fun _ _ => rfl)) (pe_ix ix_tup (pv 1) pe_int (fun _ _ => rfl))) (pe_op op_mulW (pe_ix ix_tup (pv 1) pe_int (fun _ _ => rfl)) (pe_ix ix_tup (pv 0) pe_int (fun _ _ => rfl)))) (pa_cons (pe_op op_mulW (pe_ix ix_tup (pv 0) pe_int (fun _ _ => rfl)) (pe_ix ix_tup (pv 1) pe_int (fun _ _ => rfl))) pa_nil))))), ?_⟩
    obtain ⟨s, t, a, c, b, d, rfl, hs, ht, ⟨b0, ma, mb⟩, ⟨d0, mc, md⟩, q⟩ := h
    have mb' : ((b : Nat) : Int).natAbs < 2 ^ 6000 := by rw [Int.natAbs_natCast]; exact mb
    have md' : ((d : Nat) : Int).natAbs < 2 ^ 6000 := by rw [Int.natAbs_natCast]; exact md
    have ad := mid_mul ma md'
    have cb := mid_mul mc mb'
    have ac := mid_mul ma mc
    have bd := mid_mul mb' md'
    have bdn : ((b : Int) * (d : Int)) = ((b * d : Nat) : Int) := (Int.natCast_mul b d).symm
    have bd0 : 0 < b * d := Nat.mul_pos b0 d0
    have hs' := SqT.of (K := K) hs
    have ht' := SqT.of (K := K) ht
    
    obtain ⟨e1, e2⟩ := add12 ad.2 cb.2
    obtain ⟨o1, o2, o3⟩ := mid_div e1 (up12 bd.2)
    refine ⟨_, rfl, s, _, _, _, rfl, rfl, hs', rfl, _, rfl, t, _, _, _, rfl, rfl, ht', rfl, _, _, rfl, rfl, ad.1, _, rfl, t, _, _, _, rfl, rfl, ht', rfl, _, rfl, s, _, _, _, rfl, rfl, hs', rfl, _, _, rfl, rfl, cb.1, _, _, rfl, rfl, _, rfl, s, _, _, _, rfl, rfl, hs', rfl, _, rfl, t, _, _, _, rfl, rfl, ht', rfl, _, _, rfl, rfl, bd.1, _, _, rfl, o2, o3, o1, ?_, fun u hu => ?_⟩
    · rw [bdn]; omega
    · have z := q u hu
      rw [bdn, lowI_pos]
      exact z
abbrev st_law_times : Stmt := top 53
theorem sc_law_times : FnScope ["_law_one", "_law_two"] ["_law_one", "_law_two"] (defScope st_law_times) := ⟨rfl, rfl, rfl, by decide +kernel, rfl, by decide +kernel, by decide +kernel⟩
theorem ok_law_times (B : Blt mg)  {f_law_gcd : Addr} {fd_law_gcd : FuncData} (D_law_gcd : DefAt K mg "_law_gcd" st_law_gcd ["_law_one", "_law_two"] f_law_gcd fd_law_gcd) {f_law_q : Addr} {fd_law_q : FuncData} (D_law_q : DefAt K mg "_law_q" st_law_q ["_law_top", "_law_bottom"] f_law_q fd_law_q) {f_law_times : Addr} {fd_law_times : FuncData} (D_law_times : DefAt K mg "_law_times" st_law_times ["_law_one", "_law_two"] f_law_times fd_law_times) : FnOk P w K mg base CX0 3 f_law_times fd_law_times ["_law_one", "_law_two"] (spTwo mulR) := by
  have OK_law_q : FnOk P w K mg base CX0 2 f_law_q fd_law_q ["_law_top", "_law_bottom"] spQG := ok_law_q B  D_law_gcd D_law_q
  refine D_law_times.F.ok sc_law_times (fun vs H Q E h => ?_) (fun cdv A outer s H vs Q E hr h => ?_)
  · obtain ⟨s, t, a, c, b, d, rfl, _⟩ := h; rfl
  · have hu := hu_of hr
    refine ⟨_, (pss_one (ps_ret (pe_call OK_law_q (hr.mono (by decide)) rfl D_law_q.m D_law_q.F.kp D_law_q.b .nil pass0 (pa_cons (pe_op op_mulW (pe_ix ix_tup (pv 0) pe_int (fun _ _ => rfl)) (pe_ix ix_tup (pv 1) pe_int (fun _ _ => rfl))) (pa_cons (pe_op op_mulW (pe_ix ix_tup (pv 0) pe_int (fun _ _ => rfl)) (pe_ix ix_tup (pv 1) pe_int (fun _ _ => rfl))) pa_nil))))), ?_⟩
    obtain ⟨s, t, a, c, b, d, rfl, hs, ht, ⟨b0, ma, mb⟩, ⟨d0, mc, md⟩, q⟩ := h
    have mb' : ((b : Nat) : Int).natAbs < 2 ^ 6000 := by rw [Int.natAbs_natCast]; exact mb
    have md' : ((d : Nat) : Int).natAbs < 2 ^ 6000 := by rw [Int.natAbs_natCast]; exact md
    have ad := mid_mul ma md'
    have cb := mid_mul mc mb'
    have ac := mid_mul ma mc
    have bd := mid_mul mb' md'
    have bdn : ((b : Int) * (d : Int)) = ((b * d : Nat) : Int) := (Int.natCast_mul b d).symm
    have bd0 : 0 < b * d := Nat.mul_pos b0 d0
    have hs' := SqT.of (K := K) hs
    have ht' := SqT.of (K := K) ht
    
    obtain ⟨o1, o2, o3⟩ := mid_div (up12 ac.2) (up12 bd.2)
    refine ⟨_, rfl, s, _, _, _, rfl, rfl, hs', rfl, _, rfl, t, _, _, _, rfl, rfl, ht', rfl, _, _, rfl, rfl, ac.1, _, rfl, s, _, _, _, rfl, rfl, hs', rfl, _, rfl, t, _, _, _, rfl, rfl, ht', rfl, _, _, rfl, rfl, bd.1, _, _, rfl, o2, o3, o1, ?_, fun u hu => ?_⟩
    · rw [bdn]; omega
    · have z := q u hu
      rw [bdn, lowI_pos]
      exact z
abbrev st_law_power : Stmt := top 58
theorem sc_law_power : FnScope ["_law_one", "_law_n", "_law_found", "_law_lap"] ["_law_one", "_law_n"] (defScope st_law_power) := ⟨rfl, rfl, rfl, by decide +kernel, rfl, by decide +kernel, by decide +kernel⟩
theorem ok_law_power (B : Blt mg)  {f_law_gcd : Addr} {fd_law_gcd : FuncData} (D_law_gcd : DefAt K mg "_law_gcd" st_law_gcd ["_law_one", "_law_two"] f_law_gcd fd_law_gcd) {f_law_q : Addr} {fd_law_q : FuncData} (D_law_q : DefAt K mg "_law_q" st_law_q ["_law_top", "_law_bottom"] f_law_q fd_law_q) {f_law_power : Addr} {fd_law_power : FuncData} (D_law_power : DefAt K mg "_law_power" st_law_power ["_law_one", "_law_n"] f_law_power fd_law_power) : FnOk P w K mg base CX0 3 f_law_power fd_law_power ["_law_one", "_law_n"] spPowL := by
  have OK_law_q : FnOk P w K mg base CX0 2 f_law_q fd_law_q ["_law_top", "_law_bottom"] spQG := ok_law_q B  D_law_gcd D_law_q
  refine D_law_power.F.ok sc_law_power (fun vs H Q E h => ?_) (fun cdv A outer s H vs Q E hr h => ?_)
  · obtain ⟨t, a, b, n, rfl, _⟩ := h; rfl
  · have hu := hu_of hr
    refine ⟨_, (pss_cons (ps_set (i := 2) sc_law_power.nd rfl (Or.inl rfl) (pe_tup (pa_cons pe_int (pa_cons pe_int pa_nil))))
    (pss_cons (ps_for PassesOwn.never rfl (pi_range1 rfl B.range_ (pa_cons (pe_callB call_abs (by rfl) B.abs_ (by decide +kernel) (pa_cons (pv 1) pa_nil)) pa_nil)) (pg_name (i := 3) sc_law_power.nd rfl (Or.inl rfl))
      (pss_one (ps_set (i := 2) sc_law_power.nd rfl (Or.inl rfl) (pe_tup (pa_cons (pe_op op_mulW (pe_ix ix_tup (pv 2) pe_int (fun _ _ => rfl)) (pe_ix ix_tup (pv 0) pe_int (fun _ _ => rfl))) (pa_cons (pe_op op_mulW (pe_ix ix_tup (pv 2) pe_int (fun _ _ => rfl)) (pe_ix ix_tup (pv 0) pe_int (fun _ _ => rfl))) pa_nil))))))
    (pss_one (ps_ret (pe_ifExp (pt_cmpR op_ge (pv 1) pe_int (nomark _)) (pv 2) (pe_call OK_law_q (hr.mono (by decide)) rfl D_law_q.m D_law_q.F.kp D_law_q.b .nil pass0 (pa_cons (pe_ix ix_tup (pv 2) pe_int (fun _ _ => rfl)) (pa_cons (pe_ix ix_tup (pv 2) pe_int (fun _ _ => rfl)) pa_nil)))))))), ?_⟩
    obtain ⟨t, a, b, n, rfl, ht, sm, lo, hn, h0, q⟩ := h
    refine ⟨(by show 2 ≤ sizeLine; decide), fun f hf => ?_⟩
    have n1 := AL.Same.new (o := .tup [.int 1, .int 1]) hf
    refine ⟨_, rfl, _, rfl, ?_⟩
    have eabs : (if n < 0 then -n else n) = ((n.natAbs : Nat) : Int) := by split <;> omega
    rw [eabs]
    refine ⟨_, rfl, by omega, by omega, for_range (lo := 0) (n := ((n.natAbs : Int)).toNat) (fun i σ H' => ∃ (f : Addr) (v : Option V), Same H H' ∧ H' f = some (.tup [.int (a ^ i), .int ((b ^ i : Nat) : Int)]) ∧ σ = [some (.ref t), some (.int n), some (.ref f), v]) ⟨f, none, n1, by rw [Int.pow_zero]; exact upd_same, rfl⟩ ?_ ?_⟩
    · rintro i σ H' hi ⟨f, v, s, hf2, rfl⟩
      have hi' : i < 6 := by omega
      have ht' := s _ _ ht
      have fa : (a ^ i).natAbs < 2 ^ 6000 := by rw [Int.natAbs_pow]; exact pow6 sm.1 (by omega)
      have fb : ((b ^ i : Nat) : Int).natAbs < 2 ^ 6000 := by rw [Int.natAbs_natCast]; exact pow6 sm.2 (by omega)
      have sb : ((b : Nat) : Int).natAbs < 2 ^ 1000 := by rw [Int.natAbs_natCast]; exact sm.2
      refine ⟨_, rfl, f, _, _, _, rfl, rfl, SqT.of hf2, rfl, _, rfl, t, _, _, _, rfl, rfl, SqT.of ht', rfl, _, _, rfl, rfl, wide_mul (a := 6000) (b := 1000) fa sm.1 (by decide) (by decide) (by decide),
        _, rfl, f, _, _, _, rfl, rfl, SqT.of hf2, rfl, _, rfl, t, _, _, _, rfl, rfl, SqT.of ht', rfl, _, _, rfl, rfl, wide_mul (a := 6000) (b := 1000) fb sb (by decide) (by decide) (by decide), (by show 2 ≤ sizeLine; decide), fun f2 hf2' => ?_⟩
      refine ⟨f2, some (.int (0 + (i : Int))), s.trans (AL.Same.new hf2'), Eq.trans upd_same ?_, rfl⟩
      rw [Nat.pow_succ, Int.pow_succ, Int.natCast_mul]
    · rintro σ H' ⟨f, v, s, hf2, rfl⟩
      rw [Int.toNat_natCast] at hf2
      refine ⟨_, rfl, _, _, rfl, rfl, _, rfl, ?_⟩
      refine ite2 (fun hp => ?_) (fun hp => ?_)
      · have hp' : ¬ n < 0 := by have := of_decide_eq_true hp; omega
        refine ⟨_, rfl, q f H' s ?_⟩
        unfold pwR
        rw [if_neg hp']
        exact hf2
      · have hneg : n < 0 := by
          rcases Int.lt_or_le n 0 with z | z
          · exact z
          · exact absurd (decide_eq_true z) hp
        have a0 : a ≠ 0 := fun z => h0 ⟨hneg, z⟩
        have fa : (a ^ n.natAbs).natAbs < 2 ^ 6000 := by rw [Int.natAbs_pow]; exact pow6 sm.1 hn
        have fb : ((b ^ n.natAbs : Nat) : Int).natAbs < 2 ^ 6000 := by rw [Int.natAbs_natCast]; exact pow6 sm.2 hn
        have up : ∀ {x : Nat}, x < 2 ^ 6000 → x < 2 ^ 12001 := fun h => Nat.lt_of_lt_of_le h (Nat.pow_le_pow_right (by decide) (by decide))
        obtain ⟨o1, o2, o3⟩ := mid_div (up fb) (up fa)
        refine ⟨_, rfl, f, _, _, _, rfl, rfl, SqT.of hf2, rfl, _, rfl, f, _, _, _, rfl, rfl, SqT.of hf2, rfl, _, _, rfl, o2, o3, o1, Int.pow_ne_zero a0, fun u hu => ?_⟩
        refine q u _ (s.trans (AL.Same.new hu)) (Eq.trans upd_same ?_)
        have e := ovR_eq ((b ^ n.natAbs : Nat) : Int) 1 (a ^ n.natAbs) 1 (by decide) (Int.pow_ne_zero a0)
        rw [Int.natCast_one, Int.mul_one, Int.one_mul] at e
        unfold pwR
        rw [if_pos hneg, e]
abbrev st_law_ratio : Stmt := top 55
theorem sc_law_ratio : FnScope ["_law_pen_here", "_law_figures", "_law_top", "_law_bottom"] ["_law_pen_here", "_law_figures"] (defScope st_law_ratio) := ⟨rfl, rfl, rfl, by decide +kernel, rfl, by decide +kernel, by decide +kernel⟩
theorem ok_law_ratio (B : Blt mg)  {f_law_draw : Addr} {fd_law_draw : FuncData} (D_law_draw : DefAt K mg "_law_draw" st_law_draw ["_law_pen_here", "_law_many"] f_law_draw fd_law_draw) {f_law_pick : Addr} {fd_law_pick : FuncData} (D_law_pick : DefAt K mg "_law_pick" st_law_pick ["_law_pen_here", "_law_some"] f_law_pick fd_law_pick) {f_law_big : Addr} {fd_law_big : FuncData} (D_law_big : DefAt K mg "_law_big" st_law_big ["_law_pen_here", "_law_figures"] f_law_big fd_law_big) {f_law_gcd : Addr} {fd_law_gcd : FuncData} (D_law_gcd : DefAt K mg "_law_gcd" st_law_gcd ["_law_one", "_law_two"] f_law_gcd fd_law_gcd) {f_law_q : Addr} {fd_law_q : FuncData} (D_law_q : DefAt K mg "_law_q" st_law_q ["_law_top", "_law_bottom"] f_law_q fd_law_q) {f_law_ratio : Addr} {fd_law_ratio : FuncData} (D_law_ratio : DefAt K mg "_law_ratio" st_law_ratio ["_law_pen_here", "_law_figures"] f_law_ratio fd_law_ratio) : FnOk P w K mg base CX0 4 f_law_ratio fd_law_ratio ["_law_pen_here", "_law_figures"] spRatL := by
  have OK_law_big : FnOk P w K mg base CX0 3 f_law_big fd_law_big ["_law_pen_here", "_law_figures"] spBig := ok_law_big B  D_law_draw D_law_pick D_law_big
  have OK_law_draw : FnOk P w K mg base CX0 1 f_law_draw fd_law_draw ["_law_pen_here", "_law_many"] spDraw := ok_law_draw B  D_law_draw
  have OK_law_pick : FnOk P w K mg base CX0 2 f_law_pick fd_law_pick ["_law_pen_here", "_law_some"] (spPick K) := ok_law_pick B  D_law_draw D_law_pick
  have OK_law_q : FnOk P w K mg base CX0 2 f_law_q fd_law_q ["_law_top", "_law_bottom"] spQG := ok_law_q B  D_law_gcd D_law_q
  refine D_law_ratio.F.ok sc_law_ratio (fun vs H Q E h => ?_) (fun cdv A outer s H vs Q E hr h => ?_)
  · obtain ⟨p, c, m, k, rfl, _⟩ := h; rfl
  · have hu := hu_of hr
    refine ⟨_, (pss_cons (ps_set (i := 2) sc_law_ratio.nd rfl (Or.inl rfl) (pe_call OK_law_big (hr.mono (by decide)) rfl D_law_big.m D_law_big.F.kp D_law_big.b .nil pass0 (pa_cons (pv 0) (pa_cons (pv 1) pa_nil))))
    (pss_cons (ps_set (i := 3) sc_law_ratio.nd rfl (Or.inl rfl) (pe_call OK_law_pick (hr.mono (by decide)) rfl D_law_pick.m D_law_pick.F.kp D_law_pick.b .nil pass0 (pa_cons (pv 0) (pa_cons (pe_lst (pa_cons pe_int (pa_cons pe_int (pa_cons pe_int (pa_cons pe_int (pa_cons pe_int (pa_cons pe_int (pa_cons pe_int (pa_cons (pe_op op_add pe_int (pe_call OK_law_draw (hr.mono (by decide)) rfl D_law_draw.m D_law_draw.F.kp D_law_draw.b .nil pass0 (pa_cons (pv 0) (pa_cons pe_int pa_nil)))) pa_nil))))))))) pa_nil))))
    (pss_one (ps_ret (pe_call OK_law_q (hr.mono (by decide)) rfl D_law_q.m D_law_q.F.kp D_law_q.b .nil pass0 (pa_cons (pe_op op_mulW (pe_call OK_law_pick (hr.mono (by decide)) rfl D_law_pick.m D_law_pick.F.kp D_law_pick.b .nil pass0 (pa_cons (pv 0) (pa_cons (pe_lst (pa_cons pe_int (pa_cons pe_int (pa_cons (pe_un un_neg pe_int) pa_nil)))) pa_nil))) (pv 2)) (pa_cons (pv 3) pa_nil))))))), ?_⟩
    obtain ⟨p, c, m, k, rfl, P, hm, hk0, hk, q⟩ := h
    refine ⟨_, rfl, _, rfl, p, c, m, k, rfl, P, by omega, hk0, by omega, fun n H1 hn P1 k1 => ?_⟩
    have kp1 := k1.kk P
    refine ⟨_, rfl, _, rfl, p, c, m + 200, _, rfl, P1, by omega, by decide, by decide, fun r H2 h0 h1 P2 k2 => ?_⟩
    have kp2 := kp1.trans (k2.kk P1)
    refine ⟨_, _, rfl, rfl, (by show 8 ≤ sizeLine; decide), fun l hl => ?_⟩
    refine ⟨p, c, l, m + 201, _, rfl, P2.same (AL.Same.new hl), by omega, SqL.of upd_same, (by show 0 < 8; decide), (by show 8 < 1000000000; decide), fun j x H3 hx P3 k3 => ?_⟩
    have kp3 := (kp2.trans (Same.k (AL.Same.new hl))).trans (k3.kk (P2.same (AL.Same.new hl)))
    obtain ⟨b, rfl, hb0, hb⟩ : ∃ b : Nat, x = V.int (b : Int) ∧ 0 < b ∧ b < 100 := by
      obtain ⟨r, rfl⟩ := Int.eq_ofNat_of_zero_le h0
      refine pick_of (P := fun x => ∃ b : Nat, x = V.int (b : Int) ∧ 0 < b ∧ b < 100) (fun y hy => ?_) hx
      simp only [List.mem_cons, List.not_mem_nil, or_false] at hy
      rcases hy with rfl | rfl | rfl | rfl | rfl | rfl | rfl | rfl
      · exact ⟨1, rfl, by decide, by decide⟩
      · exact ⟨1, rfl, by decide, by decide⟩
      · exact ⟨1, rfl, by decide, by decide⟩
      · exact ⟨2, rfl, by decide, by decide⟩
      · exact ⟨3, rfl, by decide, by decide⟩
      · exact ⟨4, rfl, by decide, by decide⟩
      · exact ⟨7, rfl, by decide, by decide⟩
      · exact ⟨1 + r, rfl, by omega, by omega⟩
    refine ⟨_, rfl, _, rfl, (by show 3 ≤ sizeLine; decide), fun l2 hl2 => ?_⟩
    refine ⟨p, c, l2, m + 202, _, rfl, P3.same (AL.Same.new hl2), by omega, SqL.of upd_same, (by show 0 < 3; decide), (by show 3 < 1000000000; decide), fun j2 x2 H4 hx2 P4 k4 => ?_⟩
    have kp4 := (kp3.trans (Same.k (AL.Same.new hl2))).trans (k4.kk (P3.same (AL.Same.new hl2)))
    obtain ⟨sg, rfl, hs⟩ : ∃ sg : Int, x2 = V.int sg ∧ sg.natAbs = 1 := by
      refine pick_of (P := fun x => ∃ sg : Int, x = V.int sg ∧ sg.natAbs = 1) (fun y hy => ?_) hx2
      simp only [List.mem_cons, List.not_mem_nil, or_false] at hy
      rcases hy with rfl | rfl | rfl
      · exact ⟨1, rfl, rfl⟩
      · exact ⟨1, rfl, rfl⟩
      · exact ⟨-1, rfl, rfl⟩
    have hn30 : n < 10 ^ 30 := Nat.lt_of_lt_of_le hn (Nat.pow_le_pow_right (by decide) hk)
    have n2 : n < 2 ^ 1000 := Nat.lt_of_lt_of_le hn30 (by decide +kernel)
    have b2 : b < 2 ^ 1000 := Nat.lt_of_lt_of_le hb (by decide +kernel)
    have ab : (sg * (n : Int)).natAbs = n := by rw [Int.natAbs_mul, hs, Nat.one_mul, Int.natAbs_natCast]
    have a12 : (sg * (n : Int)).natAbs < 2 ^ 12001 := by rw [ab]; exact Nat.lt_of_lt_of_le n2 (Nat.pow_le_pow_right (by decide) (by decide))
    have b12 : ((b : Nat) : Int).natAbs < 2 ^ 12001 := by rw [Int.natAbs_natCast]; exact Nat.lt_of_lt_of_le b2 (Nat.pow_le_pow_right (by decide) (by decide))
    obtain ⟨o1, o2, o3⟩ := mid_div a12 b12
    refine ⟨_, rfl, _, _, rfl, rfl, wide_mul (a := 4) (b := 1000) (by rw [hs]; decide) (by rw [Int.natAbs_natCast]; exact n2) (by decide) (by decide) (by decide), _, rfl, _, _, rfl, o2, o3, o1, by omega, fun u hu => ?_⟩
    rw [lowI_pos]
    refine q u _ _ _ ⟨low_nrm _ hb0, ?_, ?_⟩ upd_same ((P4.same (AL.Same.new hu)).mono (by omega)) (kp4.trans (Same.k (AL.Same.new hu)))
    · exact Nat.lt_of_le_of_lt (nrm_le _ _).1 (by rw [ab]; exact hn30)
    · exact Nat.lt_of_le_of_lt (nrm_le _ _).2 hb
end
end AL
set_option Elab.async false
set_option maxRecDepth 100000
set_option exponentiation.threshold 70000
set_option maxHeartbeats 1000000
/-! The word of a ratio is read as this ratio. -/
namespace AL
open PySem L2 PySem.NumText
open PyProof.Rows
theorem tw_app {d t : List Nat} (hd : ∀ c ∈ d, isD c = true) (ht : ∀ c, t[0]? = some c → isD c = false) : (d ++ t).takeWhile isD = d := by
  induction d with
  | nil =>
    cases t with
    | nil => rfl
    | cons c t => rw [List.nil_append, List.takeWhile_cons, ht c rfl]; rfl
  | cons x d ih =>
    rw [List.cons_append, List.takeWhile_cons, hd x (List.mem_cons_self ..), ih fun c hc => hd c (List.mem_cons_of_mem _ hc)]; rfl
theorem isD_of {d : List Nat} (h : AllDigits d) : ∀ c ∈ d, isD c = true := fun c hc => by
  have := h c hc
  unfold isD
  simp only [Bool.and_eq_true, decide_eq_true_eq]
  omega
/-- a sign, perhaps -/
def sgC (b : Bool) : List Nat := if b = true then [45] else []
theorem sgC_len (b : Bool) : (sgC b).length = b.toNat := by cases b <;> rfl
theorem neg_word {b : Bool} {d t : List Nat} (hd : AllDigits d) (h0 : d ≠ []) : neg (sgC b ++ d ++ t) = b := by
  unfold neg
  cases b with
  | true => rfl
  | false =>
    cases d with
    | nil => exact absurd rfl h0
    | cons c d =>
      refine decide_eq_false fun z => ?_
      have hc : c = 45 := Option.some.inj z
      have := hd c (List.mem_cons_self ..)
      omega
theorem fst_word {b : Bool} {d t : List Nat} (hd : AllDigits d) (h0 : d ≠ []) : fst0 (sgC b ++ d ++ t) = b.toNat := by
  unfold fst0
  rw [neg_word hd h0]
  cases b <;> rfl
theorem mid_word {b : Bool} {d t : List Nat} (hd : AllDigits d) (h0 : d ≠ []) (ht : ∀ c, t[0]? = some c → isD c = false) : mid0 (sgC b ++ d ++ t) = b.toNat + d.length := by
  unfold mid0 dEnd
  rw [fst_word hd h0, List.append_assoc, ← sgC_len b, List.drop_left, tw_app (isD_of hd) ht]
theorem top_word {b : Bool} {d t : List Nat} (hd : AllDigits d) (h0 : d ≠ []) (ht : ∀ c, t[0]? = some c → isD c = false) : topV (sgC b ++ d ++ t) = digitsVal d := by
  unfold topV rowAt
  rw [mid_word hd h0 ht, fst_word hd h0, ← sgC_len b, ← List.length_append, List.take_left, List.drop_left]
theorem sgn_word {b : Bool} {d t : List Nat} (hd : AllDigits d) (h0 : d ≠ []) (n : Int) : sgn (sgC b ++ d ++ t) n = if b = true then -n else n := by
  unfold sgn
  rw [neg_word hd h0]
theorem res_one {b : Bool} {d : List Nat} (hd : AllDigits d) (h0 : d ≠ []) (l4 : d.length ≤ 4000) : res (sgC b ++ d) = .ratio (if b = true then -(digitsVal d : Int) else (digitsVal d : Int)) 1 := by
  have ht : ∀ c, ([] : List Nat)[0]? = some c → isD c = false := fun c z => by cases z
  have p : 0 < d.length := List.length_pos_iff.mpr h0
  have f := fst_word (b := b) (t := []) hd h0
  have m := mid_word (b := b) hd h0 ht
  have tv := top_word (b := b) hd h0 ht
  have sv := sgn_word (b := b) (t := []) hd h0 (digitsVal d : Int)
  rw [List.append_nil] at f m tv sv
  unfold res
  rw [tv, f, m, sv]
  have len : (sgC b ++ d).length = b.toNat + d.length := by rw [List.length_append, sgC_len]
  have sl : slash0 (sgC b ++ d) = false := by
    unfold slash0
    rw [m]
    refine decide_eq_false fun z => ?_
    rw [List.getElem?_eq_none (by rw [len]; exact Nat.le_refl _)] at z
    cases z
  rw [if_neg (by omega), if_neg (by rw [sl]; decide), if_neg (by rw [len]; omega), if_neg (by omega)]
theorem res_two {b : Bool} {d e : List Nat} (hd : AllDigits d) (h0 : d ≠ []) (l4 : d.length ≤ 4000) (he : AllDigits e) (e0 : e ≠ []) (k4 : e.length ≤ 4000) (nz : digitsVal e ≠ 0) :
    res (sgC b ++ d ++ 47 :: e) = .ratio (if b = true then -(red (digitsVal d) (digitsVal e)).1 else (red (digitsVal d) (digitsVal e)).1) (red (digitsVal d) (digitsVal e)).2 := by
  have ht : ∀ c, (47 :: e)[0]? = some c → isD c = false := fun c z => by
    have : 47 = c := Option.some.inj z
    rw [← this]; decide
  have p : 0 < d.length := List.length_pos_iff.mpr h0
  have pe : 0 < e.length := List.length_pos_iff.mpr e0
  have f := fst_word (b := b) (t := 47 :: e) hd h0
  have m := mid_word (b := b) hd h0 ht
  have tv := top_word (b := b) hd h0 ht
  have sv := sgn_word (b := b) (t := 47 :: e) hd h0 (red (digitsVal d) (digitsVal e)).1
  have lsd : (sgC b ++ d).length = b.toNat + d.length := by rw [List.length_append, sgC_len]
  have dr : (sgC b ++ d ++ 47 :: e).drop (b.toNat + d.length + 1) = e := by
    rw [← lsd, ← List.drop_drop, List.drop_left]; rfl
  have en : end0 (sgC b ++ d ++ 47 :: e) = b.toNat + d.length + 1 + e.length := by
    unfold end0 dEnd
    rw [m, dr]
    have := tw_app (t := []) (isD_of he) (fun c z => by cases z)
    rw [List.append_nil] at this
    rw [this]
  have len : (sgC b ++ d ++ 47 :: e).length = b.toNat + d.length + 1 + e.length := by rw [List.length_append, lsd, List.length_cons]; omega
  have sl : slash0 (sgC b ++ d ++ 47 :: e) = true := by
    unfold slash0
    rw [m, ← lsd]
    refine decide_eq_true ?_
    rw [List.getElem?_append_right (Nat.le_refl _), Nat.sub_self]; rfl
  have bv : botV (sgC b ++ d ++ 47 :: e) = digitsVal e := by
    unfold botV rowAt
    rw [m, en, List.take_of_length_le (by rw [len]; exact Nat.le_refl _), dr]
  unfold res
  rw [tv, bv, f, m, en, sv, len]
  rw [if_neg (by omega), if_pos sl, if_neg (by omega), if_neg (by omega), if_neg (by omega), if_neg (by omega), if_neg nz]

theorem red_mul {a b k : Nat} (hk : 0 < k) (h : Nat.gcd a b = 1) (b0 : 0 < b) : red (a * k) (b * k) = ((a : Int), (b : Int)) := by
  unfold red
  rw [Nat.gcd_mul_right, h, Nat.one_mul, Nat.mul_div_cancel _ hk, Nat.mul_div_cancel _ hk]
theorem numL_len {n k : Nat} (hk : 0 < k) (h : n < 10 ^ k) : (TL.numL n).length ≤ k := by
  have e : (TL.numL n).length = (Str.ofString (toString ((n : Nat) : Int))).length := by rw [TL.len_tl]; exact (congrArg List.length (TL.tl_num n)).symm
  rw [e]
  exact str_len hk h
theorem res_whole {y : Rat} (hd : y.den = 1) (h : y.num.natAbs < 10 ^ 1000) : res (sgC (decide (y.num < 0)) ++ TL.numL y.num.natAbs) = .ratio y.num (y.den : Int) := by
  rw [res_one (TL.numL_digits _) (TL.numL_ne _) (Nat.le_trans (numL_len (by decide) h) (by decide)), TL.numL_val, hd]
  by_cases w : y.num < 0
  · rw [decide_eq_true w, if_pos rfl, show -((y.num.natAbs : Nat) : Int) = y.num by omega]; rfl
  · rw [decide_eq_false w, if_neg (by decide), show ((y.num.natAbs : Nat) : Int) = y.num by omega]; rfl
theorem res_rat {y : Rat} {k : Nat} (hk : 0 < k) (h : y.num.natAbs * k < 10 ^ 1000) (h2 : y.den * k < 10 ^ 1000) : res (sgC (decide (y.num < 0)) ++ TL.numL (y.num.natAbs * k) ++ 47 :: TL.numL (y.den * k)) = .ratio y.num (y.den : Int) := by
  have d0 : 0 < y.den := Nat.pos_of_ne_zero y.den_nz
  have nz : digitsVal (TL.numL (y.den * k)) ≠ 0 := by rw [TL.numL_val]; exact Nat.ne_of_gt (Nat.mul_pos d0 hk)
  rw [res_two (TL.numL_digits _) (TL.numL_ne _) (Nat.le_trans (numL_len (by decide) h) (by decide)) (TL.numL_digits _) (TL.numL_ne _) (Nat.le_trans (numL_len (by decide) h2) (by decide)) nz, TL.numL_val, TL.numL_val, red_mul hk y.reduced d0]
  by_cases w : y.num < 0
  · rw [decide_eq_true w, if_pos rfl]
    show Res.ratio (-((y.num.natAbs : Nat) : Int)) _ = _
    rw [show -((y.num.natAbs : Nat) : Int) = y.num by omega]
  · rw [decide_eq_false w, if_neg (by decide)]
    show Res.ratio ((y.num.natAbs : Nat) : Int) _ = _
    rw [show ((y.num.natAbs : Nat) : Int) = y.num by omega]
theorem tl_int (a : Int) : (Str.ofString (toString a)).cps.toList = sgC (decide (a < 0)) ++ TL.numL a.natAbs := by
  cases a with
  | ofNat n =>
    rw [show decide ((Int.ofNat n) < 0) = false from decide_eq_false (by show ¬ ((n : Int) < 0); omega)]
    exact TL.tl_num n
  | negSucc n =>
    rw [show decide ((Int.negSucc n) < 0) = true from decide_eq_true (Int.negSucc_lt_zero n)]
    have e : (toString (Int.negSucc n)) = "-" ++ toString (((n + 1 : Nat) : Int)) := rfl
    rw [e]
    have h := TL.tl_num (n + 1)
    have o : (Str.ofString ("-" ++ toString (((n + 1 : Nat) : Int)))).cps.toList = 45 :: (Str.ofString (toString (((n + 1 : Nat) : Int)))).cps.toList := by
      rw [Str.ofString_eq_toList, Str.ofString_eq_toList]
      simp
    rw [o]
    show 45 :: _ = 45 :: TL.numL (n + 1)
    exact congrArg _ h
end AL
set_option Elab.async false
set_option maxRecDepth 100000
set_option exponentiation.threshold 70000
set_option maxHeartbeats 1000000
namespace AL
open PySem PySem.Spec PyProof.Rows L2 RZ
section
variable {P : Program} {w : World} {K : PySem.W.Frag} {mg : Str → Option Value} {base : Heap}

/-- a word that is read as y -/
structure WordQ (y : Rat) (l : List Nat) : Prop where
  res : res l = .ratio y.num (y.den : Int)
  len : l.length ≤ 2100
  cod : ∀ c ∈ l, 45 ≤ c ∧ c ≤ 57
def wrC (y : Rat) (k : Nat) : List Nat := sgC (decide (y.num < 0)) ++ TL.numL (y.num.natAbs * k) ++ (if y.den = 1 ∧ k = 1 then [] else 47 :: TL.numL (y.den * k))
theorem num_cod {n : Nat} : ∀ c ∈ TL.numL n, 45 ≤ c ∧ c ≤ 57 := fun c hc => by have := TL.numL_digits n c hc; omega
theorem wrC_ok {y : Rat} {k : Nat} (k0 : 0 < k) (h : y.num.natAbs * k < 10 ^ 1000) (h2 : y.den * k < 10 ^ 1000) : WordQ y (wrC y k) := by
  have l1 := numL_len (by decide : 0 < 1000) h
  have l2 := numL_len (by decide : 0 < 1000) h2
  refine ⟨?_, ?_, ?_⟩
  · unfold wrC
    split
    · rename_i z
      rw [z.2, Nat.mul_one, List.append_nil]
      rw [z.2, Nat.mul_one] at h
      exact res_whole z.1 h
    · exact res_rat k0 h h2
  · unfold wrC
    rw [List.length_append, List.length_append, sgC_len]
    have : (decide (y.num < 0)).toNat ≤ 1 := Bool.toNat_le _
    split
    · simp only [List.length_nil]; omega
    · rw [List.length_cons]; omega
  · intro c hc
    unfold wrC at hc
    rw [List.mem_append, List.mem_append] at hc
    rcases hc with (hc | hc) | hc
    · unfold sgC at hc
      split at hc
      · have : c = 45 := by simpa using hc
        omega
      · cases hc
    · exact num_cod c hc
    · split at hc
      · cases hc
      · rcases List.mem_cons.mp hc with rfl | hc
        · decide
        · exact num_cod c hc
/-- _law_written(ratio) -/
def spWrt : Sp := fun vs H Q _ => ∃ (t : Addr) (y : Rat), vs = [.ref t] ∧ RQ H t y ∧ y.num.natAbs < 10 ^ 1000 ∧ y.den < 10 ^ 1000 ∧ Q (.str (S (wrC y 1))) H
theorem strI (a : Int) : (Str.ofString (toString a) : Str) = S (sgC (decide (a < 0)) ++ TL.numL a.natAbs) := by
  rw [← tl_int]
theorem slash_app {a b : List Nat} : (S a ++ "/" ++ S b : Str) = S (a ++ 47 :: b) := by
  rw [slashS, S_app, S_app, List.append_assoc]; rfl

abbrev st_law_written : Stmt := top 54
theorem sc_law_written : FnScope ["_law_one"] ["_law_one"] (defScope st_law_written) := ⟨rfl, rfl, rfl, by decide +kernel, rfl, by decide +kernel, by decide +kernel⟩
theorem ok_law_written (B : Blt mg) {CUnits : Addr} (Es : ErU K mg CUnits) {f_law_written : Addr} {fd_law_written : FuncData} (D_law_written : DefAt K mg "_law_written" st_law_written ["_law_one"] f_law_written fd_law_written) : FnOk P w K mg base CX0 1 f_law_written fd_law_written ["_law_one"] spWrt := by
  obtain ⟨uD, hD, rD⟩ := Es.dig
  obtain ⟨uM, hM, rM⟩ := Es.most
  obtain ⟨uL, hL, rL⟩ := Es.lett
  obtain ⟨uN, hN, rN⟩ := Es.long
  obtain ⟨uB, hB, rB⟩ := Es.most6
  refine D_law_written.F.ok sc_law_written (fun vs H Q E h => ?_) (fun cdv A outer s H vs Q E hr h => ?_)
  · obtain ⟨t, y, rfl, _⟩ := h; rfl
  · have hu := hu_of hr
    refine ⟨_, (pss_one (ps_ret (pe_ifExp (pt_cmpR op_eq (pe_ix ix_tup (pv 0) pe_int (fun _ _ => rfl)) pe_int (nomark _)) (pe_callTy (call_str_intL hr.hd Es.nodig) (by rfl) B.str_ (by decide +kernel) (pa_cons (pe_ix ix_tup (pv 0) pe_int (fun _ _ => rfl)) pa_nil)) (pe_op op_add_str (pe_op op_add_str (pe_callTy (call_str_intL hr.hd Es.nodig) (by rfl) B.str_ (by decide +kernel) (pa_cons (pe_ix ix_tup (pv 0) pe_int (fun _ _ => rfl)) pa_nil)) pe_str) (pe_callTy (call_str_intL hr.hd Es.nodig) (by rfl) B.str_ (by decide +kernel) (pa_cons (pe_ix ix_tup (pv 0) pe_int (fun _ _ => rfl)) pa_nil)))))), ?_⟩
    obtain ⟨t, y, rfl, ht, hn, hd, q⟩ := h
    have ht1 := SqT.of (K := K) ht
    have big : (10 : Nat) ^ 1000 ≤ 10 ^ 4300 := Nat.pow_le_pow_right (by decide) (by decide)
    have n0 : ¬ ((y.den : Int) < 0) := by omega
    have h47 : ("/" : Str).length = 1 := by decide +kernel
    have z : wrC y 1 = sgC (decide (y.num < 0)) ++ TL.numL y.num.natAbs ++ (if y.den = 1 ∧ (1 : Nat) = 1 then [] else 47 :: TL.numL y.den) := by unfold wrC; rw [Nat.mul_one, Nat.mul_one]
    refine ⟨_, rfl, t, _, _, _, rfl, rfl, ht1, rfl, rfl, _, rfl, ?_⟩
    have l1 := numL_len (by decide : 0 < 1000) hn
    have l2 := numL_len (by decide : 0 < 1000) hd
    refine ite2 (fun h1 => ?_) (fun h1 => ?_)
    · have d1 : y.den = 1 := by have w := of_decide_eq_true h1; injection w with w; omega
      refine ⟨_, rfl, t, _, _, _, rfl, rfl, ht1, rfl, _, rfl, Nat.lt_of_lt_of_le hn big, ?_⟩
      rw [z, if_pos ⟨d1, rfl⟩, List.append_nil] at q
      rw [strI]
      exact q
    · have d1 : ¬ y.den = 1 := fun w => h1 (by rw [w]; rfl)
      refine ⟨_, rfl, t, _, _, _, rfl, rfl, ht1, rfl, _, rfl, Nat.lt_of_lt_of_le hn big, _, _, rfl, rfl, ?_, ?_⟩
      · rw [strI, S_len, List.length_append, sgC_len, h47]
        refine Nat.le_trans (?_ : _ ≤ 20000) (by decide)
        have := Bool.toNat_le (decide (y.num < 0)); omega
      refine ⟨_, rfl, t, _, _, _, rfl, rfl, ht1, rfl, _, rfl, by rw [Int.natAbs_natCast]; exact Nat.lt_of_lt_of_le hd big, _, _, rfl, rfl, ?_, ?_⟩
      · rw [Str.length_append, h47, strI, strI, S_len, S_len, List.length_append, sgC_len, decide_eq_false n0, Int.natAbs_natCast]
        refine Nat.le_trans (?_ : _ ≤ 20000) (by decide)
        have := Bool.toNat_le (decide (y.num < 0))
        rw [show sgC false ++ TL.numL y.den = TL.numL y.den from rfl]
        omega
      rw [z, if_neg (fun w => d1 w.1)] at q
      rw [strI, strI, decide_eq_false n0, Int.natAbs_natCast]
      show Q (.str (S _ ++ "/" ++ S (TL.numL y.den))) H
      rw [slash_app]
      exact q
end
end AL
set_option Elab.async false
set_option maxRecDepth 100000
set_option exponentiation.threshold 70000
set_option maxHeartbeats 1000000
namespace AL
open PySem PySem.Spec PyProof.Rows L2 RZ
section
variable {P : Program} {w : World} {K : PySem.W.Frag} {mg : Str → Option Value} {base : Heap}

/-- _law_other(pen, ratio) -/
def spOth : Sp := fun vs H Q _ => ∃ (p c t : Addr) (m : Nat) (y : Rat), vs = [.ref p, .ref t] ∧ Pen H p c m ∧ m < 800000000 ∧ RQ H t y ∧ y.num.natAbs < 10 ^ 900 ∧ y.den < 10 ^ 900 ∧ ∀ l H', WordQ y l → Pen H' p c (m + 1) → Keep p H H' → Q (.str (S l)) H'

abbrev st_law_other : Stmt := top 65
theorem sc_law_other : FnScope ["_law_pen_here", "_law_ratio_here", "_law_by", "_law_top", "_law_bottom"] ["_law_pen_here", "_law_ratio_here"] (defScope st_law_other) := ⟨rfl, rfl, rfl, by decide +kernel, rfl, by decide +kernel, by decide +kernel⟩
theorem ok_law_other (B : Blt mg) {CUnits : Addr} (Es : ErU K mg CUnits) {f_law_draw : Addr} {fd_law_draw : FuncData} (D_law_draw : DefAt K mg "_law_draw" st_law_draw ["_law_pen_here", "_law_many"] f_law_draw fd_law_draw) {f_law_pick : Addr} {fd_law_pick : FuncData} (D_law_pick : DefAt K mg "_law_pick" st_law_pick ["_law_pen_here", "_law_some"] f_law_pick fd_law_pick) {f_law_written : Addr} {fd_law_written : FuncData} (D_law_written : DefAt K mg "_law_written" st_law_written ["_law_one"] f_law_written fd_law_written) {f_law_other : Addr} {fd_law_other : FuncData} (D_law_other : DefAt K mg "_law_other" st_law_other ["_law_pen_here", "_law_ratio_here"] f_law_other fd_law_other) : FnOk P w K mg base CX0 3 f_law_other fd_law_other ["_law_pen_here", "_law_ratio_here"] spOth := by
  obtain ⟨uD, hD, rD⟩ := Es.dig
  obtain ⟨uM, hM, rM⟩ := Es.most
  obtain ⟨uL, hL, rL⟩ := Es.lett
  obtain ⟨uN, hN, rN⟩ := Es.long
  obtain ⟨uB, hB, rB⟩ := Es.most6
  have OK_law_pick : FnOk P w K mg base CX0 2 f_law_pick fd_law_pick ["_law_pen_here", "_law_some"] (spPick K) := ok_law_pick B  D_law_draw D_law_pick
  have OK_law_written : FnOk P w K mg base CX0 1 f_law_written fd_law_written ["_law_one"] spWrt := ok_law_written B Es D_law_written
  refine D_law_other.F.ok sc_law_other (fun vs H Q E h => ?_) (fun cdv A outer s H vs Q E hr h => ?_)
  · obtain ⟨p, c, t, m, y, rfl, _⟩ := h; rfl
  · have hu := hu_of hr
    refine ⟨_, (pss_cons (ps_set (i := 2) sc_law_other.nd rfl (Or.inl rfl) (pe_call OK_law_pick (hr.mono (by decide)) rfl D_law_pick.m D_law_pick.F.kp D_law_pick.b .nil pass0 (pa_cons (pv 0) (pa_cons (pe_lst (pa_cons pe_int (pa_cons pe_int (pa_cons pe_int (pa_cons pe_int (pa_cons pe_int pa_nil)))))) pa_nil))))
    (pss_cons (ps_par (i := 3) (j := 4) (by rfl) sc_law_other.nd rfl rfl (by decide) rfl rfl (pa_cons (pe_op op_mulW (pe_ix ix_tup (pv 1) pe_int (fun _ _ => rfl)) (pv 2)) (pa_cons (pe_op op_mulW (pe_ix ix_tup (pv 1) pe_int (fun _ _ => rfl)) (pv 2)) pa_nil)) (by rfl))
    (pss_one (ps_ret (pe_ifExp (pt_cmpR op_eq (pv 2) pe_int (nomark _)) (pe_call OK_law_written (hr.mono (by decide)) rfl D_law_written.m D_law_written.F.kp D_law_written.b .nil pass0 (pa_cons (pv 1) pa_nil)) (pe_op op_add_str (pe_op op_add_str (pe_callTy (call_str_intL hr.hd Es.nodig) (by rfl) B.str_ (by decide +kernel) (pa_cons (pv 3) pa_nil)) pe_str) (pe_callTy (call_str_intL hr.hd Es.nodig) (by rfl) B.str_ (by decide +kernel) (pa_cons (pv 4) pa_nil)))))))), ?_⟩
    obtain ⟨p, c, t, m, y, rfl, P, hm, ht, hn, hd, q⟩ := h
    refine ⟨_, rfl, (by show 5 ≤ sizeLine; decide), fun l hl => ?_⟩
    have n1 := AL.Same.new (o := .lst [.int 1, .int 1, .int 1, .int 2, .int 7]) hl
    refine ⟨p, c, l, m, _, rfl, P.same n1, by omega, SqL.of upd_same, (by show 0 < 5; decide), (by show 5 < 1000000000; decide), fun j x H3 hx P3 k3 => ?_⟩
    have kp := (Same.p n1).trans (k3.p (P.same n1))
    have kk : Keep p H H3 := (Same.k n1).trans k3
    obtain ⟨b, rfl, hb0, hb⟩ : ∃ b : Nat, x = V.int (b : Int) ∧ 0 < b ∧ b < 10 := by
      refine pick_of (P := fun x => ∃ b : Nat, x = V.int (b : Int) ∧ 0 < b ∧ b < 10) (fun y hy => ?_) hx
      simp only [List.mem_cons, List.not_mem_nil, or_false] at hy
      rcases hy with rfl | rfl | rfl | rfl | rfl
      · exact ⟨1, rfl, by decide, by decide⟩
      · exact ⟨1, rfl, by decide, by decide⟩
      · exact ⟨1, rfl, by decide, by decide⟩
      · exact ⟨2, rfl, by decide, by decide⟩
      · exact ⟨7, rfl, by decide, by decide⟩
    have ht3 : RQ H3 t y := kp _ _ ht (fun _ z => by cases z)
    have ht4 := SqT.of (K := K) ht3
    have p9 : (10 : Nat) ^ 900 ≤ 2 ^ 3000 := by decide +kernel
    have b4 : ((b : Nat) : Int).natAbs < 2 ^ 4 := by rw [Int.natAbs_natCast]; exact Nat.lt_trans hb (by decide)
    have hdI : ((y.den : Nat) : Int).natAbs < 2 ^ 3000 := by rw [Int.natAbs_natCast]; exact Nat.lt_of_lt_of_le hd p9
    have up : ∀ {x : Nat}, x < 10 ^ 900 → x * b < 10 ^ 1000 := fun {x} h => by
      refine Nat.lt_of_le_of_lt (Nat.mul_le_mul (Nat.le_of_lt h) (Nat.le_of_lt hb)) ?_
      decide +kernel
    refine ⟨_, rfl, t, _, _, _, rfl, rfl, ht4, rfl, _, rfl, _, _, rfl, rfl, wide_mul (a := 3000) (b := 4) (Nat.lt_of_lt_of_le hn p9) b4 (by decide) (by decide) (by decide), _, rfl, t, _, _, _, rfl, rfl, ht4, rfl, _, rfl, _, _, rfl, rfl, wide_mul (a := 3000) (b := 4) hdI b4 (by decide) (by decide) (by decide), _, _, rfl, ?_⟩
    refine ⟨_, rfl, rfl, _, rfl, ?_⟩
    have w1 : y.num.natAbs < 10 ^ 1000 := Nat.lt_of_lt_of_le hn (Nat.pow_le_pow_right (by decide) (by decide))
    have w2 : y.den < 10 ^ 1000 := Nat.lt_of_lt_of_le hd (Nat.pow_le_pow_right (by decide) (by decide))
    refine ite2 (fun h1 => ?_) (fun h1 => ?_)
    · refine ⟨_, rfl, t, y, rfl, ht3, w1, w2, ?_⟩
      exact q _ H3 (wrC_ok (by decide) (by rw [Nat.mul_one]; exact w1) (by rw [Nat.mul_one]; exact w2)) P3 kk
    have b1 : b ≠ 1 := fun w => h1 (by rw [w]; rfl)
    have z := q _ H3 (wrC_ok (k := b) hb0 (up hn) (up hd)) P3 kk
    have big : (10 : Nat) ^ 1000 ≤ 10 ^ 4300 := Nat.pow_le_pow_right (by decide) (by decide)
    have h47 : ("/" : Str).length = 1 := by decide +kernel
    have l1 := numL_len (by decide : 0 < 1000) (up hn)
    have l2 := numL_len (by decide : 0 < 1000) (up hd)
    have ea : (y.num * (b : Int)).natAbs = y.num.natAbs * b := by rw [Int.natAbs_mul, Int.natAbs_natCast]
    have eb : ((y.den : Int) * (b : Int)) = ((y.den * b : Nat) : Int) := (Int.natCast_mul _ _).symm
    have es : decide (y.num * (b : Int) < 0) = decide (y.num < 0) := decide_eq_decide.mpr ⟨fun h => by
        rcases Int.lt_or_le y.num 0 with w | w
        · exact w
        · have := Int.mul_nonneg w (by omega : (0 : Int) ≤ (b : Int)); omega, fun h => Int.mul_neg_of_neg_of_pos h (by omega)⟩
    have sa : (Str.ofString (toString (y.num * (b : Int))) : Str) = S (sgC (decide (y.num < 0)) ++ TL.numL (y.num.natAbs * b)) := by rw [strI, ea, es]
    have sb : (Str.ofString (toString ((y.den : Int) * (b : Int))) : Str) = S (TL.numL (y.den * b)) := by
      rw [eb, strI, Int.natAbs_natCast, decide_eq_false (by omega)]; rfl
    refine ⟨_, rfl, _, rfl, by rw [ea]; exact Nat.lt_of_lt_of_le (up hn) big, _, _, rfl, rfl, ?_, _, rfl, _, rfl, by rw [eb, Int.natAbs_natCast]; exact Nat.lt_of_lt_of_le (up hd) big, _, _, rfl, rfl, ?_, ?_⟩
    · rw [h47, sa, S_len, List.length_append, sgC_len]
      refine Nat.le_trans (?_ : _ ≤ 20000) (by decide)
      have := Bool.toNat_le (decide (y.num < 0)); omega
    · rw [Str.length_append, h47, sa, sb, S_len, S_len, List.length_append, sgC_len]
      refine Nat.le_trans (?_ : _ ≤ 20000) (by decide)
      have := Bool.toNat_le (decide (y.num < 0)); omega
    unfold wrC at z
    rw [if_neg (fun w => b1 w.2)] at z
    rw [sa, sb, slash_app]
    exact z
end
end AL
set_option Elab.async false
set_option maxRecDepth 100000
set_option exponentiation.threshold 70000
set_option maxHeartbeats 1000000
namespace AL
open PySem PySem.Spec PyProof.Rows L2 RZ
section
variable {P : Program} {w : World} {K : PySem.W.Frag} {mg : Str → Option Value} {base : Heap}

/-- the size of a unit, as drawn -/
def SzQ (H : Hp) (v : V) : Prop := ∃ t y, v = .ref t ∧ RQ H t y ∧ 0 < y.num ∧ y.num.natAbs ≤ 10 ^ 30 ∧ y.den ≤ 5000
theorem SzQ.keep {H H' : Hp} {v : V} (h : SzQ H v) (k : KeepP H H') : SzQ H' v := by
  obtain ⟨t, y, e, r, a, b, c⟩ := h
  exact ⟨t, y, e, k _ _ r (fun _ z => by cases z), a, b, c⟩
theorem SzQ.same {H H' : Hp} {v : V} (h : SzQ H v) (s : Same H H') : SzQ H' v := h.keep (Same.p s)
/-- _law_size(pen) -/
def spSz : Sp := fun vs H Q _ => ∃ (p c : Addr) (m : Nat), vs = [.ref p] ∧ Pen H p c m ∧ m < 800000000 ∧ ∀ t y H', RQ H' t y → 0 < y.num → y.num.natAbs ≤ 10 ^ 30 → y.den ≤ 5000 → Pen H' p c (m + 300) → Keep p H H' → Q (.ref t) H'

abbrev st_law_size : Stmt := top 59
theorem sc_law_size : FnScope ["_law_pen_here", "_law_drawn"] ["_law_pen_here"] (defScope st_law_size) := ⟨rfl, rfl, rfl, by decide +kernel, rfl, by decide +kernel, by decide +kernel⟩
theorem ok_law_size (B : Blt mg) {CUnits : Addr} (Es : ErU K mg CUnits) {f_law_draw : Addr} {fd_law_draw : FuncData} (D_law_draw : DefAt K mg "_law_draw" st_law_draw ["_law_pen_here", "_law_many"] f_law_draw fd_law_draw) {f_law_pick : Addr} {fd_law_pick : FuncData} (D_law_pick : DefAt K mg "_law_pick" st_law_pick ["_law_pen_here", "_law_some"] f_law_pick fd_law_pick) {f_law_big : Addr} {fd_law_big : FuncData} (D_law_big : DefAt K mg "_law_big" st_law_big ["_law_pen_here", "_law_figures"] f_law_big fd_law_big) {f_law_gcd : Addr} {fd_law_gcd : FuncData} (D_law_gcd : DefAt K mg "_law_gcd" st_law_gcd ["_law_one", "_law_two"] f_law_gcd fd_law_gcd) {f_law_q : Addr} {fd_law_q : FuncData} (D_law_q : DefAt K mg "_law_q" st_law_q ["_law_top", "_law_bottom"] f_law_q fd_law_q) {f_law_size : Addr} {fd_law_size : FuncData} (D_law_size : DefAt K mg "_law_size" st_law_size ["_law_pen_here"] f_law_size fd_law_size) : FnOk P w K mg base CX0 4 f_law_size fd_law_size ["_law_pen_here"] spSz := by
  obtain ⟨uD, hD, rD⟩ := Es.dig
  obtain ⟨uM, hM, rM⟩ := Es.most
  obtain ⟨uL, hL, rL⟩ := Es.lett
  obtain ⟨uN, hN, rN⟩ := Es.long
  obtain ⟨uB, hB, rB⟩ := Es.most6
  have OK_law_big : FnOk P w K mg base CX0 3 f_law_big fd_law_big ["_law_pen_here", "_law_figures"] spBig := ok_law_big B  D_law_draw D_law_pick D_law_big
  have OK_law_draw : FnOk P w K mg base CX0 1 f_law_draw fd_law_draw ["_law_pen_here", "_law_many"] spDraw := ok_law_draw B  D_law_draw
  have OK_law_pick : FnOk P w K mg base CX0 2 f_law_pick fd_law_pick ["_law_pen_here", "_law_some"] (spPick K) := ok_law_pick B  D_law_draw D_law_pick
  have OK_law_q : FnOk P w K mg base CX0 2 f_law_q fd_law_q ["_law_top", "_law_bottom"] spQG := ok_law_q B  D_law_gcd D_law_q
  refine D_law_size.F.ok sc_law_size (fun vs H Q E h => ?_) (fun cdv A outer s H vs Q E hr h => ?_)
  · obtain ⟨p, c, m, rfl, _⟩ := h; rfl
  · have hu := hu_of hr
    refine ⟨_, (pss_cons (ps_set (i := 1) sc_law_size.nd rfl (Or.inl rfl) (pe_call OK_law_q (hr.mono (by decide)) rfl D_law_q.m D_law_q.F.kp D_law_q.b .nil pass0 (pa_cons (pe_op op_add pe_int (pe_call OK_law_big (hr.mono (by decide)) rfl D_law_big.m D_law_big.F.kp D_law_big.b .nil pass0 (pa_cons (pv 0) (pa_cons pe_int pa_nil)))) (pa_cons (pe_op op_add pe_int (pe_call OK_law_draw (hr.mono (by decide)) rfl D_law_draw.m D_law_draw.F.kp D_law_draw.b .nil pass0 (pa_cons (pv 0) (pa_cons pe_int pa_nil)))) pa_nil))))
    (pss_one (ps_ret (pe_call OK_law_pick (hr.mono (by decide)) rfl D_law_pick.m D_law_pick.F.kp D_law_pick.b .nil pass0 (pa_cons (pv 0) (pa_cons (pe_lst (pa_cons (pe_tup (pa_cons pe_int (pa_cons pe_int pa_nil))) (pa_cons (pe_tup (pa_cons pe_int (pa_cons pe_int pa_nil))) (pa_cons (pe_tup (pa_cons pe_int (pa_cons pe_int pa_nil))) (pa_cons (pe_tup (pa_cons pe_int (pa_cons pe_int pa_nil))) (pa_cons (pe_tup (pa_cons pe_int (pa_cons pe_int pa_nil))) (pa_cons (pv 1) pa_nil))))))) pa_nil)))))), ?_⟩
    obtain ⟨p, c, m, rfl, P, hm, q⟩ := h
    refine ⟨_, rfl, p, c, m, 30, rfl, P, by omega, by decide, by decide, fun n H1 hn P1 k1 => ?_⟩
    have kp1 := k1.kk P
    refine ⟨_, _, rfl, rfl, _, rfl, p, c, m + 200, _, rfl, P1, by omega, by decide, by decide, fun r H2 h0 h1 P2 k2 => ?_⟩
    have kp2 := kp1.trans (k2.kk P1)
    obtain ⟨d, rfl⟩ := Int.eq_ofNat_of_zero_le h0
    have p30 : (10 : Nat) ^ 30 < 2 ^ 100 := by decide +kernel
    have a1 : (1 + (n : Int)).natAbs = 1 + n := by omega
    have b1 : (1 + (d : Int)).natAbs = 1 + d := by omega
    have dn : 1 + n ≤ 10 ^ 30 := by omega
    have dd : 1 + d ≤ 97 := by omega
    obtain ⟨o1, o2, o3⟩ := mid_div (x := 1 + (n : Int)) (y := 1 + (d : Int)) (by rw [a1]; exact Nat.lt_trans (Nat.lt_of_le_of_lt dn p30) (Nat.pow_lt_pow_right (by decide) (by decide))) (by rw [b1]; exact Nat.lt_of_le_of_lt dd (Nat.lt_of_lt_of_le (by decide : 97 < 2 ^ 7) (Nat.pow_le_pow_right (by decide) (by decide))))
    refine ⟨_, _, rfl, rfl, _, _, rfl, o2, o3, o1, by omega, fun t0 ht0 => ?_⟩
    have ln : lowI (1 + (n : Int)) (1 + (d : Int)) = ((nrm (1 + (n : Int)) (1 + d)).1, ((nrm (1 + (n : Int)) (1 + d)).2 : Int)) := by
      rw [show (1 + (d : Int)) = ((1 + d : Nat) : Int) by omega]
      exact lowI_pos _ _
    rw [ln, nrm_rat (1 + (n : Int)) (by omega : 0 < 1 + d)]
    have nt0 := AL.Same.new (o := .tup [.int (mkRat (1 + (n : Int)) (1 + d)).num, .int ((mkRat (1 + (n : Int)) (1 + d)).den : Int)]) ht0
    have g0 : SzQ (upd H2 t0 (.tup [.int (mkRat (1 + (n : Int)) (1 + d)).num, .int ((mkRat (1 + (n : Int)) (1 + d)).den : Int)])) (.ref t0) := by
      have e := nrm_rat (1 + (n : Int)) (by omega : 0 < 1 + d)
      have en : (mkRat (1 + (n : Int)) (1 + d)).num = (nrm (1 + (n : Int)) (1 + d)).1 := by rw [e]
      have ed : (mkRat (1 + (n : Int)) (1 + d)).den = (nrm (1 + (n : Int)) (1 + d)).2 := by rw [e]
      refine ⟨t0, mkRat (1 + (n : Int)) (1 + d), rfl, upd_same, ?_, ?_, ?_⟩
      · rw [en]
        show 0 < (1 + (n : Int)).fdiv ((Nat.gcd (1 + (n : Int)).natAbs (1 + d) : Nat) : Int)
        rw [show (1 + (n : Int)) = ((1 + n : Nat) : Int) by omega, Int.natAbs_natCast, fdiv_nat]
        have := Nat.div_pos (Nat.le_of_dvd (by omega : 0 < 1 + n) (Nat.gcd_dvd_left (1 + n) (1 + d))) (Nat.gcd_pos_of_pos_left (1 + d) (by omega : 0 < 1 + n))
        omega
      · rw [en]
        show ((1 + (n : Int)).fdiv ((Nat.gcd (1 + (n : Int)).natAbs (1 + d) : Nat) : Int)).natAbs ≤ _
        rw [show (1 + (n : Int)) = ((1 + n : Nat) : Int) by omega, Int.natAbs_natCast, fdiv_nat, Int.natAbs_natCast]
        exact Nat.le_trans (Nat.div_le_self _ _) dn
      · rw [ed]
        exact Nat.le_trans (Nat.div_le_self _ _) (by omega)
    have s0 := nt0
    generalize upd H2 t0 (.tup [.int (mkRat (1 + (n : Int)) (1 + d)).num, .int ((mkRat (1 + (n : Int)) (1 + d)).den : Int)]) = G0 at g0 s0 ⊢
    clear nt0
    refine ⟨_, rfl, ?_⟩
    refine ⟨(by show 2 ≤ sizeLine; decide), fun t1 ht1 => ?_⟩
    have n1 := s0.trans (AL.Same.new (o := .tup [.int 1000, .int 1]) ht1)
    have g1 : SzQ (upd G0 t1 (.tup [.int 1000, .int 1])) (.ref t1) := ⟨t1, mkRat 1000 1, rfl, by unfold RQ RatAt; rw [upd_same, show (mkRat 1000 1).num = 1000 by decide +kernel, show (mkRat 1000 1).den = 1 by decide +kernel]; rfl, by decide +kernel, by decide +kernel, by decide +kernel⟩
    replace g0 := g0.same (AL.Same.new ht1 (o := .tup [.int 1000, .int 1]))
    have s1 := n1
    generalize upd G0 t1 (.tup [.int 1000, .int 1]) = G1 at g0 g1 s1 ⊢
    clear n1
    refine ⟨(by show 2 ≤ sizeLine; decide), fun t2 ht2 => ?_⟩
    have n2 := s1.trans (AL.Same.new (o := .tup [.int 1, .int 60]) ht2)
    have g2 : SzQ (upd G1 t2 (.tup [.int 1, .int 60])) (.ref t2) := ⟨t2, mkRat 1 60, rfl, by unfold RQ RatAt; rw [upd_same, show (mkRat 1 60).num = 1 by decide +kernel, show (mkRat 1 60).den = 60 by decide +kernel]; rfl, by decide +kernel, by decide +kernel, by decide +kernel⟩
    replace g0 := g0.same (AL.Same.new ht2 (o := .tup [.int 1, .int 60]))
    replace g1 := g1.same (AL.Same.new ht2 (o := .tup [.int 1, .int 60]))
    have s2 := n2
    generalize upd G1 t2 (.tup [.int 1, .int 60]) = G2 at g0 g1 g2 s2 ⊢
    clear n2
    refine ⟨(by show 2 ≤ sizeLine; decide), fun t3 ht3 => ?_⟩
    have n3 := s2.trans (AL.Same.new (o := .tup [.int 127, .int 5000]) ht3)
    have g3 : SzQ (upd G2 t3 (.tup [.int 127, .int 5000])) (.ref t3) := ⟨t3, mkRat 127 5000, rfl, by unfold RQ RatAt; rw [upd_same, show (mkRat 127 5000).num = 127 by decide +kernel, show (mkRat 127 5000).den = 5000 by decide +kernel]; rfl, by decide +kernel, by decide +kernel, by decide +kernel⟩
    replace g0 := g0.same (AL.Same.new ht3 (o := .tup [.int 127, .int 5000]))
    replace g1 := g1.same (AL.Same.new ht3 (o := .tup [.int 127, .int 5000]))
    replace g2 := g2.same (AL.Same.new ht3 (o := .tup [.int 127, .int 5000]))
    have s3 := n3
    generalize upd G2 t3 (.tup [.int 127, .int 5000]) = G3 at g0 g1 g2 g3 s3 ⊢
    clear n3
    refine ⟨(by show 2 ≤ sizeLine; decide), fun t4 ht4 => ?_⟩
    have n4 := s3.trans (AL.Same.new (o := .tup [.int 3600, .int 1]) ht4)
    have g4 : SzQ (upd G3 t4 (.tup [.int 3600, .int 1])) (.ref t4) := ⟨t4, mkRat 3600 1, rfl, by unfold RQ RatAt; rw [upd_same, show (mkRat 3600 1).num = 3600 by decide +kernel, show (mkRat 3600 1).den = 1 by decide +kernel]; rfl, by decide +kernel, by decide +kernel, by decide +kernel⟩
    replace g0 := g0.same (AL.Same.new ht4 (o := .tup [.int 3600, .int 1]))
    replace g1 := g1.same (AL.Same.new ht4 (o := .tup [.int 3600, .int 1]))
    replace g2 := g2.same (AL.Same.new ht4 (o := .tup [.int 3600, .int 1]))
    replace g3 := g3.same (AL.Same.new ht4 (o := .tup [.int 3600, .int 1]))
    have s4 := n4
    generalize upd G3 t4 (.tup [.int 3600, .int 1]) = G4 at g0 g1 g2 g3 g4 s4 ⊢
    clear n4
    refine ⟨(by show 2 ≤ sizeLine; decide), fun t5 ht5 => ?_⟩
    have n5 := s4.trans (AL.Same.new (o := .tup [.int 22, .int 7]) ht5)
    have g5 : SzQ (upd G4 t5 (.tup [.int 22, .int 7])) (.ref t5) := ⟨t5, mkRat 22 7, rfl, by unfold RQ RatAt; rw [upd_same, show (mkRat 22 7).num = 22 by decide +kernel, show (mkRat 22 7).den = 7 by decide +kernel]; rfl, by decide +kernel, by decide +kernel, by decide +kernel⟩
    replace g0 := g0.same (AL.Same.new ht5 (o := .tup [.int 22, .int 7]))
    replace g1 := g1.same (AL.Same.new ht5 (o := .tup [.int 22, .int 7]))
    replace g2 := g2.same (AL.Same.new ht5 (o := .tup [.int 22, .int 7]))
    replace g3 := g3.same (AL.Same.new ht5 (o := .tup [.int 22, .int 7]))
    replace g4 := g4.same (AL.Same.new ht5 (o := .tup [.int 22, .int 7]))
    have s5 := n5
    generalize upd G4 t5 (.tup [.int 22, .int 7]) = G5 at g0 g1 g2 g3 g4 g5 s5 ⊢
    clear n5
    refine ⟨_, rfl, (by show 6 ≤ sizeLine; decide), fun l hl => ?_⟩
    have nl := AL.Same.new (o := .lst [.ref t1, .ref t2, .ref t3, .ref t4, .ref t5, .ref t0]) hl
    have P3 := (P2.same s5).same nl
    refine ⟨p, c, l, m + 201, _, rfl, P3, by omega, SqL.of upd_same, (by show 0 < 6; decide), (by show 6 < 1000000000; decide), fun j x H4 hx P4 k4 => ?_⟩
    have kq := (Same.p nl).trans (k4.p P3)
    have hxx : SzQ H4 x := by
      refine pick_of (P := fun x => SzQ H4 x) (fun y hy => ?_) hx
      simp only [List.mem_cons, List.not_mem_nil, or_false] at hy
      rcases hy with rfl | rfl | rfl | rfl | rfl | rfl
      · exact g1.keep kq
      · exact g2.keep kq
      · exact g3.keep kq
      · exact g4.keep kq
      · exact g5.keep kq
      · exact g0.keep kq
    obtain ⟨t, y, rfl, r1, r2, r3, r4⟩ := hxx
    exact q t y H4 r1 r2 r3 r4 (P4.mono (by omega)) ((kp2.trans (Same.k s5)).trans ((Same.k nl).trans (k4.kk P3)))
end
end AL
set_option Elab.async false
set_option maxRecDepth 100000
set_option exponentiation.threshold 70000
set_option maxHeartbeats 1000000
namespace AL
open PySem PySem.Spec PyProof.Rows L2 RZ
section
variable {P : Program} {w : World} {K : PySem.W.Frag} {mg : Str → Option Value} {base : Heap}

/-- the law's units: base, known, lines -/
def LUn (H : Hp) (u b d ln : Addr) : Prop := H u = some (.dK [(Sum.inr "base", .ref b), (Sum.inr "known", .ref d), (Sum.inr "lines", .ref ln)])
theorem LUn.bas {H : Hp} {u b d ln : Addr} (h : LUn H u b d ln) : DGet H u (.str "base") (some (.ref b)) := .inl ⟨_, Sum.inr "base", .inl h, rfl, by rfl⟩
theorem LUn.known {H : Hp} {u b d ln : Addr} (h : LUn H u b d ln) : DGet H u (.str "known") (some (.ref d)) := .inl ⟨_, Sum.inr "known", .inl h, rfl, by rfl⟩
theorem LUn.lines {H : Hp} {u b d ln : Addr} (h : LUn H u b d ln) : DGet H u (.str "lines") (some (.ref ln)) := .inl ⟨_, Sum.inr "lines", .inl h, rfl, by rfl⟩
/-- _law_base_words(units, exponents) -/
def spBw : Sp := fun vs H Q _ => ∃ (u b d ln e : Addr) (B : List (List Nat)) (es : List Int), vs = [.ref u, .ref e] ∧ LUn H u b d ln ∧ H b = some (.lst (B.map vS)) ∧ H e = some (.tup (es.map V.int)) ∧ es.length = B.length ∧ B.length ≤ 6 ∧ (∀ k ∈ es, -99 ≤ k ∧ k ≤ 99) ∧ (∀ l ∈ B, nmOk l = true) ∧
  ∀ w H', Same H H' → TxL H' w (wtx (bUs B es)) → Q (.ref w) H'

abbrev st_law_base_words : Stmt := top 67
theorem sc_law_base_words : FnScope ["_law_units_here", "_law_exponents", "_law_words", "_law_name_here", "_law_item"] ["_law_units_here", "_law_exponents"] (defScope st_law_base_words) := ⟨rfl, rfl, rfl, by decide +kernel, rfl, by decide +kernel, by decide +kernel⟩
theorem ok_law_base_words (B : Blt mg) {CUnits : Addr} (Es : ErU K mg CUnits) {f_law_base_words : Addr} {fd_law_base_words : FuncData} (D_law_base_words : DefAt K mg "_law_base_words" st_law_base_words ["_law_units_here", "_law_exponents"] f_law_base_words fd_law_base_words) : FnOk P w K mg base CX0 1 f_law_base_words fd_law_base_words ["_law_units_here", "_law_exponents"] spBw := by
  obtain ⟨uD, hD, rD⟩ := Es.dig
  obtain ⟨uM, hM, rM⟩ := Es.most
  obtain ⟨uL, hL, rL⟩ := Es.lett
  obtain ⟨uN, hN, rN⟩ := Es.long
  obtain ⟨uB, hB, rB⟩ := Es.most6
  refine D_law_base_words.F.ok sc_law_base_words (fun vs H Q E h => ?_) (fun cdv A outer s H vs Q E hr h => ?_)
  · obtain ⟨u, b, d, ln, e, B, es, rfl, _⟩ := h; rfl
  · have hu := hu_of hr
    refine ⟨_, (pss_cons (ps_set (i := 2) sc_law_base_words.nd rfl (Or.inl rfl) (pe_lst pa_nil))
    (pss_cons (ps_for PassesOwn.never rfl (pi_zipB (by rfl) B.zip_ (pa_cons (pe_dget hu (pv 0) pe_str (fun _ _ => rfl)) (pa_cons (pv 1) pa_nil))) (pg_tup rfl (pgs_cons (pg_name (i := 3) sc_law_base_words.nd rfl (Or.inl rfl)) (pgs_cons (pg_name (i := 4) sc_law_base_words.nd rfl (Or.inl rfl)) pgs_nil)))
      (pss_one (ps_if (pt_cmpR op_ne (pv 4) pe_int (nomark _)) (pss_one (ps_expr (pe_bm PySem.F.plainAttrs_list PySem.F.slot_list_append PySem.F.type_list_append mt_append (pv 2) (pa_cons (pe_ifExp (pt_cmpR op_eq (pv 4) pe_int (nomark _)) (pv 3) (pe_op op_add_str (pe_op op_add_str (pv 3) pe_str) (pe_callTy (call_str_intL hr.hd Es.nodig) (by rfl) B.str_ (by decide +kernel) (pa_cons (pv 4) pa_nil)))) pa_nil)))) pss_nil)))
    (pss_one (ps_ret (pe_ifExp (pt_cmpR (op_neD hr.units) (pv 2) (pe_lst pa_nil) (nomark _)) (pv 2) (pe_lst (pa_cons pe_str pa_nil))))))), ?_⟩
    obtain ⟨u, b, d, ln, e, B, es, rfl, hu1, hb, he, hl, le6, hk, hB, q⟩ := h
    refine ⟨(by show 0 ≤ sizeLine; decide), fun D hD => ?_⟩
    have s0 := AL.Same.new (o := .lst []) hD
    have hd0 : (upd H D (.lst [])) D = some (.lst []) := upd_same
    generalize upd H D (.lst []) = H0 at s0 hd0 ⊢
    refine ⟨_, rfl, _, _, rfl, LUn.bas (s0 _ _ hu1), _, rfl, b, e, true, false, _, _, rfl, SqL.of (s0 _ _ hb), SqT.of (s0 _ _ he), ?_⟩
    refine for_it (walk_zipB (K := K) (a := b) (b := e) (k := true) (l := false) (xs := B.map vS) (ys := es.map V.int) (n := B.length) (by rw [List.length_map, List.length_map]; omega)) (fun i σ H' => ∃ v3 v4 : Option V, σ = [some (.ref u), some (.ref e), some (.ref D), v3, v4] ∧ Same H H' ∧ H' D = some (.lst ((((bUs (B.take i) (es.take i)).map UW.tx)).map vS))) ⟨none, none, rfl, s0, hd0⟩ (fun i σ H' _ hh => let ⟨_, _, _, s, _⟩ := hh; ⟨SqL.of (s _ _ hb), SqT.of (s _ _ he)⟩) ?_ ?_
    · rintro i x2 σ H5 H5' hi2 ⟨v3, v4, rfl, s5, hd5⟩ ⟨T0, u1, u2, rfl, hT, rfl, f1, f2⟩
      dsimp only at f1 f2
      obtain ⟨k, c2, rfl⟩ := map_intE f2
      obtain ⟨l, c1, rfl⟩ : ∃ l, B[i]? = some l ∧ u1 = .str (S l) := by
        rw [List.getElem?_map] at f1
        cases e : B[i]? with
        | none => rw [e] at f1; cases f1
        | some l => rw [e] at f1; exact ⟨l, rfl, (Option.some.inj f1).symm⟩
      have hDT : D ≠ T0 := fun w => by rw [w, hT] at hd5; cases hd5
      have sT : Same H (upd H5 T0 (.tup [.str (S l), .int k])) := s5.trans (AL.Same.new hT)
      have kb := hk k (List.mem_of_getElem? c2)
      have nml := hB l (List.mem_of_getElem? c1)
      have sn := bUs_snoc c1 c2
      have few : (((bUs (B.take i) (es.take i)).map UW.tx).map vS).length < sizeLine := by
        rw [List.length_map, List.length_map]
        refine Nat.lt_of_le_of_lt (bUs_len _ _) ?_
        rw [List.length_take]
        exact Nat.lt_of_le_of_lt (by omega : _ ≤ 100) (by decide)
      have hd6 : (upd H5 T0 (.tup [.str (S l), .int k])) D = _ := Eq.trans (upd_ne hDT) hd5
      refine ⟨T0, _, rfl, SqT.of upd_same, rfl, _, _, rfl, _, _, rfl, rfl, ?_⟩
      generalize upd H5 T0 (.tup [.str (S l), .int k]) = H6 at sT hd6 ⊢
      refine ⟨_, rfl, rfl, _, rfl, ?_⟩
      refine ite2 (fun h0 => ?_) (fun h0 => ?_)
      · have k0 : k ≠ 0 := by simpa using h0
        refine ⟨_, rfl, .inl ⟨rfl, _, SqL.of hd6⟩, ?_⟩
        refine ⟨_, rfl, rfl, _, rfl, ?_⟩
        refine ite2 (fun h9 => ?_) (fun h9 => ?_)
        · have k1 : k = 1 := by simpa using h9
          refine ⟨_, rfl, D, _, _, rfl, rfl, hd6, few, _, _, rfl, AL.Same.updn sT hD, ?_⟩
          rw [upd_same, sn]
          unfold bU
          rw [if_neg k0, List.map_append, List.map_append]
          show some (HO.lst (_ ++ [V.str (S l)])) = some (HO.lst (_ ++ [vS (UW.tx ⟨l, k, decide (k ≠ 1)⟩)]))
          unfold UW.tx
          rw [show decide (k ≠ 1) = false from decide_eq_false (fun z => z k1)]; rfl
        · have k1 : k ≠ 1 := by simpa using h9
          have ll := nm_len nml
          have dk := dg_ok kb.1 kb.2
          have e9 : (S l ++ "^" ++ Str.ofString (toString k) : Str) = S (UW.tx ⟨l, k, decide (k ≠ 1)⟩) := by
            unfold UW.tx
            rw [show decide (k ≠ 1) = true from decide_eq_true k1, if_pos rfl, dg_str, hatS]
            show (⟨(l.toArray ++ [94].toArray) ++ (dg k).toArray⟩ : Str) = S _
            simp [S]
          have bigS : (20000 : Nat) ≤ sizeLine := by decide
          have h94 : ("^" : Str).length = 1 := by decide +kernel
          have hdl : (Str.ofString (toString k) : Str).length ≤ 3 := by rw [dg_str, S_len]; exact dk.2.2.1
          refine ⟨_, rfl, _, _, rfl, rfl, ?_, _, rfl, _, rfl, dg_small kb.1 kb.2, _, _, rfl, rfl, ?_, ?_⟩
          · rw [h94, S_len]; omega
          · rw [Str.length_append, h94, S_len]; omega
          · rw [e9]
            refine ⟨D, _, _, rfl, rfl, hd6, few, _, _, rfl, AL.Same.updn sT hD, ?_⟩
            rw [upd_same, sn]
            unfold bU
            rw [if_neg k0, List.map_append, List.map_append]; rfl
      · have k0 : k = 0 := by simpa using h0
        refine ⟨_, _, rfl, sT, ?_⟩
        rw [hd6, sn]
        unfold bU
        rw [if_pos k0, List.append_nil]
    rintro σ H5 ⟨v3, v4, rfl, s5, hd5⟩
    rw [List.take_length, ← hl, List.take_length] at hd5
    have kok : ∀ u ∈ bUs B es, u.Ok := bUs_ok hB hk
    refine ⟨_, rfl, (by show 0 ≤ sizeLine; decide), fun p hp => ?_⟩
    have n7 := AL.Same.new (o := .lst []) hp
    have hd7 := n7 _ _ hd5
    have ok7 : OkS ((bUs B es).map UW.tx) := fun l m => by
      obtain ⟨u, hu, rfl⟩ := List.mem_map.mp m
      exact strOk_of (tx_low (kok u hu))
    refine ⟨_, _, dp_txtL hd7, Dp.lst (SqL.of upd_same) .nil, shaped_txtL ok7, (by decide +kernel), _, rfl, ?_⟩
    rw [show PyData.eqv (.list (((bUs B es).map UW.tx).map dS)) (.list []) = decide ((bUs B es).map UW.tx = []) from eqv_txtL _ []]
    cases hz : (bUs B es).isEmpty with
    | true =>
      rw [decide_eq_true (by rw [List.isEmpty_iff.mp hz]; rfl)]
      refine iteF ?_
      refine ⟨(by show 1 ≤ sizeLine; decide), fun w hw => ?_⟩
      refine q w _ ((s5.trans n7).trans (AL.Same.new hw)) ?_
      unfold TxL
      rw [wtx_one hz, upd_same, oneS]; rfl
    | false =>
      rw [decide_eq_false (fun z => by rw [List.map_eq_nil_iff.mp z] at hz; cases hz)]
      refine iteT ?_
      refine ⟨_, rfl, q D _ (s5.trans n7) ?_⟩
      unfold TxL
      rw [wtx_map hz]; exact hd7
end
end AL
set_option Elab.async false
set_option maxRecDepth 100000
set_option exponentiation.threshold 70000
set_option maxHeartbeats 1000000
namespace AL
open PySem PySem.Spec PyProof.Rows L2 RZ
section
variable {P : Program} {w : World} {K : PySem.W.Frag} {mg : Str → Option Value} {base : Heap}

/-- _law_units_text(pen, units) -/
def spTx : Sp := fun vs H Q _ => ∃ (p c u b d ln : Addr) (m : Nat) (as : List Addr) (Ls : List (List (List Nat))), vs = [.ref p, .ref u] ∧ Pen H p c m ∧ m < 900000000 ∧ LUn H u b d ln ∧ H ln = some (.lst (as.map V.ref)) ∧ Paired (fun a L => TxL H a L) as Ls ∧ (∀ L ∈ Ls, (∀ w ∈ L, w.length ≤ 2100) ∧ L.length ≤ 20) ∧ Ls.length ≤ 10 ∧
  ∀ (e : Bool) H', Pen H' p c (m + 1) → Keep p H H' → Q (.str (S (TL.joinL [10] (Ls.map (TL.joinL [32])) ++ (if e = true then [10] else [])))) H'
def rJn (K : PySem.W.Frag) : V → List V → Hp → VK → Prop := fun x xs H Q => ∃ a p, ∃ ys : List Str, x = V.str a ∧ xs = [V.ref p] ∧ (SqL K H p (ys.map V.str) ∨ SqT K H p (ys.map V.str)) ∧ (ys.map (·.length)).sum + ys.length * a.length ≤ 16777216 ∧ Q (V.str (Txt.join a ys)) H
theorem pe_joinK {X : Cx} {o e : PySem.Expr} {to te : TE} {apos pos : Pos} (ho : PE X o to) (he : PE X e te) (a1 : starEach [e] X.env = [(false, eval e X.env)] := by rfl) (a2 : attributeBase o "join" X.env (eval o X.env) = eval o X.env := by rfl) (a3 : (apos.endLine == pos.line) = true := by rfl) :
    PE X (.Call (.Attribute o "join" apos) [e] [] pos) (tM1 (rJn X.K) to te) := pe_join ho he a1 a2 a3
theorem prd_ix {α β : Type} {F : α → β → Prop} : ∀ {xs : List α} {ys : List β} {i : Nat} {x : α}, Paired F xs ys → xs[i]? = some x → ∃ y, ys[i]? = some y ∧ F x y
  | _, _, _, _, .nil, h => by cases h
  | _, _, 0, _, .cons a _, h => by cases h; exact ⟨_, rfl, a⟩
  | _, _, i + 1, _, .cons _ r, h => prd_ix (i := i) r h
theorem sum_map_S (L : List (List Nat)) : ((L.map S).map (·.length)).sum = (L.map List.length).sum := by
  rw [List.map_map]
  congr 1
theorem sum_le2 {L : List (List Nat)} {b : Nat} (h : ∀ w ∈ L, w.length ≤ b) : ((L.map S).map (·.length)).sum ≤ L.length * b := by
  rw [sum_map_S]
  have := sum_le_of (l := L.map List.length) (b := b) fun n hn => by
    obtain ⟨w, hw, rfl⟩ := List.mem_map.mp hn
    exact h w hw
  rwa [List.length_map] at this
theorem vS_S (L : List (List Nat)) : L.map vS = (L.map S).map V.str := by rw [List.map_map]; rfl

abbrev st_law_units_text : Stmt := top 66
theorem sc_law_units_text : FnScope ["_law_pen_here", "_law_units_here", "_law_line"] ["_law_pen_here", "_law_units_here"] (defScope st_law_units_text) := ⟨rfl, rfl, rfl, by decide +kernel, rfl, by decide +kernel, by decide +kernel⟩
theorem ok_law_units_text (B : Blt mg) {CUnits : Addr} (Es : ErU K mg CUnits) {f_law_draw : Addr} {fd_law_draw : FuncData} (D_law_draw : DefAt K mg "_law_draw" st_law_draw ["_law_pen_here", "_law_many"] f_law_draw fd_law_draw) {f_law_pick : Addr} {fd_law_pick : FuncData} (D_law_pick : DefAt K mg "_law_pick" st_law_pick ["_law_pen_here", "_law_some"] f_law_pick fd_law_pick) {f_law_units_text : Addr} {fd_law_units_text : FuncData} (D_law_units_text : DefAt K mg "_law_units_text" st_law_units_text ["_law_pen_here", "_law_units_here"] f_law_units_text fd_law_units_text) : FnOk P w K mg base CX0 3 f_law_units_text fd_law_units_text ["_law_pen_here", "_law_units_here"] spTx := by
  obtain ⟨uD, hD, rD⟩ := Es.dig
  obtain ⟨uM, hM, rM⟩ := Es.most
  obtain ⟨uL, hL, rL⟩ := Es.lett
  obtain ⟨uN, hN, rN⟩ := Es.long
  obtain ⟨uB, hB, rB⟩ := Es.most6
  have OK_law_pick : FnOk P w K mg base CX0 2 f_law_pick fd_law_pick ["_law_pen_here", "_law_some"] (spPick K) := ok_law_pick B  D_law_draw D_law_pick
  refine D_law_units_text.F.ok sc_law_units_text (fun vs H Q E h => ?_) (fun cdv A outer s H vs Q E hr h => ?_)
  · obtain ⟨p, c, u, b, d, ln, m, as, Ls, rfl, _⟩ := h; rfl
  · have hu := hu_of hr
    refine ⟨_, (pss_one (ps_ret (pe_op op_add_str (pe_join pe_str (pe_lc (own := [("_law_line", 2)]) (g := gName 2) (tt := tYes) rfl sc_law_units_text.nd (pi_list (pe_dget hu (pv 1) pe_str (fun _ _ => rfl))) (blkOk_by (own := [("_law_line", 2)]) (N := ["_law_pen_here", "_law_units_here", "_law_line"]) (sc := defScope st_law_units_text) (by decide +kernel)) (fun _ _ _ _ _ => pg_name (i := 2) sc_law_units_text.nd rfl (Or.inl rfl)) (fun _ _ _ _ _ => pts_nil) (fun _ _ _ _ _ => (pe_joinK pe_str (pv 2) : PE _ _ (tM1 (rJn K) (tC (V.str " ")) (tVar 2)))))) (pe_call OK_law_pick (hr.mono (by decide)) rfl D_law_pick.m D_law_pick.F.kp D_law_pick.b .nil pass0 (pa_cons (pv 0) (pa_cons (pe_lst (pa_cons pe_str (pa_cons pe_str pa_nil))) pa_nil)))))), ?_⟩
    obtain ⟨p, c, u, b, d, ln, m, as, Ls, rfl, P, hm, hu1, hln, pr, hb, hl, q⟩ := h
    have pl := pair_len pr
    refine ⟨⟨_, rfl⟩, _, rfl, _, _, rfl, hu1.lines, ln, rfl, ⟨_, SqL.of hln⟩, fun D hD => ?_⟩
    refine lc_list (K := K) (a := ln) (xs := as.map V.ref) (fun i H' => Same H H' ∧ H' D = some (.lst (((Ls.map (TL.joinL [32])).take i).map vS))) ⟨AL.Same.new hD, upd_same⟩ (fun i H' _ hh => SqL.of (hh.1 _ _ hln)) ?_ ?_
    · rintro i x H1 hx ⟨s1, hd1⟩
      obtain ⟨a, ha, rfl⟩ : ∃ a, as[i]? = some a ∧ x = .ref a := by
        rw [List.getElem?_map] at hx
        cases e : as[i]? with
        | none => rw [e] at hx; cases hx
        | some a => rw [e] at hx; exact ⟨a, rfl, (Option.some.inj hx).symm⟩
      obtain ⟨L0, hL0, ta⟩ := prd_ix pr ha
      have bl := hb L0 (List.mem_of_getElem? hL0)
      have ta1 : H1 a = some (.lst ((L0.map S).map V.str)) := by rw [← vS_S]; exact s1 _ _ ta
      have il : i < Ls.length := (List.getElem?_eq_some_iff.mp hL0).1
      refine ⟨rfl, ?_⟩
      refine ⟨⟨_, rfl⟩, _, rfl, _, a, L0.map S, rfl, rfl, .inl (SqL.of ta1), ?_, ?_⟩
      · have := sum_le2 bl.1
        rw [List.length_map, show (" " : Str).length = 1 by decide +kernel]
        have w := Nat.mul_le_mul_right 2100 bl.2
        omega
      · rw [spaceS, join_S]
        refine ⟨_, hd1, ?_, AL.Same.updn s1 hD, ?_⟩
        · rw [List.length_map, List.length_take, List.length_map]
          exact Nat.lt_of_le_of_lt (by omega : _ ≤ 100) (by decide)
        · rw [upd_same]
          have e3 : (Ls.map (TL.joinL [32]))[i]? = some (TL.joinL [32] L0) := by rw [List.getElem?_map, hL0]; rfl
          rw [take_map_snoc vS e3]; rfl
    rintro H1 ⟨s1, hd1⟩
    rw [List.length_map, pl, show Ls.length = (Ls.map (TL.joinL [32])).length by rw [List.length_map], List.take_length] at hd1
    have jl : ∀ w ∈ Ls.map (TL.joinL [32]), w.length ≤ 42100 := fun w hw => by
      obtain ⟨L0, h0, rfl⟩ := List.mem_map.mp hw
      have bl := hb L0 h0
      have := joinL_len 32 bl.1
      have w := Nat.mul_le_mul_right 2101 bl.2
      omega
    refine ⟨_, D, (Ls.map (TL.joinL [32])).map S, rfl, rfl, .inl (SqL.of (by rw [hd1, vS_S])), ?_, ?_⟩
    · have := sum_le2 jl
      rw [List.length_map] at this
      rw [List.length_map, List.length_map, show ("\n" : Str).length = 1 by decide +kernel]
      have w := Nat.mul_le_mul_right 42100 hl
      omega
    rw [feedS, join_S]
    refine ⟨_, rfl, (by show 2 ≤ sizeLine; decide), fun l hl2 => ?_⟩
    have nl := AL.Same.new (o := .lst [.str "", .str (S [10])]) hl2
    have P1 := (P.same s1).same nl
    refine ⟨p, c, l, m, _, rfl, P1, by omega, SqL.of upd_same, (by show 0 < 2; decide), (by show 2 < 1000000000; decide), fun j x H4 hx P4 k4 => ?_⟩
    have kp : Keep p H H4 := (Same.k (s1.trans nl)).trans (k4.kk P1)
    obtain ⟨e, rfl⟩ : ∃ e : Bool, x = .str (S (if e = true then [10] else [])) := by
      refine pick_of (P := fun x => ∃ e : Bool, x = .str (S (if e = true then [10] else []))) (fun y hy => ?_) hx
      simp only [List.mem_cons, List.not_mem_nil, or_false] at hy
      rcases hy with rfl | rfl
      · exact ⟨false, by rw [emptyS]; rfl⟩
      · exact ⟨true, rfl⟩
    refine ⟨_, _, rfl, rfl, ?_, ?_⟩
    · rw [S_len, S_len]
      have a := joinL_len 10 jl
      rw [List.length_map] at a
      have w := Nat.mul_le_mul_right 42101 hl
      refine Nat.le_trans (?_ : _ ≤ 1000000) (by decide)
      split
      · show _ + 1 ≤ _; omega
      · show _ + 0 ≤ _; omega
    · rw [S_app]
      exact q e H4 P4 kp
end
end AL
set_option Elab.async false
set_option linter.all false
set_option maxRecDepth 100000
set_option maxHeartbeats 2000000
/-! enumerate(xs, k) of a list, in a for. -/
namespace AL
open PySem PySem.Spec PyProof.Rows L2
/-- the list at a as it stands at each turn, each item in a new pair, counted from k on -/
def IteS (K : PySem.W.Frag) (a : Addr) (c : Int) : It :=
  ⟨fun i H => ∃ (xs : List V) (x : V), SqL K H a xs ∧ xs[i]? = some x, fun i H v H' => ∃ T x, v = .ref T ∧ H T = none ∧ H' = upd H T (.tup [.int (c + (i : Nat)), x]) ∧ ∀ xs, SqL K H a xs → xs[i]? = some x, fun i H => ∃ xs : List V, SqL K H a xs ∧ xs.length ≤ i⟩
theorem turn_enumS {P : Program} {w : World} {K : PySem.W.Frag} {elts : List Expr} {kk : Nat} {tpos : Pos} (c : Int) (a e it : Addr) :
    Turn P w K (.Tuple elts kk tpos) (IteS K a c) [e, it] e (fun i h => (∃ old, IsEnum h e it (c + ((i : Nat) : Int)) old) ∧ h.IsListIter it a i ∧ e ≠ it ∧ a ≠ it ∧ a ≠ e) where
  mem := by simp
  obj := fun i h st b hb => by
    obtain ⟨⟨old, he⟩, ⟨o, ho, hc, hd⟩, _⟩ := st
    have z : b = e ∨ b = it := by simpa using hb
    rcases z with z | z
    · rw [z]; exact ⟨_, he, fun v q => nomatch q⟩
    · rw [z]; exact ⟨o, ho, fun v q => by rw [hd] at q; cases q⟩
  keep := fun i h h' st k => let ⟨⟨old, he⟩, hi, hne⟩ := st; ⟨⟨old, k e (by simp) _ he⟩, hi.at fun o q => k it (by simp) o q, hne⟩
  item := by
    intro X hP hw hK hc i pins s σ H E I hf st hg
    subst hP hw hK
    obtain ⟨⟨old, he⟩, hit, hne, hai, hae⟩ := st
    obtain ⟨xs, x, hq, hx⟩ := hg
    obtain ⟨its, rv, p, hz⟩ := I.list hq
    obtain ⟨u, hu, ru⟩ := rv.get hx
    have pt : s.heap.IsList a its.toArray := p.isList
    have hel : e < s.heap.objs.size := Heap.lt_size he
    have hil : it < s.heap.objs.size := by obtain ⟨_, q, _⟩ := hit; exact Heap.lt_size q
    have le : i < its.toArray.size := by
      have := (List.getElem?_eq_some_iff.mp hu).1
      simpa using this
    have D := Draws.list (prog := X.prog) (w := X.w) (A := X.A.in1) (I.ok.hd hc) it a hai its.toArray
    refine wpAny_pyNext_enum_itemC D he ⟨hit, pt⟩ le hne (by simp [hne, Ne.symm hae]) fun xv h' tk hxv ho hst' hT hsz hk => ?_
    have ev : xv = u := by
      have hu' : its.toArray[i]? = some u := by simpa using hu
      rw [hu'] at hxv
      exact (Option.some.inj hxv).symm
    subst ev
    obtain ⟨hit', pt'⟩ := hst'
    refine ⟨_, rfl, wpAny_letOwnedTupleGo_enum (s := { s with heap := h', toks := tk + 1 }) ho fun h'' he' sb => ?_⟩
    have hT2 : h''.get? s.heap.objs.size = some { cls := .type "tuple", data := .seq #[.int (c + (i : Nat)) tk, xv] } := (sb.2 _ (Nat.ne_of_gt hel)).trans hT
    have new : ObjOk X.prog X.w (upd H s.heap.objs.size (.tup [.int (c + (i : Nat)), x])) h'' s.heap.objs.size (.tup [.int (c + (i : Nat)), x]) :=
      ⟨by show 2 ≤ sizeLine; decide, [.int (c + (i : Nat)) tk, xv], .cons ⟨_, rfl⟩ (.cons ru .nil), ⟨_, hT2, rfl, _, rfl⟩⟩
    have I1 : Inv X pins σ (upd H s.heap.objs.size (.tup [.int (c + (i : Nat)), x])) { s with heap := h'', toks := tk + 1 } :=
      I.turnedNew (t' := tk + 1) (ch := [e, it]) (fun b ob hb q => (sb.2 b (fun z => hb (by simp [z]))).trans (hk b ob (fun z => hb (by simp [z])) (fun z => hb (by simp [z])) q)) hf (Nat.le_refl _) new
    refine ⟨.ref s.heap.objs.size, _, I1, rfl, ⟨_, x, rfl, I.hok.fresh (Nat.le_refl _), rfl, fun ys hy => by rw [I.list_inj hy hq]; exact hx⟩, ⟨⟨xv, ?_⟩, hit'.at fun o q => (sb.2 it (Ne.symm hne)).trans q, hne, hai, hae⟩, fun b hb => ?_⟩
    · have e1 : c + ((i + 1 : Nat) : Int) = c + (i : Int) + 1 := by omega
      rw [e1]; exact he'
    · have hb' : b < s.heap.objs.size := by
        have z : b = e ∨ b = it := by simpa using hb
        rcases z with z | z
        · rw [z]; exact hel
        · rw [z]; exact hil
      rw [upd_ne (Nat.ne_of_lt hb')]
      exact (hf b hb).1
  done := by
    intro X hP hw hK hc i pins s σ H E I hf st hg
    subst hP hw hK
    obtain ⟨⟨old, he⟩, hit, hne, hai, hae⟩ := st
    obtain ⟨xs, hq, hx⟩ := hg
    obtain ⟨its, rv, p, hz⟩ := I.list hq
    have pt : s.heap.IsList a its.toArray := p.isList
    obtain ⟨f0, f1, f2, f3, f4, f5⟩ := hf it (by simp)
    have hl := rv.length
    have hT : s.TypeIs (.ref e) "enumerate" := ⟨_, he, rfl⟩
    unfold pyNext
    refine wpAny_bind (wpAny_attempt (wpAny_callSpecial?_slot (name := Str.ofString "__next__") hT F.slot_enumerate_next (wpAny_call_entry F.slot_enumerate_next hT F.entry_enumerate_next ?_ (F.args_enumerate_next_1 _))))
    show wpAny _ _ (field (.ref e) 2 >>= _) _ _ _
    refine wpAny_bind (wpAny_field he rfl (x := .ref it) rfl ?_)
    refine wpAny_bind (wpAny_nextOf_list_end (I.ok.hd hc) hit pt (by simp; omega) fun h' x eb hx' => ?_)
    obtain ⟨o, ho, hc'⟩ := hx'
    refine wpAny_bind (wpAny_isInstance (T := "StopIteration") (b := true) ⟨o, ho, hc'⟩ isSubtype_stop ?_)
    exact wpAny_pure ⟨rfl, I.turned (t' := s.toks) (fun b o hb q => eb b o hb q) f0 f1 f3 f4 f5⟩
  self := fun A i s Q E st h => let ⟨⟨_, he⟩, _⟩ := st; wpAny_pyIter_enum he h
def iEnumS (K : PySem.W.Frag) (ta : TA) : TI := fun σ H R => ta σ H fun vs H1 => ∃ a xs c, vs = [.ref a, .int c] ∧ -(2 ^ 63) ≤ c ∧ c < 2 ^ 63 ∧ SqL K H1 a xs ∧ R (IteS K a c) H1
theorem pi_enumS {X : Cx} {e e2 : Expr} {ta : TA} {p pos tpos : Pos} {elts : List Expr} {kk : Nat} (hg : Gl X "enumerate") (hm : X.mg "enumerate" = none) (ha : PA X [e, e2] ta) (hs : starEach [e, e2] X.env = (false, eval e X.env) :: starEach [e2] X.env := by rfl) (hp : (backTo pos (starEach [e2] X.env)).any (·.1) = false := by rfl) :
    PI X (.Tuple elts kk tpos) (.Call (.Name "enumerate" p) [e, e2] [] pos) (iEnumS X.K ta) := by
  refine ⟨fun pins s σ H R I h => ?_⟩
  refine Call_ (ld_blt I hg hm boot_enumerate (PyProof.Rows.callWith_type1 (thn (ha.run pos pins s σ H _ I h) fun us s1 ⟨vs, H1, I1, r1, q1⟩ => ?_) hs hp))
  obtain ⟨a, xs, c, ex, c0, c1, hq, q⟩ := q1
  subst ex
  cases r1 with
  | cons r rr =>
    cases rr with
    | cons r2 rr2 =>
    cases rr2
    cases r
    obtain ⟨t2, rfl⟩ := r2
    obtain ⟨its, rv, p', hz⟩ := I1.list hq
    have pt : s1.heap.IsList a its.toArray := p'.isList
    have la : a < s1.heap.objs.size := by obtain ⟨_, z, _⟩ := pt; exact Heap.lt_size z
    refine enum_begins (begins_list a its.toArray) pt c0 c1 fun h' he hit hsz hk => wpAny_pyIter_enum he ?_
    have I2 : Inv X pins σ H1 { s1 with heap := h' } := I1.kept (t' := s1.toks) hk
    refine ⟨s1.heap.objs.size + 1, [s1.heap.objs.size + 1, s1.heap.objs.size], _, _, H1, rfl, I2, turn_enumS c a (s1.heap.objs.size + 1) s1.heap.objs.size, ⟨⟨.none, by simpa using he⟩, ⟨_, hit, rfl, rfl⟩, Nat.succ_ne_self _, Nat.ne_of_lt la, Nat.ne_of_lt (Nat.lt_succ_of_lt la)⟩, fun b hb => ?_, q⟩
    have z : b = s1.heap.objs.size + 1 ∨ b = s1.heap.objs.size := by simpa using hb
    have hle : s1.heap.objs.size ≤ b := by
      rcases z with z | z
      · rw [z]; exact Nat.le_add_right _ _
      · rw [z]; exact Nat.le_refl _
    exact I1.fpOk hle (I1.hok.fresh hle)
theorem walk_enumS {K : PySem.W.Frag} {a : Addr} {c : Int} {xs : List V} : Walk (IteS K a c) xs.length (fun H => SqL K H a xs) (YPair (fun i => some (.int (c + (i : Nat)))) (fun i => xs[i]?)) := by
  refine ⟨fun i _ hi q => ⟨xs, xs[i], q, by simp [hi]⟩, fun _ q => ⟨xs, q, Nat.le_refl _⟩, fun i H v H' _ q y => ?_⟩
  obtain ⟨T, x, g1, g2, g3, g4⟩ := y
  exact ⟨T, .int (c + (i : Nat)), x, g1, g2, g3, rfl, g4 xs q⟩
end AL
set_option Elab.async false
set_option maxRecDepth 100000
set_option exponentiation.threshold 70000
set_option maxHeartbeats 1000000
namespace AL
open PySem PySem.Spec PyProof.Rows L2 RZ
section
variable {P : Program} {w : World} {K : PySem.W.Frag} {mg : Str → Option Value} {base : Heap}

def rSpK (K : PySem.W.Frag) : V → List V → Hp → VK → Prop := fun x xs H Q => ∃ a b, x = V.str a ∧ xs = [V.str b] ∧ (b.length == 0) = false ∧ a.length + 2 ≤ sizeLine ∧ rNewStrs (Txt.split a b) H Q
theorem pe_splitK {X : Cx} {o e : PySem.Expr} {to te : TE} {apos pos : Pos} (ho : PE X o to) (he : PE X e te) (a1 : starEach [e] X.env = [(false, eval e X.env)] := by rfl) (a2 : attributeBase o "split" X.env (eval o X.env) = eval o X.env := by rfl) (a3 : (apos.endLine == pos.line) = true := by rfl) :
    PE X (.Call (.Attribute o "split" apos) [e] [] pos) (tM1 (rSpK X.K) to te) := pe_split ho he a1 a2 a3
/-- what a line makes of the measures and the names of scales -/
def stepI (n : Nat) (g : List Me × List (List Nat)) : Item → List Me × List (List Nat)
  | .unit nm _ y us => (g.1 ++ [⟨nm, exV g.1 n (pws us), y * szV g.1 (pws us)⟩], g.2)
  | .scale nm _ _ _ _ _ _ _ => (g.1, g.2 ++ [nm])
def gro (B : List (List Nat)) (its : List Item) : List Me × List (List Nat) := its.foldl (stepI B.length) (baM B B.length, [])
theorem gro_snoc (B : List (List Nat)) (its : List Item) (it : Item) : gro B (its ++ [it]) = stepI B.length (gro B its) it := by unfold gro; rw [List.foldl_append]; rfl
theorem gro_take {B : List (List Nat)} {its : List Item} {i : Nat} {it : Item} (h : its[i]? = some it) : gro B (its.take (i + 1)) = stepI B.length (gro B (its.take i)) it := by
  rw [List.take_add_one, h]; exact gro_snoc _ _ _
def Item.Fits (n : Nat) (ms : List Me) : Item → Prop
  | .unit _ _ _ us => (∀ m ∈ ms, m.row.length = n ∧ (∀ k ∈ m.row, k.natAbs < 2 ^ 60) ∧ m.sz ≠ 0) ∧ (∀ u ∈ us, Lim (2 ^ 300) (szOf ms u.nm)) ∧ 301 * wt (pws us) ≤ 5700
  | .scale .. => True
def ItsOk (B : List (List Nat)) (its : List Item) : Prop := ∀ (i : Nat) (it : Item), its[i]? = some it → it.Ok (gro B (its.take i)).1 (gro B (its.take i)).2 ∧ it.Fits B.length (gro B (its.take i)).1
def WordOk (w : List Nat) : Prop := w ≠ [] ∧ w.length ≤ 2100 ∧ (∀ d, d = 32 ∨ d = 10 → d ∉ w) ∧ ∀ c ∈ w, c < 1000
def LineOk (L : List (List Nat)) : Prop := L ≠ [] ∧ L.length ≤ 20 ∧ ∀ w ∈ L, WordOk w
def allL (B : List (List Nat)) (its : List Item) : List (List (List Nat)) := ([98, 97, 115, 101] :: B) :: its.map Item.words
theorem LineOk.okS {L : List (List Nat)} (h : LineOk L) : OkS L := fun l hl => strOk_of fun c hc => (h.2.2 l hl).2.2.2 c hc
theorem LineOk.no {L : List (List Nat)} (h : LineOk L) {d : Nat} (hd : d = 32 ∨ d = 10) : ∀ l ∈ L, d ∉ l := fun l hl => (h.2.2 l hl).2.2.1 d hd
theorem LineOk.len {L : List (List Nat)} (h : LineOk L) : (TL.joinL [32] L).length ≤ 42020 := by
  have a := joinL_len 32 fun l hl => (h.2.2 l hl).2.1
  have := Nat.mul_le_mul_right 2101 h.2.1
  omega
theorem joinL_fst {c : Nat} {l : List Nat} {L : List (List Nat)} (h : l ≠ []) : TL.joinL [c] (l :: L) ≠ [] := by
  cases l with
  | nil => exact absurd rfl h
  | cons x r => cases L <;> simp [TL.joinL]
theorem LineOk.ne {L : List (List Nat)} (h : LineOk L) : TL.joinL [32] L ≠ [] := by
  obtain ⟨h0, _, hw⟩ := h
  cases L with
  | nil => exact absurd rfl h0
  | cons l r => exact joinL_fst (hw l (List.mem_cons_self ..)).1
def txtU (B : List (List Nat)) (its : List Item) (e : Bool) : List Nat := TL.joinL [10] ((allL B its).map (TL.joinL [32])) ++ (if e = true then [10] else [])
/-- units as they have been made -/
structure UnNew (CU : Addr) (H : Hp) (x : Addr) (B : List (List Nat)) (its : List Item) (e : Bool) : Prop where
  ex : ∃ dx b na d s, H x = some (.ins CU dx [("text", .str (S (txtU B its e))), ("base", .ref b), ("names", .ref na), ("measures", .ref d), ("scales", .ref s)]) ∧ H b = some (.tup (B.map vS)) ∧ H na = some (.tup ((B ++ its.map Item.nm).map vS)) ∧ MeAt H d (gro B its).1
/-- Units(text) -/
def spUi (CU : Addr) : Sp := fun vs H Q _ => ∃ (x dx : Addr) (B : List (List Nat)) (its : List Item) (e : Bool), vs = [.ref x, .str (S (txtU B its e))] ∧ H x = some (.ins CU dx []) ∧ B ≠ [] ∧ B.length ≤ 6 ∧ (∀ l ∈ B, nmOk l = true) ∧ B.Nodup ∧ its.length ≤ 6 ∧ ItsOk B its ∧ (∀ L ∈ allL B its, LineOk L) ∧
  ∀ H', Keep x H H' → UnNew CU H' x B its e → Q .non H'
theorem ScalAt.put {H' : Hp} {d : Addr} {ns : List (List Nat)} {nm : List Nat} {v : V} {kvs : List (Key × V)} (hk : kvs.map (·.1) = ns.map kS) (new : nm ∉ ns) (hd' : H' d = some (.dK (putK kvs (kS nm) v))) : ScalAt H' d (ns ++ [nm]) := by
  have an : (kvs.any fun kv => decide (kv.1 = kS nm)) = false := by
    rw [List.any_eq_false]
    intro kv hkv
    have : kv.1 ∈ ns.map kS := by rw [← hk]; exact List.mem_map.mpr ⟨kv, hkv, rfl⟩
    obtain ⟨n, hn, e⟩ := List.mem_map.mp this
    rw [decide_eq_true_eq]
    intro z
    exact new (by rw [← kS_inj.mp (e.trans z)]; exact hn)
  unfold putK at hd'
  rw [if_neg (by rw [an]; decide)] at hd'
  exact ⟨_, hd', by rw [List.map_append, hk, List.map_append]; rfl⟩
theorem MeAt.tu {H H' : Hp} {d : Addr} {ms : List Me} (h : MeAt H d ms) (hd : ∀ o, H d = some o → H' d = some o) (keep : ∀ b ys, H b = some (.tup ys) → H' b = some (.tup ys)) : MeAt H' d ms := by
  obtain ⟨kvs, h1, h2⟩ := h
  refine ⟨kvs, hd _ h1, paired_imp (fun kv m z => ⟨z.1, ?_⟩) h2⟩
  obtain ⟨t, r, s, e, k1, k2, k3⟩ := z.2
  exact ⟨t, r, s, e, keep _ _ k1, keep _ _ k2, keep _ _ k3⟩
theorem catT_one {K : PySem.W.Frag} {H : Hp} {a b : Addr} {xs ys : List V} {Q : VK} (ha : H a = some (.tup xs)) (hb : H b = some (.tup ys)) (hx : xs ≠ []) (hl : xs.length + ys.length ≤ sizeLine) (q : ∀ r H', Same H H' → H' r = some (.tup (xs ++ ys)) → Q (.ref r) H') : rCatT K (.ref a) (.ref b) H Q :=
  ⟨a, b, xs, ys, rfl, rfl, SqT.of ha, SqT.of hb, hx, hl, fun e => q a H (Same.refl _) (by rw [e, List.append_nil]; exact ha), fun _ p hp => q p _ (AL.Same.new hp) upd_same⟩
theorem meOf_none {ms : List Me} {l : List Nat} (h : meOf ms l = none) : ∀ x ∈ ms, x.nm ≠ l := fun x hx e => by
  have := List.find?_eq_none.mp h x hx
  exact this (decide_eq_true e)
theorem gro_len (B : List (List Nat)) : ∀ its : List Item, (gro B its).1.length ≤ B.length + its.length ∧ (gro B its).2.length ≤ its.length := by
  refine snoc_ind ?_ ?_
  · exact ⟨baM_len B _, Nat.zero_le _⟩
  · intro its it ih
    rw [gro_snoc, List.length_append]
    cases it with
    | unit nm rw0 y us =>
      show ((gro B its).1 ++ [_]).length ≤ _ ∧ (gro B its).2.length ≤ _
      rw [List.length_append]
      simp only [List.length_singleton]
      omega
    | scale nm ot wa wb p q r t =>
      show (gro B its).1.length ≤ _ ∧ ((gro B its).2 ++ [_]).length ≤ _
      rw [List.length_append]
      simp only [List.length_singleton]
      omega
theorem Keep2.tu {H H' : Hp} {d s : Addr} {a b : List (Key × V)} (hd : H d = some (.dK a)) (hs : H s = some (.dK b)) (k : ∀ c o, c ≠ d → c ≠ s → H c = some o → H' c = some o) : ∀ c ys, H c = some (.tup ys) → H' c = some (.tup ys) := fun c ys h => k c _ (fun z => by rw [z, hd] at h; cases h) (fun z => by rw [z, hs] at h; cases h) h

abbrev stU_init : Stmt := inClass (top 37) 0
theorem scU_init : FnScope ["self", "text", "lines", "line", "wrong", "base", "measures", "scales", "number", "words"] ["self", "text"] (defScope stU_init) := ⟨rfl, rfl, rfl, by decide +kernel, rfl, by decide +kernel, by decide +kernel⟩
theorem okU_init (B : Blt mg) {CUnits : Addr} (Es : ErU K mg CUnits) {fbase_measures : Addr} {fdbase_measures : FuncData} (Dbase_measures : DefAt K mg "base_measures" stbase_measures ["base"] fbase_measures fdbase_measures) {flines_of : Addr} {fdlines_of : FuncData} (Dlines_of : DefAt K mg "lines_of" stlines_of ["text"] flines_of fdlines_of) {fexponents_in : Addr} {fdexponents_in : FuncData} (Dexponents_in : DefAt K mg "exponents_in" stexponents_in ["powers", "measures", "many"] fexponents_in fdexponents_in) {fis_exponent : Addr} {fdis_exponent : FuncData} (Dis_exponent : DefAt K mg "is_exponent" stis_exponent ["text"] fis_exponent fdis_exponent) {fis_name : Addr} {fdis_name : FuncData} (Dis_name : DefAt K mg "is_name" stis_name ["text"] fis_name fdis_name) {fnamed_power : Addr} {fdnamed_power : FuncData} (Dnamed_power : DefAt K mg "named_power" stnamed_power ["word"] fnamed_power fdnamed_power) {fpowers_of : Addr} {fdpowers_of : FuncData} (Dpowers_of : DefAt K mg "powers_of" stpowers_of ["words"] fpowers_of fdpowers_of) {fratio_product : Addr} {fdratio_product : FuncData} (Dratio_product : DefAt K mg "ratio_product" stratio_product ["one", "other"] fratio_product fdratio_product) {flowest : Addr} {fdlowest : FuncData} (Dlowest : DefAt K mg "lowest" stlowest ["top", "bottom"] flowest fdlowest) {fdigits_end : Addr} {fddigits_end : FuncData} (Ddigits_end : DefAt K mg "digits_end" stdigits_end ["text", "start"] fdigits_end fddigits_end) {fwrong_column_ratios : Addr} {fdwrong_column_ratios : FuncData} (Dwrong_column_ratios : DefAl K mg "wrong_column_ratios" "wrong_column" stwrong_column_ratios ["text"] fwrong_column_ratios fdwrong_column_ratios) {fratio_of : Addr} {fdratio_of : FuncData} (Dratio_of : DefAt K mg "ratio_of" stratio_of ["text"] fratio_of fdratio_of) {fratio_word : Addr} {fdratio_word : FuncData} (Dratio_word : DefAt K mg "ratio_word" stratio_word ["word"] fratio_word fdratio_word) {fwhole_power : Addr} {fdwhole_power : FuncData} (Dwhole_power : DefAt K mg "whole_power" stwhole_power ["base", "n"] fwhole_power fdwhole_power) {fratio_power : Addr} {fdratio_power : FuncData} (Dratio_power : DefAt K mg "ratio_power" stratio_power ["ratio", "n"] fratio_power fdratio_power) {fsize_in : Addr} {fdsize_in : FuncData} (Dsize_in : DefAt K mg "size_in" stsize_in ["powers", "measures"] fsize_in fdsize_in) {fmeasure_of : Addr} {fdmeasure_of : FuncData} (Dmeasure_of : DefAt K mg "measure_of" stmeasure_of ["word", "words", "measures", "many"] fmeasure_of fdmeasure_of) {fwrong_names_column : Addr} {fdwrong_names_column : FuncData} (Dwrong_names_column : DefAt K mg "wrong_names_column" stwrong_names_column ["words", "head", "most"] fwrong_names_column fdwrong_names_column) {fwrong_base_column : Addr} {fdwrong_base_column : FuncData} (Dwrong_base_column : DefAt K mg "wrong_base_column" stwrong_base_column ["lines"] fwrong_base_column fdwrong_base_column) {fwrong_scale_column : Addr} {fdwrong_scale_column : FuncData} (Dwrong_scale_column : DefAt K mg "wrong_scale_column" stwrong_scale_column ["words", "measures", "scales"] fwrong_scale_column fdwrong_scale_column) {fwrong_unit_word : Addr} {fdwrong_unit_word : FuncData} (Dwrong_unit_word : DefAt K mg "wrong_unit_word" stwrong_unit_word ["words", "measures"] fwrong_unit_word fdwrong_unit_word) {fwrong_column_units : Addr} {fdwrong_column_units : FuncData} (Dwrong_column_units : DefAl K mg "wrong_column_units" "wrong_column" stwrong_column_units ["words", "measures", "scales"] fwrong_column_units fdwrong_column_units) {fU_init : Addr} {fdU_init : FuncData} (DU_init : IniA K "__init__" "Units.__init__" stU_init ["self", "text"] CUnits fU_init fdU_init) : FnOk P w K mg base CX0 7 fU_init fdU_init ["self", "text"] (spUi CUnits) := by
  obtain ⟨uD, hD, rD⟩ := Es.dig
  obtain ⟨uM, hM, rM⟩ := Es.most
  obtain ⟨uL, hL, rL⟩ := Es.lett
  obtain ⟨uN, hN, rN⟩ := Es.long
  obtain ⟨uB, hB, rB⟩ := Es.most6
  have OKbase_measures : FnOk P w K mg base CX0 1 fbase_measures fdbase_measures ["base"] spBm := okbase_measures B Es Dbase_measures
  have OKlines_of : FnOk P w K mg base CX0 1 flines_of fdlines_of ["text"] spLns := oklines_of B Es Dlines_of
  have OKmeasure_of : FnOk P w K mg base CX0 5 fmeasure_of fdmeasure_of ["word", "words", "measures", "many"] spMo := okmeasure_of B Es Dexponents_in Dis_exponent Dis_name Dnamed_power Dpowers_of Dratio_product Dlowest Ddigits_end Dwrong_column_ratios Dratio_of Dratio_word Dwhole_power Dratio_power Dsize_in Dmeasure_of
  have OKratio_word : FnOk P w K mg base CX0 4 fratio_word fdratio_word ["word"] spRw := okratio_word B Es Dlowest Ddigits_end Dwrong_column_ratios Dratio_of Dratio_word
  have OKwrong_base_column : FnOk P w K mg base CX0 3 fwrong_base_column fdwrong_base_column ["lines"] spBc := okwrong_base_column B Es Dis_name Dwrong_names_column Dwrong_base_column
  have OKwrong_column_units : FnOk P w K mg base CX0 6 fwrong_column_units fdwrong_column_units ["words", "measures", "scales"] spWc := okwrong_column_units B Es Dis_name Dlowest Ddigits_end Dwrong_column_ratios Dratio_of Dratio_word Dwrong_scale_column Dis_exponent Dnamed_power Dwrong_unit_word Dwrong_column_units
  refine DU_init.F.ok scU_init (fun vs H Q E h => ?_) (fun cdv A outer s H vs Q E hr h => ?_)
  · obtain ⟨x, dx, B, its, e, rfl, _⟩ := h; rfl
  · have hu := hu_of hr
    refine ⟨_, (pss_cons (ps_if (pt_not (pt_val (pe_callB call_isi (by rfl) B.isinstance_ (by decide +kernel) (pa_cons (pv 1) (pa_cons (pe_bltn (v := .ty "str") (by rfl) B.str_ PyProof.Rows.Boot.«str» rfl) pa_nil))))) (pss_one ps_never) pss_nil)
    (pss_cons (ps_setLc (i := 2) (own := [("line", 3)]) (g := gName 3) (tt := tYes) (te := (tM1 (rSpK K) (tVar 3) (tC (V.str " ")))) rfl scU_init.nd rfl rfl (sw_true rfl rfl rfl (by decide +kernel)) (pi_list (pe_call OKlines_of (hr.mono (by decide)) rfl Dlines_of.m Dlines_of.F.kp Dlines_of.b .nil pass0 (pa_cons (pv 1) pa_nil))) (blkOk_by (own := [("line", 3)]) (N := ["self", "text", "lines", "line", "wrong", "base", "measures", "scales", "number", "words"]) (sc := defScope stU_init) (by decide +kernel)) (fun _ _ _ _ _ => pg_name (i := 3) scU_init.nd rfl (Or.inl rfl)) (fun _ _ _ _ _ => pts_nil) (fun _ _ _ _ _ => (pe_splitK (pv 3) pe_str)))
    (pss_cons (ps_set (i := 4) scU_init.nd rfl (Or.inl rfl) (pe_call OKwrong_base_column (hr.mono (by decide)) rfl Dwrong_base_column.m Dwrong_base_column.F.kp Dwrong_base_column.b .nil pass0 (pa_cons (pv 2) pa_nil)))
    (pss_cons (ps_if (pt_cmpR op_gt (pv 4) pe_int (nomark _)) (pss_one ps_never) pss_nil)
    (pss_cons (ps_set (i := 5) scU_init.nd rfl (Or.inl rfl) (pe_callTy call_tuple_of (by rfl) B.tuple_ (by decide +kernel) (pa_cons (pe_slice sl_list (pe_ix ix_list (pv 2) pe_int (fun _ _ => rfl)) (po_some pe_int) po_none) pa_nil)))
    (pss_cons (ps_set (i := 6) scU_init.nd rfl (Or.inl rfl) (pe_call OKbase_measures (hr.mono (by decide)) rfl Dbase_measures.m Dbase_measures.F.kp Dbase_measures.b .nil pass0 (pa_cons (pv 5) pa_nil)))
    (pss_cons (ps_set (i := 7) scU_init.nd rfl (Or.inl rfl) pe_dnewK)
    (pss_cons (ps_for PassesOwn.never rfl (pi_enumS (by rfl) B.enumerate_ (pa_cons (pe_slice sl_list (pv 2) (po_some pe_int) po_none) (pa_cons pe_int pa_nil))) (pg_tup rfl (pgs_cons (pg_name (i := 8) scU_init.nd rfl (Or.inl rfl)) (pgs_cons (pg_name (i := 9) scU_init.nd rfl (Or.inl rfl)) pgs_nil)))
      (pss_cons (ps_set (i := 4) scU_init.nd rfl (Or.inl rfl) (pe_call OKwrong_column_units (hr.mono (by decide)) rfl Dwrong_column_units.m Dwrong_column_units.F.kp Dwrong_column_units.b .nil pass0 (pa_cons (pv 9) (pa_cons (pv 6) (pa_cons (pv 7) pa_nil)))))
    (pss_cons (ps_if (pt_cmpR op_gt (pv 4) pe_int (nomark _)) (pss_one ps_never) pss_nil)
    (pss_one (ps_if (pt_cmpR op_eq (pe_ix ix_list (pv 9) pe_int (fun _ _ => rfl)) pe_str (nomark _)) (pss_one (ps_dput hu (pv 6) (pe_ix ix_list (pv 9) pe_int (fun _ _ => rfl)) (pe_call OKmeasure_of (hr.mono (by decide)) rfl Dmeasure_of.m Dmeasure_of.F.kp Dmeasure_of.b .nil pass0 (pa_cons (pe_ix ix_list (pv 9) pe_int (fun _ _ => rfl)) (pa_cons (pe_slice sl_list (pv 9) (po_some pe_int) po_none) (pa_cons (pv 6) (pa_cons (pe_callB call_len_seq (by rfl) B.len_ (by decide +kernel) (pa_cons (pv 5) pa_nil)) pa_nil))))) rfl)) (pss_one (ps_dput hu (pv 7) (pe_ix ix_list (pv 9) pe_int (fun _ _ => rfl)) (pe_tup (pa_cons (pe_ix ix_list (pv 9) pe_int (fun _ _ => rfl)) (pa_cons (pe_call OKratio_word (hr.mono (by decide)) rfl Dratio_word.m Dratio_word.F.kp Dratio_word.b .nil pass0 (pa_cons (pe_ix ix_list (pv 9) pe_int (fun _ _ => rfl)) pa_nil)) (pa_cons (pe_call OKratio_word (hr.mono (by decide)) rfl Dratio_word.m Dratio_word.F.kp Dratio_word.b .nil pass0 (pa_cons (pe_ix ix_list (pv 9) pe_int (fun _ _ => rfl)) pa_nil)) pa_nil)))) rfl)))))))
    (pss_cons (ps_fld (pv 0) (pv 1) rfl)
    (pss_cons (ps_fld (pv 0) (pv 5) rfl)
    (pss_cons (ps_fld (pv 0) (pe_op op_catT (pv 5) (pe_callTy call_tuple_of (by rfl) B.tuple_ (by decide +kernel) (pa_cons (pe_lc (own := [("words", 9)]) (g := gName 9) (tt := tYes) (te := (tOp (rIxL K) (tVar 9) (tC (V.int 1)))) rfl scU_init.nd (pi_list (pe_slice sl_list (pv 2) (po_some pe_int) po_none)) (blkOk_by (own := [("words", 9)]) (N := ["self", "text", "lines", "line", "wrong", "base", "measures", "scales", "number", "words"]) (sc := defScope stU_init) (by decide +kernel)) (fun _ _ _ _ _ => pg_name (i := 9) scU_init.nd rfl (Or.inl rfl)) (fun _ _ _ _ _ => pts_nil) (fun _ _ _ _ _ => (pe_ix ix_list (pv 9) pe_int (fun _ _ => rfl)))) pa_nil))) rfl)
    (pss_cons (ps_fld (pv 0) (pv 6) rfl)
    (pss_one (ps_fld (pv 0) (pv 7) rfl)))))))))))))), ?_⟩
    obtain ⟨x, dx, B, its, e, rfl, hx, hne, hlen, hnm, nd, hil, hok, hlin, q⟩ := h
    have l7 : (allL B its).length ≤ 10 := by
      show (its.map Item.words).length + 1 ≤ 10
      rw [List.length_map]; omega
    have jl : ∀ l ∈ (allL B its).map (TL.joinL [32]), l.length ≤ 42020 := fun l hl => by
      obtain ⟨L, h1, rfl⟩ := List.mem_map.mp hl
      exact (hlin L h1).len
    have jlen := joinL_len 10 jl
    rw [List.length_map] at jlen
    have jlen2 := Nat.mul_le_mul_right 42021 l7
    refine ⟨_, rfl, _, _, _, _, _, rfl, ClsV.ty _, TyX.base (.str _), rfl, true, rfl, ?_⟩
    refine iteF ?_
    refine ⟨_, rfl, (allL B its).map (TL.joinL [32]), e, rfl, by unfold allL; simp, ?_, ?_, by omega, fun a0 H1 s1 ha0 => ?_⟩
    · intro l hl
      obtain ⟨L, h1, rfl⟩ := List.mem_map.mp hl
      exact joinL_no (by decide) ((hlin L h1).no (by decide))
    · intro z
      have : ([] : List Nat) ∈ (allL B its).map (TL.joinL [32]) := List.mem_of_getLast? z
      obtain ⟨L, h1, h2⟩ := List.mem_map.mp this
      exact (hlin L h1).ne h2
    refine ⟨a0, rfl, ⟨_, SqL.of ha0⟩, fun D hD => ?_⟩
    have hx1 := s1 _ _ hx
    refine lc_list (K := K) (a := a0) (xs := ((allL B its).map (TL.joinL [32])).map vS) (fun i H' => Same H1 H' ∧ ∃ as : List Addr, H' D = some (.lst (as.map V.ref)) ∧ Paired (fun a L => a ≠ D ∧ TxL H' a L) as ((allL B its).take i)) ⟨AL.Same.new hD, [], upd_same, .nil⟩ (fun i H' _ hh => SqL.of (hh.1 _ _ ha0)) ?_ ?_
    · rintro i y H2 hy ⟨s2, as, hD2, pr⟩
      obtain ⟨L0, hL0, rfl⟩ : ∃ L0, (allL B its)[i]? = some L0 ∧ y = .str (S (TL.joinL [32] L0)) := by
        rw [List.map_map, List.getElem?_map] at hy
        cases e : (allL B its)[i]? with
        | none => rw [e] at hy; cases hy
        | some l => rw [e] at hy; exact ⟨l, rfl, (Option.some.inj hy).symm⟩
      have lk := hlin L0 (List.mem_of_getElem? hL0)
      have ll := lk.len
      refine ⟨rfl, ?_⟩
      refine ⟨_, rfl, ⟨_, rfl⟩, _, _, rfl, rfl, by decide +kernel, by rw [S_len]; exact Nat.le_trans (by omega : _ ≤ 50000) (by decide), fun t ht => ?_⟩
      rw [spaceS, split_S 32 (by decide) lk.1 (lk.no (by decide)), List.map_map]
      have n3 := AL.Same.new (o := .lst (List.map (V.str ∘ S) L0)) ht
      refine ⟨_, n3 _ _ hD2, ?_, AL.Same.updn (s2.trans n3) hD, as ++ [t], by rw [upd_same, List.map_append]; rfl, ?_⟩
      · have := pair_len pr
        rw [List.length_take] at this
        rw [List.length_map]
        exact Nat.lt_of_le_of_lt (by omega : _ ≤ 100) (by decide)
      · rw [List.take_add_one, hL0, Option.toList_some]
        have tD : t ≠ D := fun z => by rw [z, hD2] at ht; cases ht
        have nt : ∀ b o, H2 b = some o → b ≠ D → upd (upd H2 t (.lst (List.map (V.str ∘ S) L0))) D (.lst (as.map V.ref ++ [V.ref t])) b = some o := fun b o h ne => by rw [upd_ne ne]; exact n3 _ _ h
        exact paired_snoc (paired_imp (fun _ _ z => ⟨z.1, nt _ _ z.2 z.1⟩) pr) ⟨tD, by unfold TxL; rw [upd_ne tD, upd_same]; rfl⟩
    rintro H2 ⟨s2, as, hD2, pr⟩
    rw [List.length_map, List.length_map, List.take_length] at pr
    have pr2 : Paired (fun a L => TxL H2 a L) as (allL B its) := paired_imp (fun _ _ z => z.2) pr
    have okS : ∀ L ∈ allL B its, OkS L := fun L hL => (hlin L hL).okS
    have s12 := s1.trans s2
    refine ⟨_, rfl, D, as, B, its.map Item.words, rfl, hD2, pr2, okS, hne, hlen, hnm, nd, fun H3 s3 => ?_⟩
    refine ⟨_, rfl, _, _, rfl, rfl, _, rfl, ?_⟩
    refine iteF ?_
    have s13 := s12.trans s3
    have hD3 := s3 _ _ hD2
    have pr3 : Paired (fun a L => TxL H3 a L) as (allL B its) := paired_imp (fun _ _ z => TxL.same s3 z) pr2
    clear pr pr2 hD2
    obtain ⟨a1, as1, rfl, hb1, prI⟩ : ∃ a1 as1, as = a1 :: as1 ∧ TxL H3 a1 ([98, 97, 115, 101] :: B) ∧ Paired (fun a L => TxL H3 a L) as1 (its.map Item.words) := by
      cases pr3 with
      | cons h r => exact ⟨_, _, rfl, h, r⟩
    have hD3' : H3 D = some (.lst (V.ref a1 :: as1.map V.ref)) := hD3
    refine ⟨_, rfl, _, _, _, _, rfl, rfl, SqL.of hD3', atI_nat (j := 0) rfl, _, rfl, a1, _, rfl, SqL.of hb1, fun b0 hb0 => ?_⟩
    rw [show cutV (([98, 97, 115, 101] :: B).map vS) (some 1) none = B.map vS from cutV_from 1]
    have n4 := AL.Same.new (o := .lst (B.map vS)) hb0
    refine ⟨b0, _, rfl, .inl ⟨SqL.of upd_same, fun bt hbt => ?_⟩⟩
    have n5 := AL.Same.new (o := .tup (B.map vS)) hbt
    have hT5 : upd (upd H3 b0 (.lst (B.map vS))) bt (.tup (B.map vS)) bt = some (.tup (B.map vS)) := upd_same
    have s35 := n4.trans n5
    generalize upd (upd H3 b0 (.lst (B.map vS))) bt (.tup (B.map vS)) = H5 at s35 hT5 ⊢
    clear n4 n5 hb0 hbt
    refine ⟨_, rfl, bt, B, rfl, hT5, hlen, nd, fun d H6 hd6 s6 m6 => ?_⟩
    have s36 := s35.trans s6
    have hT6 := s6 _ _ hT5
    have hD6 := s36 _ _ hD3'
    have pr6 : Paired (fun a L => TxL H6 a L) as1 (its.map Item.words) := paired_imp (fun _ _ z => TxL.same s36 z) prI
    have hdn : H1 d = none := none_of_same ((s2.trans s3).trans s35) hd6
    refine fun sc hsc => ?_
    have hsn : H sc = none := none_of_same (s13.trans s36) hsc
    have n7 := AL.Same.new (o := .dK []) hsc
    have hS7 : upd H6 sc (.dK []) sc = some (.dK []) := upd_same
    have s37 := s36.trans n7
    have hT7 := n7 _ _ hT6
    have hD7 := n7 _ _ hD6
    have m7 := m6.same n7
    have pr7 : Paired (fun a L => TxL (upd H6 sc (.dK [])) a L) as1 (its.map Item.words) := paired_imp (fun _ _ z => TxL.same n7 z) pr6
    have dsc : d ≠ sc := fun z => by obtain ⟨kk, hk, _⟩ := m6; rw [z, hsc] at hk; cases hk
    have s17 := s13.trans s37
    generalize upd H6 sc (.dK []) = H7 at s37 hT7 hD7 m7 hS7 pr7 s17 ⊢
    clear n7 hsc pr6 m6 hD6 hT6 hT5
    refine ⟨_, rfl, _, rfl, D, _, rfl, SqL.of hD7, fun l2 hl2 => ?_⟩
    rw [show cutV (V.ref a1 :: as1.map V.ref) (some 1) none = as1.map V.ref from cutV_from 1]
    have n8 := AL.Same.new (o := .lst (as1.map V.ref)) hl2
    have hL8 : upd H7 l2 (.lst (as1.map V.ref)) l2 = some (.lst (as1.map V.ref)) := upd_same
    have hT8 := n8 _ _ hT7
    have hD8 := n8 _ _ hD7
    have hS8 := n8 _ _ hS7
    have m8 := m7.same n8
    have pr8 : Paired (fun a L => TxL (upd H7 l2 (.lst (as1.map V.ref))) a L) as1 (its.map Item.words) := paired_imp (fun _ _ z => TxL.same n8 z) pr7
    have s18 := s17.trans n8
    generalize upd H7 l2 (.lst (as1.map V.ref)) = H8 at n8 hL8 hT8 hD8 hS8 m8 pr8 s18 ⊢
    clear n8 hT7 hD7 hS7 m7 pr7 s17 hl2
    have las : as1.length = its.length := by have := pair_len pr8; rwa [List.length_map] at this
    refine ⟨l2, _, 2, rfl, by decide, by decide, SqL.of hL8, for_it (walk_enumS (K := K) (a := l2) (c := 2) (xs := as1.map V.ref)) (fun i σ H' => ∃ w4 v8 v9 : Option V, σ = [some (.ref x), some (.str (S (txtU B its e))), some (.ref D), none, w4, some (.ref bt), some (.ref d), some (.ref sc), v8, v9] ∧ (∀ b o, b ≠ d → b ≠ sc → H8 b = some o → H' b = some o) ∧ MeAt H' d (gro B (its.take i)).1 ∧ ScalAt H' sc (gro B (its.take i)).2) ⟨some (.int 0), none, none, rfl, fun _ _ _ _ h => h, m8, [], hS8, rfl⟩ (fun i σ H' _ hh => ?_) ?_ ?_⟩
    · obtain ⟨_, _, _, _, k, _, _⟩ := hh
      have ld : l2 ≠ d := fun z => by obtain ⟨kk, hk, _⟩ := m8; rw [← z, hL8] at hk; cases hk
      have ls : l2 ≠ sc := fun z => by rw [← z, hL8] at hS8; cases hS8
      exact SqL.of (k _ _ ld ls hL8)
    · rintro i y σ H9 H9' hi ⟨w4, v8, v9, rfl, k9, m9, sc9⟩ ⟨Tt, x0, y0, rfl, hTt, rfl, e1, e2⟩
      cases Option.some.inj e1
      dsimp only at e2
      obtain ⟨aw, haw, rfl⟩ : ∃ aw, as1[i]? = some aw ∧ y0 = .ref aw := by
        rw [List.getElem?_map] at e2
        cases e : as1[i]? with
        | none => rw [e] at e2; cases e2
        | some a => rw [e] at e2; exact ⟨a, rfl, (Option.some.inj e2).symm⟩
      obtain ⟨W, hW, tw⟩ := prd_ix pr8 haw
      obtain ⟨it, hit, rfl⟩ : ∃ it, its[i]? = some it ∧ W = it.words := by
        rw [List.getElem?_map] at hW
        cases e : its[i]? with
        | none => rw [e] at hW; cases hW
        | some a => rw [e] at hW; exact ⟨a, rfl, (Option.some.inj hW).symm⟩
      have nT := AL.Same.new (o := .tup [.int (2 + (i : Nat)), .ref aw]) hTt
      have awd : aw ≠ d := fun z => by obtain ⟨kk, hk, _⟩ := m8; unfold TxL at tw; rw [z, hk] at tw; cases tw
      have aws : aw ≠ sc := fun z => by unfold TxL at tw; rw [z, hS8] at tw; cases tw
      refine ⟨Tt, _, rfl, SqT.of upd_same, rfl, _, _, rfl, _, _, rfl, rfl, ?_⟩
      have twA := nT _ _ (k9 _ _ awd aws tw)
      have mA := m9.same nT
      have scA := sc9.same nT
      have kA : ∀ b o, b ≠ d → b ≠ sc → H8 b = some o → upd H9 Tt (.tup [.int (2 + (i : Nat)), .ref aw]) b = some o := fun b o p r h => nT _ _ (k9 b o p r h)
      generalize upd H9 Tt (.tup [.int (2 + (i : Nat)), .ref aw]) = HA at twA mA scA kA ⊢
      clear nT hTt k9 m9 sc9
      obtain ⟨iok, ifit⟩ := hok i it hit
      have gt := gro_take (B := B) hit
      have gl := (gro_len B (its.take i)).1
      have gl2 := (gro_len B (its.take i)).2
      generalize gro B (its.take i) = G at mA scA iok ifit gt gl gl2 ⊢
      rw [gt]
      refine ⟨_, rfl, _, rfl, _, rfl, aw, d, sc, it, G.1,  G.2, rfl, twA, mA, scA, iok, fun HB sB => ?_⟩
      refine ⟨_, rfl, _, _, rfl, rfl, _, rfl, ?_⟩
      refine iteF ?_
      have twB := sB _ _ twA
      have mB := mA.same sB
      have scB := scA.same sB
      have kB : ∀ b o, b ≠ d → b ≠ sc → H8 b = some o → HB b = some o := fun b o p r h => sB _ _ (kA b o p r h)
      clear sB twA mA scA kA
      cases it with
      | unit nm rw0 y us =>
        obtain ⟨o1, o2, o3, o4, o5, o6, o7, o8, o9⟩ := iok
        have tw1 : HB aw = some (.lst (vS [117, 110, 105, 116] :: vS nm :: vS rw0 :: (wtx us).map vS)) := twB
        refine ⟨_, rfl, _, _, _, _, rfl, rfl, SqL.of tw1, atI_nat (j := 0) rfl, rfl, _, rfl, ?_⟩
        rw [show decide (vS [117, 110, 105, 116] = V.str "unit") = true by rw [unitS]; exact str_eq _]
        refine iteT ?_
        have btd : bt ≠ d := fun z => by obtain ⟨kk, hk, _⟩ := m8; rw [z, hk] at hT8; cases hT8
        have bts : bt ≠ sc := fun z => by rw [z, hS8] at hT8; cases hT8
        have hTB := kB _ _ btd bts hT8
        refine ⟨_, rfl, _, _, _, _, rfl, rfl, SqL.of tw1, atI_nat (j := 2) rfl, _, rfl, _, rfl, aw, _, rfl, SqL.of tw1, fun bb hbb => ?_⟩
        rw [show cutV (vS [117, 110, 105, 116] :: vS nm :: vS rw0 :: (wtx us).map vS) (some 3) none = (wtx us).map vS from cutV_from 3]
        have nC := AL.Same.new (o := .lst ((wtx us).map vS)) hbb
        refine ⟨_, rfl, _, rfl, bt, _, rfl, .inr (SqT.of (nC _ _ hTB)), ?_⟩
        rw [List.length_map]
        refine ⟨bb, d, rw0, us, G.1, B.length, 300, y, rfl, o4, o5, o7, upd_same, o8, mB.same nC, hlen, o9, ifit.1, ifit.2.1, ifit.2.2, by decide, fun t r s1 HD sD g1 g2 g3 => ?_⟩
        have sBD := nC.trans sD
        obtain ⟨kvs, hk, pk⟩ := mB.same sBD
        have lenk := pair_len pk
        have twD := sBD _ _ tw1
        refine ⟨_, rfl, _, rfl, _, _, _, _, rfl, rfl, SqL.of twD, atI_nat (j := 1) rfl, d, _, rfl, .inl ⟨_, kS nm, hk, rfl, ?_, rfl⟩, ?_⟩
        · rw [lenk]
          exact Nat.lt_of_le_of_lt (by rw [List.length_take] at gl; omega : _ ≤ 100) (by decide)
        have kt : ∀ b ys, HD b = some (.tup ys) → upd HD d (.dK (putK kvs (kS nm) (.ref t))) b = some (.tup ys) := fun b ys h => by rw [upd_ne (fun z => by rw [z, hk] at h; cases h)]; exact h
        refine ⟨_, _, _, rfl, fun b o n1 n2 h => by rw [upd_ne n1]; exact sBD _ _ (kB b o n1 n2 h), ?_, ?_⟩
        · exact MeAt.put (m := ⟨nm, exV G.1 B.length (pws us), y * szV G.1 (pws us)⟩) hk pk (meOf_none o2) ⟨t, r, s1, rfl, g1, g2, g3⟩ kt upd_same
        · obtain ⟨ks, e1, e2⟩ := scB.same sBD
          exact ⟨ks, by rw [upd_ne (Ne.symm dsc)]; exact e1, e2⟩
      | scale nm ot wa wb p q1 r t =>
        obtain ⟨o1, o2, o3, o4, o5, o6, o7, o8, o9⟩ := iok
        have tw1 : HB aw = some (.lst [vS [115, 99, 97, 108, 101], vS nm, vS ot, vS wa, vS wb]) := twB
        refine ⟨_, rfl, _, _, _, _, rfl, rfl, SqL.of tw1, atI_nat (j := 0) rfl, rfl, _, rfl, ?_⟩
        rw [show decide (vS [115, 99, 97, 108, 101] = V.str "unit") = false by rw [unitS]; exact str_ne (by decide)]
        refine iteF ?_
        refine ⟨_, rfl, _, _, _, _, rfl, rfl, SqL.of tw1, atI_nat (j := 2) rfl, _, rfl, _, _, _, _, rfl, rfl, SqL.of tw1, atI_nat (j := 3) rfl, wa, p, q1, rfl, o5, o6, fun t1 HC sC g1 => ?_⟩
        refine ⟨_, rfl, _, _, _, _, rfl, rfl, SqL.of (sC _ _ tw1), atI_nat (j := 4) rfl, wb, r, t, rfl, o8, o9, fun t2 HD sD g2 => ?_⟩
        refine ⟨(by show 3 ≤ sizeLine; decide), fun t3 ht3 => ?_⟩
        have nE := AL.Same.new (o := .tup [vS ot, .ref t1, .ref t2]) ht3
        have sBE := (sC.trans sD).trans nE
        obtain ⟨ks, e1, e2⟩ := scB.same sBE
        have twE := sBE _ _ tw1
        have mE := mB.same sBE
        have kE : ∀ b o, b ≠ d → b ≠ sc → H8 b = some o → upd HD t3 (.tup [vS ot, .ref t1, .ref t2]) b = some o := fun b o n1 n2 h => sBE _ _ (kB b o n1 n2 h)
        have lk : ks.length = G.2.length := by have := congrArg List.length e2; rwa [List.length_map, List.length_map] at this
        have dE := mE
        obtain ⟨kd, hkd, _⟩ := dE
        refine ⟨_, rfl, _, rfl, _, _, _, _, rfl, rfl, SqL.of twE, atI_nat (j := 1) rfl, sc, _, rfl, .inl ⟨_, kS nm, e1, rfl, ?_, rfl⟩, ?_⟩
        · rw [lk]
          exact Nat.lt_of_le_of_lt (by rw [List.length_take] at gl2; omega : _ ≤ 100) (by decide)
        refine ⟨_, _, _, rfl, fun b o n1 n2 h => by rw [upd_ne n2]; exact kE b o n1 n2 h, ?_, ?_⟩
        · exact mE.tu (fun o h => by rw [upd_ne dsc]; exact h) fun b ys h => by rw [upd_ne (fun z => by rw [z, e1] at h; cases h)]; exact h
        · exact ScalAt.put e2 o3 upd_same
    · rintro σ H' ⟨w4, v8, v9, rfl, k9, m9, sc9⟩
      rw [List.length_map, las, List.take_length] at m9 sc9
      have xd : x ≠ d := fun z => by rw [z, hdn] at hx1; cases hx1
      have hx8 := (s18 _ _ hx)
      have xs : x ≠ sc := fun z => by rw [z, hS8] at hx8; cases hx8
      have btd : bt ≠ d := fun z => by obtain ⟨kk, hk, _⟩ := m8; rw [z, hk] at hT8; cases hT8
      have bts : bt ≠ sc := fun z => by rw [z, hS8] at hT8; cases hT8
      have hx9 := k9 _ _ xd xs hx8
      have hT9 := k9 _ _ btd bts hT8
      have Dd : D ≠ d := fun z => by obtain ⟨kk, hk, _⟩ := m8; rw [z, hk] at hD8; cases hD8
      have Ds : D ≠ sc := fun z => by rw [z, hS8] at hD8; cases hD8
      have hD9 := k9 _ _ Dd Ds hD8
      have hdn0 : H d = none := none_of_same s1 hdn
      refine ⟨_, rfl, _, rfl, x, CUnits, dx, [], rfl, hx9, Es.cl, Es.nT, (by show 0 < 1000; decide), ?_⟩
      have kx : ∀ (HH : Hp) (fs : List (Str × V)) b o, b ≠ x → HH b = some o → upd HH x (.ins CUnits dx fs) b = some o := fun HH fs b o n h => by rw [upd_ne n]; exact h
      have hxF : upd H' x (.ins CUnits dx (putF "text" (V.str (S (txtU B its e))) [])) x = some (.ins CUnits dx [("text", V.str (S (txtU B its e)))]) := upd_same
      have kF := kx H' (putF "text" (V.str (S (txtU B its e))) [])
      generalize upd H' x (.ins CUnits dx (putF "text" (V.str (S (txtU B its e))) [])) = HF at hxF kF ⊢
      refine ⟨_, rfl, _, rfl, x, CUnits, dx, _, rfl, hxF, Es.cl, Es.nB, (by show 1 < 1000; decide), ?_⟩
      have hxG : upd HF x (.ins CUnits dx (putF "base" (V.ref bt) [("text", V.str (S (txtU B its e)))])) x = some (.ins CUnits dx [("text", V.str (S (txtU B its e))), ("base", .ref bt)]) := upd_same
      have kG : ∀ b o, b ≠ x → H' b = some o → upd HF x (.ins CUnits dx (putF "base" (V.ref bt) [("text", V.str (S (txtU B its e)))])) b = some o := fun b o n h => kx HF _ b o n (kF b o n h)
      generalize upd HF x (.ins CUnits dx (putF "base" (V.ref bt) [("text", V.str (S (txtU B its e)))])) = HG at hxG kG ⊢
      clear hxF kF
      have Dx : D ≠ x := fun z => by rw [z, hx8] at hD8; cases hD8
      have btx : bt ≠ x := fun z => by rw [z, hx8] at hT8; cases hT8
      have prG : Paired (fun a L => TxL HG a L) as1 (its.map Item.words) := paired_imp (fun a L z => by
        refine kG _ _ ?_ (k9 _ _ ?_ ?_ z)
        · intro w; unfold TxL at z; rw [w, hx8] at z; cases z
        · intro w; obtain ⟨kk, hk, _⟩ := m8; unfold TxL at z; rw [w, hk] at z; cases z
        · intro w; unfold TxL at z; rw [w, hS8] at z; cases z) pr8
      have hDG := kG _ _ Dx hD9
      have hTG := kG _ _ btx hT9
      refine ⟨_, rfl, _, rfl, _, rfl, D, _, rfl, SqL.of hDG, fun l3 hl3 => ?_⟩
      rw [show cutV (V.ref a1 :: as1.map V.ref) (some 1) none = as1.map V.ref from cutV_from 1]
      have nH := AL.Same.new (o := .lst (as1.map V.ref)) hl3
      have hLH : upd HG l3 (.lst (as1.map V.ref)) l3 = some (.lst (as1.map V.ref)) := upd_same
      have prH : Paired (fun a L => TxL (upd HG l3 (.lst (as1.map V.ref))) a L) as1 (its.map Item.words) := paired_imp (fun _ _ z => TxL.same nH z) prG
      have hxH := nH _ _ hxG
      have hTH := nH _ _ hTG
      have kH : ∀ b o, b ≠ x → H' b = some o → upd HG l3 (.lst (as1.map V.ref)) b = some o := fun b o n h => nH _ _ (kG b o n h)
      generalize upd HG l3 (.lst (as1.map V.ref)) = HI at hLH prH hxH hTH kH ⊢
      clear nH prG hDG hTG hl3 hxG kG
      refine ⟨l3, rfl, ⟨_, SqL.of hLH⟩, fun D2 hD2 => ?_⟩
      refine lc_list (K := K) (a := l3) (xs := as1.map V.ref) (fun i H' => Same HI H' ∧ H' D2 = some (.lst (((its.map Item.nm).take i).map vS))) ⟨AL.Same.new hD2, upd_same⟩ (fun i H' _ hh => SqL.of (hh.1 _ _ hLH)) ?_ ?_
      · rintro i y HJ hy ⟨sJ, hDJ⟩
        obtain ⟨aw, haw, rfl⟩ : ∃ aw, as1[i]? = some aw ∧ y = .ref aw := by
          rw [List.getElem?_map] at hy
          cases e : as1[i]? with
          | none => rw [e] at hy; cases hy
          | some a => rw [e] at hy; exact ⟨a, rfl, (Option.some.inj hy).symm⟩
        obtain ⟨W, hW, tw⟩ := prd_ix prH haw
        obtain ⟨it, hit, rfl⟩ : ∃ it, its[i]? = some it ∧ W = it.words := by
          rw [List.getElem?_map] at hW
          cases e : its[i]? with
          | none => rw [e] at hW; cases hW
          | some a => rw [e] at hW; exact ⟨a, rfl, (Option.some.inj hW).symm⟩
        have w1 : (it.words.map vS)[1]? = some (vS it.nm) := by cases it <;> rfl
        have twJ : HJ aw = some (.lst (it.words.map vS)) := sJ _ _ tw
        refine ⟨rfl, ?_⟩
        refine ⟨_, rfl, aw, _, 1, _, rfl, rfl, SqL.of twJ, atI_nat (j := 1) w1, _, hDJ, ?_, AL.Same.updn sJ hD2, ?_⟩
        · have il := (List.getElem?_eq_some_iff.mp hit).1
          rw [List.length_map, List.length_take, List.length_map]
          exact Nat.lt_of_le_of_lt (by omega : _ ≤ 100) (by decide)
        · rw [upd_same]
          have e3 : (its.map Item.nm)[i]? = some it.nm := by rw [List.getElem?_map, hit]; rfl
          rw [take_map_snoc vS e3]
      rintro HJ ⟨sJ, hDJ⟩
      rw [List.length_map, las, show its.length = (its.map Item.nm).length by rw [List.length_map], List.take_length] at hDJ
      have hxJ := sJ _ _ hxH
      have hTJ := sJ _ _ hTH
      have kJ : ∀ b o, b ≠ x → H' b = some o → HJ b = some o := fun b o n h => sJ _ _ (kH b o n h)
      refine ⟨D2, _, rfl, .inl ⟨SqL.of hDJ, fun nt hnt => ?_⟩⟩
      have nK := AL.Same.new (o := .tup ((its.map Item.nm).map vS)) hnt
      refine catT_one (nK _ _ hTJ) upd_same (fun z => hne (List.map_eq_nil_iff.mp z)) ?_ fun na HL sL hN => ?_
      · rw [List.length_map, List.length_map, List.length_map]
        exact Nat.le_trans (by omega : _ ≤ 100) (by decide)
      rw [← List.map_append] at hN
      have sJL := nK.trans sL
      have hxL := sJL _ _ hxJ
      have hTL := sJL _ _ hTJ
      have kL : ∀ b o, b ≠ x → H' b = some o → HL b = some o := fun b o n h => sJL _ _ (kJ b o n h)
      have nx : na ≠ x := fun z => by rw [z, hxL] at hN; cases hN
      refine ⟨_, rfl, x, CUnits, dx, _, rfl, hxL, Es.cl, Es.nN, (by show 2 < 1000; decide), ?_⟩
      have hxM : upd HL x (.ins CUnits dx (putF "names" (V.ref na) [("text", V.str (S (txtU B its e))), ("base", .ref bt)])) x = some (.ins CUnits dx [("text", V.str (S (txtU B its e))), ("base", .ref bt), ("names", .ref na)]) := upd_same
      have kM := kx HL (putF "names" (V.ref na) [("text", V.str (S (txtU B its e))), ("base", .ref bt)])
      generalize upd HL x (.ins CUnits dx (putF "names" (V.ref na) [("text", V.str (S (txtU B its e))), ("base", .ref bt)])) = HM at hxM kM ⊢
      refine ⟨_, rfl, _, rfl, x, CUnits, dx, _, rfl, hxM, Es.cl, Es.nM, (by show 3 < 1000; decide), ?_⟩
      have hxN : upd HM x (.ins CUnits dx (putF "measures" (V.ref d) [("text", V.str (S (txtU B its e))), ("base", .ref bt), ("names", .ref na)])) x = some (.ins CUnits dx [("text", V.str (S (txtU B its e))), ("base", .ref bt), ("names", .ref na), ("measures", .ref d)]) := upd_same
      have kN := kx HM (putF "measures" (V.ref d) [("text", V.str (S (txtU B its e))), ("base", .ref bt), ("names", .ref na)])
      generalize upd HM x (.ins CUnits dx (putF "measures" (V.ref d) [("text", V.str (S (txtU B its e))), ("base", .ref bt), ("names", .ref na)])) = HN at hxN kN ⊢
      refine ⟨_, rfl, _, rfl, x, CUnits, dx, _, rfl, hxN, Es.cl, Es.nS, (by show 4 < 1000; decide), ?_⟩
      have kO := kx HN (putF "scales" (V.ref sc) [("text", V.str (S (txtU B its e))), ("base", .ref bt), ("names", .ref na), ("measures", .ref d)])
      have kLO : ∀ b o, b ≠ x → HL b = some o → _ := fun b o n h => kO b o n (kN b o n (kM b o n h))
      refine q _ (fun b o n h => kLO b o n (kL b o n (k9 b o ?_ ?_ (s18 _ _ h)))) ⟨dx, bt, na, d, sc, upd_same, kLO _ _ btx hTL, kLO _ _ nx hN, ?_⟩
      · intro z; rw [z, hdn0] at h; cases h
      · intro z; rw [z, hsn] at h; cases h
      · exact m9.tu (fun o h => kLO _ _ (Ne.symm xd) (kL _ _ (Ne.symm xd) h)) fun b ys h => by
          have n : b ≠ x := fun z => by rw [z, hx9] at h; cases h
          exact kLO _ _ n (kL _ _ n h)
end
end AL
set_option Elab.async false
set_option maxRecDepth 100000
set_option exponentiation.threshold 70000
set_option maxHeartbeats 1000000
namespace AL
open PySem PySem.Spec PyProof.Rows L2 RZ
section
variable {P : Program} {w : World} {K : PySem.W.Frag} {mg : Str → Option Value} {base : Heap}

def d3 (k : Nat) : List Nat := [48 + (100 + k) / 100, 48 + (100 + k) / 10 % 10, 48 + (100 + k) % 10]
theorem d3_all : ∀ n : Fin 100, (Str.ofString (toString (100 + (n.val : Int))) : Str).cps.toList = d3 n.val := by decide +kernel
theorem d3_str {k : Nat} (h : k < 100) : (Str.ofString (toString (100 + (k : Int))) : Str) = S (d3 k) := by
  have e := d3_all ⟨k, h⟩
  show _ = (⟨(d3 k).toArray⟩ : Str)
  rw [← e]
theorem d3_inj {a b : Nat} (h : d3 a = d3 b) (ha : a < 100) (hb : b < 100) : a = b := by
  unfold d3 at h
  injection h with h1 h2
  injection h2 with h2 h3
  injection h3 with h3 _
  omega
theorem d3_ld {k : Nat} (h : k < 100) : (d3 k).all isLD = true := by
  have isd : ∀ x, 48 ≤ x → x ≤ 57 → isLD x = true := fun x a b => by
    unfold isLD isD; simp only [Bool.or_eq_true, Bool.and_eq_true, decide_eq_true_eq]; omega
  unfold d3
  simp only [List.all_cons, List.all_nil, Bool.and_true, Bool.and_eq_true]
  exact ⟨isd _ (by omega) (by omega), isd _ (by omega) (by omega), isd _ (by omega) (by omega)⟩
def nmS (n0 : List Nat) : Nat → List Nat
  | 0 => n0
  | k + 1 => (nmS n0 k).take 8 ++ d3 k
theorem nmS_len {n0 : List Nat} (h8 : n0.length ≤ 8) : ∀ k, n0.length ≤ (nmS n0 k).length ∧ (nmS n0 k).length ≤ 11 ∧ (0 < k → n0.length + 3 ≤ (nmS n0 k).length)
  | 0 => ⟨Nat.le_refl _, by show n0.length ≤ 11; omega, fun z => absurd z (by decide)⟩
  | k + 1 => by
    have ih := nmS_len h8 k
    have e : (nmS n0 (k + 1)).length = min 8 (nmS n0 k).length + 3 := by
      show ((nmS n0 k).take 8 ++ d3 k).length = _
      rw [List.length_append, List.length_take]; rfl
    rw [e]
    omega
theorem nmS_inj {n0 : List Nat} (h8 : n0.length ≤ 8) : ∀ {i j : Nat}, i ≤ 100 → j ≤ 100 → nmS n0 i = nmS n0 j → i = j
  | 0, 0, _, _, _ => rfl
  | 0, j + 1, _, _, h => by
    have := (nmS_len h8 (j + 1)).2.2 (by omega)
    rw [← h] at this
    have e : (nmS n0 0).length = n0.length := rfl
    omega
  | i + 1, 0, _, _, h => by
    have := (nmS_len h8 (i + 1)).2.2 (by omega)
    rw [h] at this
    have e : (nmS n0 0).length = n0.length := rfl
    omega
  | i + 1, j + 1, hi, hj, h => by
    have z : (nmS n0 i).take 8 ++ d3 i = (nmS n0 j).take 8 ++ d3 j := h
    have := (List.append_inj' z rfl).2
    rw [d3_inj this (by omega) (by omega)]
theorem nmS_ok {n0 : List Nat} (h : nmOk n0 = true) (h8 : n0.length ≤ 8) : ∀ k, k ≤ 100 → nmOk (nmS n0 k) = true
  | 0, _ => h
  | k + 1, hk => by
    have ih := nmS_ok h h8 k (by omega)
    have l := (nmS_len h8 (k + 1)).2.1
    have f := nm_fst ih
    have a := nm_all ih
    have e : nmS n0 (k + 1) = (nmS n0 k).take 8 ++ d3 k := rfl
    unfold nmOk
    rw [decide_eq_true (by omega), Bool.true_and, Bool.and_eq_true]
    rw [e]
    constructor
    · cases n : nmS n0 k with
      | nil => rw [n] at f; cases f
      | cons x r => rw [n] at f; exact f
    · rw [List.all_append, Bool.and_eq_true]
      exact ⟨List.all_eq_true.mpr fun c hc => List.all_eq_true.mp a c (List.mem_of_mem_take hc), d3_ld (by omega)⟩
theorem pigeon {α : Type} [DecidableEq α] : ∀ {M L : List α}, M.Nodup → (∀ x ∈ M, x ∈ L) → M.length ≤ L.length
  | [], _, _, _ => Nat.zero_le _
  | x :: M, L, nd, h => by
    have hx := h x (List.mem_cons_self ..)
    have nd' := List.nodup_cons.mp nd
    have := pigeon (L := L.erase x) nd'.2 fun y hy => (List.mem_erase_of_ne (fun z => nd'.1 (by rw [← z]; exact hy))).mpr (h y (List.mem_cons_of_mem _ hy))
    rw [List.length_erase_of_mem hx] at this
    have := List.length_pos_of_mem hx
    rw [List.length_cons]; omega
theorem nmS_free {n0 : List Nat} {U : List (List Nat)} (h8 : n0.length ≤ 8) (hU : U.length ≤ 99) (h : ∀ k, k < U.length + 1 → nmS n0 k ∈ U) : False := by
  have nd : ((List.range (U.length + 1)).map (nmS n0)).Nodup := by
    rw [List.nodup_iff_pairwise_ne, List.pairwise_map]
    refine List.Pairwise.imp_of_mem ?_ List.nodup_range
    intro a b ha hb ne e
    have := List.mem_range.mp ha
    have := List.mem_range.mp hb
    exact ne (nmS_inj h8 (by omega) (by omega) e)
  have := pigeon nd fun x hx => by
    obtain ⟨k, hk, rfl⟩ := List.mem_map.mp hx
    exact h k (List.mem_range.mp hk)
  rw [List.length_map, List.length_range] at this
  omega
def sgns : List Nat := (List.range 26).map (· + 97) ++ (List.range 10).map (· + 48)
theorem sgnS : ("abcdefghijklmnopqrstuvwxyz0123456789" : Str) = S sgns := by kernel_rfl
theorem sgn_get : ∀ i : Fin 36, ∃ c, sgns[i.val]? = some c ∧ isLD c = true ∧ (i.val < 26 → isL c = true) := by decide +kernel
/-- _law_name(pen, used) -/
def spNa : Sp := fun vs H Q _ => ∃ (p c a : Addr) (m : Nat) (U : List (List Nat)), vs = [.ref p, .ref a] ∧ Pen H p c m ∧ m < 900000000 ∧ TxL H a U ∧ U.length ≤ 50 ∧ a ≠ c ∧
  ∀ l H', nmOk l = true → l ∉ U → Pen H' p c (m + 20) → (∀ b o, b ≠ p → b ≠ a → H b = some o → H' b = some o) → TxL H' a (U ++ [l]) → Q (.str (S l)) H'
/-- _law_names(pen, many) -/
def spNs : Sp := fun vs H Q _ => ∃ (p c : Addr) (m n : Nat), vs = [.ref p, .int (n : Int)] ∧ Pen H p c m ∧ m < 800000000 ∧ n ≤ 6 ∧
  ∀ b H' B, Pen H' p c (m + 200) → Keep p H H' → TxL H' b B → B.length = n → (∀ l ∈ B, nmOk l = true) → B.Nodup → Q (.ref b) H'

abbrev st_law_name : Stmt := top 56
theorem sc_law_name : FnScope ["_law_pen_here", "_law_used", "_law_signs", "_law_name_here", "_law_k"] ["_law_pen_here", "_law_used"] (defScope st_law_name) := ⟨rfl, rfl, rfl, by decide +kernel, rfl, by decide +kernel, by decide +kernel⟩
theorem ok_law_name (B : Blt mg) {CUnits : Addr} (Es : ErU K mg CUnits) {f_law_draw : Addr} {fd_law_draw : FuncData} (D_law_draw : DefAt K mg "_law_draw" st_law_draw ["_law_pen_here", "_law_many"] f_law_draw fd_law_draw) {f_law_pick : Addr} {fd_law_pick : FuncData} (D_law_pick : DefAt K mg "_law_pick" st_law_pick ["_law_pen_here", "_law_some"] f_law_pick fd_law_pick) {f_law_name : Addr} {fd_law_name : FuncData} (D_law_name : DefAt K mg "_law_name" st_law_name ["_law_pen_here", "_law_used"] f_law_name fd_law_name) : FnOk P w K mg base CX0 3 f_law_name fd_law_name ["_law_pen_here", "_law_used"] spNa := by
  obtain ⟨uD, hD, rD⟩ := Es.dig
  obtain ⟨uM, hM, rM⟩ := Es.most
  obtain ⟨uL, hL, rL⟩ := Es.lett
  obtain ⟨uN, hN, rN⟩ := Es.long
  obtain ⟨uB, hB, rB⟩ := Es.most6
  have OK_law_draw : FnOk P w K mg base CX0 1 f_law_draw fd_law_draw ["_law_pen_here", "_law_many"] spDraw := ok_law_draw B  D_law_draw
  have OK_law_pick : FnOk P w K mg base CX0 2 f_law_pick fd_law_pick ["_law_pen_here", "_law_some"] (spPick K) := ok_law_pick B  D_law_draw D_law_pick
  refine D_law_name.F.ok sc_law_name (fun vs H Q E h => ?_) (fun cdv A outer s H vs Q E hr h => ?_)
  · obtain ⟨p, c, a, m, U, rfl, _⟩ := h; rfl
  · have hu := hu_of hr
    refine ⟨_, (pss_cons (ps_set (i := 2) sc_law_name.nd rfl (Or.inl rfl) pe_str)
    (pss_cons (ps_set (i := 3) sc_law_name.nd rfl (Or.inl rfl) (pe_ix ix_str (pv 2) (pe_call OK_law_draw (hr.mono (by decide)) rfl D_law_draw.m D_law_draw.F.kp D_law_draw.b .nil pass0 (pa_cons (pv 0) (pa_cons pe_int pa_nil))) (fun _ _ => rfl)))
    (Evl.pss_cut (ps_for PassesOwn.never rfl (pi_range1 rfl B.range_ (pa_cons (pe_call OK_law_pick (hr.mono (by decide)) rfl D_law_pick.m D_law_pick.F.kp D_law_pick.b .nil pass0 (pa_cons (pv 0) (pa_cons (pe_lst (pa_cons pe_int (pa_cons pe_int (pa_cons pe_int (pa_cons pe_int (pa_cons pe_int (pa_cons pe_int pa_nil))))))) pa_nil))) pa_nil)) (pg_name (i := 4) sc_law_name.nd rfl (Or.inl rfl))
      (pss_one (ps_set (i := 3) sc_law_name.nd rfl (Or.inl rfl) (pe_op op_add_str (pv 3) (pe_ix ix_str (pv 2) (pe_call OK_law_draw (hr.mono (by decide)) rfl D_law_draw.m D_law_draw.F.kp D_law_draw.b .nil pass0 (pa_cons (pv 0) (pa_cons pe_int pa_nil))) (fun _ _ => rfl))))))
    (Evl.pss_cut (ps_for PassesOwn.never rfl (pi_range1 rfl B.range_ (pa_cons (pe_op op_add (pe_callB call_len_seq (by rfl) B.len_ (by decide +kernel) (pa_cons (pv 1) pa_nil)) pe_int) pa_nil)) (pg_name (i := 4) sc_law_name.nd rfl (Or.inl rfl))
      (pss_cons (ps_if (pt_cmpR op_notIn_seq (pv 3) (pv 1) rfl) (pss_one ps_break) pss_nil)
    (pss_one (ps_set (i := 3) sc_law_name.nd rfl (Or.inl rfl) (pe_op op_add_str (pe_slice sl_str (pv 3) po_none (po_some pe_int)) (pe_callTy (call_str_intL hr.hd Es.nodig) (by rfl) B.str_ (by decide +kernel) (pa_cons (pe_op op_add pe_int (pv 4)) pa_nil)))))))
    (pss_cons (ps_expr (pe_bm PySem.F.plainAttrs_list PySem.F.slot_list_append PySem.F.type_list_append mt_append (pv 1) (pa_cons (pv 3) pa_nil)))
    (pss_one (ps_ret (pv 3)))))))), ?_⟩
    obtain ⟨p, c, a, m, U, rfl, P, hm, hU, hle, hac, q⟩ := h
    have hap : a ≠ p := fun z => by obtain ⟨kk, hk⟩ := P.dict; unfold TxL at hU; rw [z, hk] at hU; cases hU
    have sl : (S sgns).length ≤ sizeLine := by rw [S_len]; exact Nat.le_trans (by decide : sgns.length ≤ 100) (by decide)
    refine ⟨_, rfl, ?_⟩
    refine ⟨_, rfl, p, c, m, 26, rfl, P, by omega, by decide, by decide, fun r H1 r0 r1 P1 k1 => ?_⟩
    obtain ⟨r, rfl⟩ := Int.eq_ofNat_of_zero_le r0
    obtain ⟨c0, g0, g1, g2⟩ := sgn_get ⟨r, by omega⟩
    have g2 := g2 (by show r < 26; omega)
    rw [sgnS]
    refine ⟨_, _, c0, rfl, rfl, sl, atI_nat (j := r) (by rw [S_tl]; exact g0), ?_⟩
    refine ⟨fun σ' H' => ∃ (n0 : List Nat) (v4 : Option V), σ' = [some (.ref p), some (.ref a), some (.str (S sgns)), some (.str (S n0)), v4] ∧ nmOk n0 = true ∧ n0.length ≤ 8 ∧ Pen H' p c (m + 12) ∧ Keep p H H', ?_, ?_⟩
    · refine ⟨_, rfl, (by show 6 ≤ sizeLine; decide), fun l hl => ?_⟩
      have n1 := AL.Same.new (o := .lst [.int 0, .int 0, .int 1, .int 2, .int 4, .int 7]) hl
      refine ⟨p, c, l, m + 1, _, rfl, P1.same n1, by omega, SqL.of upd_same, (by show 0 < 6; decide), (by show 6 < 1000000000; decide), fun j x H2 hx P2 k2 => ?_⟩
      obtain ⟨t, rfl, ht⟩ : ∃ t : Nat, x = V.int (t : Int) ∧ t ≤ 7 := by
        refine pick_of (P := fun x => ∃ t : Nat, x = V.int (t : Int) ∧ t ≤ 7) (fun y hy => ?_) hx
        simp only [List.mem_cons, List.not_mem_nil, or_false] at hy
        rcases hy with rfl | rfl | rfl | rfl | rfl | rfl
        · exact ⟨0, rfl, by decide⟩
        · exact ⟨0, rfl, by decide⟩
        · exact ⟨1, rfl, by decide⟩
        · exact ⟨2, rfl, by decide⟩
        · exact ⟨4, rfl, by decide⟩
        · exact ⟨7, rfl, by decide⟩
      have kk2 : Keep p H H2 := (k1.trans (Same.k n1)).trans k2
      refine ⟨_, rfl, by omega, by omega, for_range (lo := 0) (n := ((t : Int)).toNat) (fun i σ H' => ∃ (l : List Nat) (v4 : Option V), σ = [some (.ref p), some (.ref a), some (.str (S sgns)), some (.str (S l)), v4] ∧ fstL l = true ∧ l.all isLD = true ∧ l.length ≤ 1 + i ∧ Pen H' p c (m + 2 + i) ∧ Keep p H H') ⟨[c0], none, rfl, g2, by simp [g1], Nat.le_refl _, P2, kk2⟩ ?_ ?_⟩
      · rintro i σ H3 hi ⟨l0, v4, rfl, f1, f2, f3, P3, k3⟩
        have hi' : i < t := by omega
        refine ⟨_, rfl, _, rfl, _, rfl, p, c, m + 2 + i, 36, rfl, P3, by omega, by decide, by decide, fun r H4 r0 r1 P4 k4 => ?_⟩
        obtain ⟨r, rfl⟩ := Int.eq_ofNat_of_zero_le r0
        obtain ⟨c1, e0, e1, _⟩ := sgn_get ⟨r, by omega⟩
        refine ⟨_, _, c1, rfl, rfl, sl, atI_nat (j := r) (by rw [S_tl]; exact e0), ?_⟩
        refine ⟨_, _, rfl, rfl, ?_, ?_⟩
        · rw [S_len, show (⟨#[c1]⟩ : Str) = S [c1] from rfl, S_len]
          exact Nat.le_trans (by show l0.length + 1 ≤ 100; omega) (by decide)
        · rw [show (⟨#[c1]⟩ : Str) = S [c1] from rfl, S_app]
          refine ⟨l0 ++ [c1], _, rfl, ?_, ?_, ?_, P4, k3.trans k4⟩
          · cases l0 with
            | nil => cases f1
            | cons y z => exact f1
          · rw [List.all_append, f2]; simp [e1]
          · rw [List.length_append]; simp only [List.length_singleton]; omega
      · rintro σ H3 ⟨l0, v4, rfl, f1, f2, f3, P3, k3⟩
        refine ⟨l0, v4, rfl, ?_, by omega, P3.mono (by omega), k3⟩
        unfold nmOk
        rw [decide_eq_true (by omega), f1, f2]; rfl
    rintro σ1 H2 ⟨n0, v4, rfl, ok0, l8, P2, k2⟩
    have hU2 : TxL H2 a U := k2 _ _ hap hU
    have mS : ∀ k, k ≤ 60 → (S (nmS n0 k)).length ≤ 12 := fun k hk => by rw [S_len]; have := (nmS_len l8 k).2.1; omega
    refine ⟨fun σ' H' => ∃ (l : List Nat) (v4 : Option V), σ' = [some (.ref p), some (.ref a), some (.str (S sgns)), some (.str (S l)), v4] ∧ nmOk l = true ∧ l ∉ U ∧ H' = H2, ?_, ?_⟩
    · refine ⟨_, rfl, a, _, rfl, .inl (SqL.of hU2), ?_⟩
      rw [List.length_map]
      refine ⟨_, _, rfl, rfl, ?_⟩
      refine ⟨_, rfl, by omega, by omega, for_range (lo := 0) (n := ((U.length : Int) + 1).toNat) (fun i σ H' => ∃ (v4 : Option V), σ = [some (.ref p), some (.ref a), some (.str (S sgns)), some (.str (S (nmS n0 i))), v4] ∧ (∀ k, k < i → nmS n0 k ∈ U) ∧ H' = H2) ⟨v4, rfl, fun k hk => absurd hk (by omega), rfl⟩ ?_ ?_⟩
      · rintro i σ H3 hi ⟨v4, rfl, hk, rfl⟩
        have hi' : i ≤ 50 := by omega
        refine ⟨_, rfl, _, rfl, a, _, rfl, .inl (SqL.of hU2), rfl, flat_txt _, _, rfl, ?_⟩
        rw [inV_txt]
        refine ite2 (fun h => ?_) (fun h => ?_)
        · refine ⟨_, _, rfl, nmS_ok ok0 l8 i (by omega), ?_, rfl⟩
          simpa using h
        · have hin : nmS n0 i ∈ U := by simpa using h
          have a1 := mS i (by omega)
          refine ⟨_, rfl, _, rfl, _, rfl, Nat.le_trans a1 (by decide), _, rfl, _, _, rfl, rfl, ?_⟩
          dsimp only
          rw [show (100 + (0 + (i : Int))) = 100 + (i : Int) by omega]
          refine ⟨_, rfl, Nat.lt_of_lt_of_le (by omega : (100 + (i : Int)).natAbs < 10 ^ 3) (Nat.pow_le_pow_right (by decide) (by decide)), ?_⟩
          have ce : cutS (S (nmS n0 i)) none (some 8) = S ((nmS n0 i).take 8) := cut_to _ 8
          rw [ce, d3_str (by omega)]
          refine ⟨_, _, rfl, rfl, ?_, ?_⟩
          · rw [S_len, S_len, List.length_take]
            exact Nat.le_trans (by show _ + 3 ≤ 100; omega) (by decide)
          rw [S_app]
          refine ⟨_, rfl, fun k hk2 => ?_, rfl⟩
          rcases Nat.lt_or_ge k i with w | w
          · exact hk k w
          · rw [show k = i by omega]; exact hin
      · rintro σ H3 ⟨v4, rfl, hk, rfl⟩
        rw [show ((U.length : Int) + 1).toNat = U.length + 1 by omega] at hk
        exact (nmS_free l8 (by omega) hk).elim
    rintro σ1 H3 ⟨l, v4, rfl, okl, hl, rfl⟩
    have hpc : p ≠ a := Ne.symm hap
    refine ⟨_, rfl, .inl ⟨rfl, _, SqL.of hU2⟩, ?_⟩
    refine ⟨_, rfl, a, _, _, rfl, rfl, hU2, ?_, ?_⟩
    · rw [List.length_map]; exact Nat.lt_of_le_of_lt (by omega : _ ≤ 100) (by decide)
    refine ⟨_, rfl, ?_⟩
    refine q l _ okl hl ((P2.keep (fun o h => by rw [upd_ne hpc]; exact h) fun o h => by rw [upd_ne (Ne.symm hac)]; exact h).mono (by omega)) (fun b o n1 n2 h => by rw [upd_ne n2]; exact k2 b o n1 h) ?_
    unfold TxL
    rw [upd_same, List.map_append]; rfl
abbrev st_law_names : Stmt := top 57
theorem sc_law_names : FnScope ["_law_pen_here", "_law_many", "_law_used", "_law_k"] ["_law_pen_here", "_law_many"] (defScope st_law_names) := ⟨rfl, rfl, rfl, by decide +kernel, rfl, by decide +kernel, by decide +kernel⟩
theorem ok_law_names (B : Blt mg) {CUnits : Addr} (Es : ErU K mg CUnits) {f_law_draw : Addr} {fd_law_draw : FuncData} (D_law_draw : DefAt K mg "_law_draw" st_law_draw ["_law_pen_here", "_law_many"] f_law_draw fd_law_draw) {f_law_pick : Addr} {fd_law_pick : FuncData} (D_law_pick : DefAt K mg "_law_pick" st_law_pick ["_law_pen_here", "_law_some"] f_law_pick fd_law_pick) {f_law_name : Addr} {fd_law_name : FuncData} (D_law_name : DefAt K mg "_law_name" st_law_name ["_law_pen_here", "_law_used"] f_law_name fd_law_name) {f_law_names : Addr} {fd_law_names : FuncData} (D_law_names : DefAt K mg "_law_names" st_law_names ["_law_pen_here", "_law_many"] f_law_names fd_law_names) : FnOk P w K mg base CX0 4 f_law_names fd_law_names ["_law_pen_here", "_law_many"] spNs := by
  obtain ⟨uD, hD, rD⟩ := Es.dig
  obtain ⟨uM, hM, rM⟩ := Es.most
  obtain ⟨uL, hL, rL⟩ := Es.lett
  obtain ⟨uN, hN, rN⟩ := Es.long
  obtain ⟨uB, hB, rB⟩ := Es.most6
  have OK_law_name : FnOk P w K mg base CX0 3 f_law_name fd_law_name ["_law_pen_here", "_law_used"] spNa := ok_law_name B Es D_law_draw D_law_pick D_law_name
  refine D_law_names.F.ok sc_law_names (fun vs H Q E h => ?_) (fun cdv A outer s H vs Q E hr h => ?_)
  · obtain ⟨p, c, m, n, rfl, _⟩ := h; rfl
  · have hu := hu_of hr
    refine ⟨_, (pss_cons (ps_set (i := 2) sc_law_names.nd rfl (Or.inr rfl) (pe_lst pa_nil))
    (pss_one (ps_ret (pe_lc (own := [("_law_k", 3)]) (g := gName 3) (tt := tYes) rfl sc_law_names.nd (pi_range1 rfl B.range_ (pa_cons (pv 1) pa_nil)) (blkOk_by (own := [("_law_k", 3)]) (N := ["_law_pen_here", "_law_many", "_law_used", "_law_k"]) (sc := defScope st_law_names) (by decide +kernel)) (fun _ _ _ _ _ => pg_name (i := 3) sc_law_names.nd rfl (Or.inl rfl)) (fun _ _ _ _ _ => pts_nil) (fun _ _ _ _ _ => (pe_call OK_law_name (hr.mono (by decide)) rfl D_law_name.m D_law_name.F.kp D_law_name.b .nil pass0 (pa_cons (pv 0) (pa_cons (pv 2) pa_nil)))))))), ?_⟩
    obtain ⟨p, c, m, n, rfl, P, hm, hn, q⟩ := h
    refine ⟨(by show 0 ≤ sizeLine; decide), fun a ha => ?_⟩
    have n0 := AL.Same.new (o := .lst []) ha
    have ha0 : upd H a (.lst []) a = some (.lst []) := upd_same
    have P0 := P.same n0
    have hac : a ≠ c := fun z => by obtain ⟨ns, _, _, _, _, _, hc, _⟩ := P.ex; rw [← z, ha] at hc; cases hc
    have hap : a ≠ p := fun z => by obtain ⟨kk, hk⟩ := P.dict; rw [← z, ha] at hk; cases hk
    have hcp : c ≠ p := fun z => by obtain ⟨ns, _, _, _, _, h1, hc, _⟩ := P.ex; rw [z, h1] at hc; cases hc
    generalize upd H a (.lst []) = H0 at n0 ha0 P0 ⊢
    refine ⟨_, rfl, _, rfl, by omega, by omega, fun D hD => ?_⟩
    have hDp : D ≠ p := fun z => by obtain ⟨kk, hk⟩ := P0.dict; rw [← z, hD] at hk; cases hk
    have hDc : D ≠ c := fun z => by obtain ⟨ns, _, _, _, _, _, hc, _⟩ := P0.ex; rw [← z, hD] at hc; cases hc
    have hDa : D ≠ a := fun z => by rw [z, ha0] at hD; cases hD
    refine lc_it (walk_range (lo := 0) (n := ((n : Int)).toNat)) (fun i H' => ∃ U : List (List Nat), U.length = i ∧ (∀ l ∈ U, nmOk l = true) ∧ U.Nodup ∧ TxL H' a U ∧ TxL H' D U ∧ Pen H' p c (m + 20 * i) ∧ Keep p H H') ⟨[], rfl, fun _ h => (nomatch h), List.nodup_nil, ?_, ?_, ?_, ?_⟩ (fun _ _ _ _ => trivial) ?_ ?_
    · unfold TxL; rw [upd_ne (Ne.symm hDa)]; exact ha0
    · exact upd_same
    · exact P0.same (AL.Same.new hD)
    · exact Same.k (n0.trans (AL.Same.new hD))
    · rintro i x H1 H1' hi ⟨U, lU, okU, ndU, hU, hDU, P1, k1⟩ ⟨rfl, rfl⟩
      refine ⟨rfl, ?_⟩
      refine ⟨_, rfl, _, rfl, p, c, a, m + 20 * i, U, rfl, P1, by omega, hU, by omega, hac, fun l H2 okl hl P2 k2 hU2 => ?_⟩
      have hD2 := k2 _ _ hDp hDa hDU
      refine ⟨_, hD2, ?_, U ++ [l], by rw [List.length_append, lU]; rfl, ?_, ?_, ?_, ?_, ?_, ?_⟩
      · rw [List.length_map]; exact Nat.lt_of_le_of_lt (by omega : _ ≤ 100) (by decide)
      · intro x hx
        rcases List.mem_append.mp hx with h | h
        · exact okU x h
        · rw [List.mem_singleton.mp h]; exact okl
      · refine List.nodup_append.mpr ⟨ndU, List.nodup_cons.mpr ⟨by simp, List.nodup_nil⟩, fun x hx y hy e => ?_⟩
        rw [List.mem_singleton.mp hy] at e
        exact hl (e ▸ hx)
      · unfold TxL; rw [upd_ne (Ne.symm hDa)]; exact hU2
      · unfold TxL; rw [upd_same, List.map_append]; rfl
      · exact (P2.keep (fun o h => by rw [upd_ne (Ne.symm hDp)]; exact h) fun o h => by rw [upd_ne (Ne.symm hDc)]; exact h).mono (by omega)
      · intro b o nb h
        have h1 := k1 b o nb h
        have nba : b ≠ a := fun z => by rw [z, ha] at h; cases h
        have nbD : b ≠ D := fun z => by rw [z] at h; rw [n0 _ _ h] at hD; cases hD
        rw [upd_ne nbD]; exact k2 b o nb nba h1
    rintro H1 ⟨U, lU, okU, ndU, hU, hDU, P1, k1⟩
    exact q D H1 U (P1.mono (by omega)) k1 hDU (by omega) okU ndU
end
end AL
set_option Elab.async false
set_option maxRecDepth 100000
set_option exponentiation.threshold 70000
set_option maxHeartbeats 1000000
namespace AL
open PySem PySem.Spec PyProof.Rows L2 RZ
section
variable {P : Program} {w : World} {K : PySem.W.Frag} {mg : Str → Option Value} {base : Heap}

/-- what the law knows of a name -/
structure Kn where
  nm : List Nat
  row : List Int
  sz : Rat
  sh : Rat
  sc : Bool
def KnV (H : Hp) (v : V) (e : Kn) : Prop := ∃ t r s f : Addr, v = .ref t ∧ H t = some (.tup [.ref r, .ref s, .ref f, .bl e.sc]) ∧ H r = some (.tup (e.row.map V.int)) ∧ RQ H s e.sz ∧ RQ H f e.sh
abbrev KnR (H : Hp) (kv : Key × V) (e : Kn) : Prop := kv.1 = kS e.nm ∧ KnV H kv.2 e
def KnAt (H : Hp) (d : Addr) (es : List Kn) : Prop := ∃ kvs, H d = some (.dK kvs) ∧ Paired (KnR H) kvs es
def knOf (es : List Kn) (l : List Nat) : Option Kn := es.find? fun e => decide (e.nm = l)
theorem KnV.tu {H H' : Hp} {v : V} {e : Kn} (h : KnV H v e) (keep : ∀ b ys, H b = some (.tup ys) → H' b = some (.tup ys)) : KnV H' v e := by
  obtain ⟨t, r, s, f, e, k1, k2, k3, k4⟩ := h
  exact ⟨t, r, s, f, e, keep _ _ k1, keep _ _ k2, keep _ _ k3, keep _ _ k4⟩
theorem KnAt.tu {H H' : Hp} {d : Addr} {es : List Kn} (h : KnAt H d es) (hd : ∀ o, H d = some o → H' d = some o) (keep : ∀ b ys, H b = some (.tup ys) → H' b = some (.tup ys)) : KnAt H' d es := by
  obtain ⟨kvs, h1, h2⟩ := h
  exact ⟨kvs, hd _ h1, paired_imp (fun kv m z => ⟨z.1, z.2.tu keep⟩) h2⟩
theorem KnAt.same {H H' : Hp} {d : Addr} {es : List Kn} (h : KnAt H d es) (s : Same H H') : KnAt H' d es := h.tu (fun o => s d o) fun b ys => s b _
theorem Keep.tu {p c : Addr} {m : Nat} {H H' : Hp} (k : Keep p H H') (P : Pen H p c m) : ∀ b ys, H b = some (.tup ys) → H' b = some (.tup ys) := fun b ys h => k.at P h (fun _ z => by cases z)
theorem kn_val {H : Hp} {l : List Nat} : ∀ {kvs : List (Key × V)} {es : List Kn}, Paired (KnR H) kvs es →
    (∀ e, knOf es l = some e → ∃ v, valV kvs (kS l) = some v ∧ KnV H v e) ∧ (knOf es l = none → valV kvs (kS l) = none)
  | _, _, .nil => ⟨fun m h => by simp [knOf] at h, fun _ => rfl⟩
  | _, _, .cons (a := kv) (b := m) h r => by
    have ih := kn_val (l := l) r
    unfold knOf valV at *
    rw [List.find?_cons, List.find?_cons]
    by_cases e : m.nm = l
    · have e2 : kv.1 = kS l := by rw [h.1, e]
      rw [decide_eq_true e, decide_eq_true e2]
      exact ⟨fun m' hm => ⟨kv.2, rfl, by cases hm; exact h.2⟩, fun hm => by cases hm⟩
    · have e2 : ¬ kv.1 = kS l := fun z => e (kS_inj.mp (h.1.symm.trans z))
      rw [decide_eq_false e, decide_eq_false e2]
      exact ih
theorem kn_get {H : Hp} {d : Addr} {kvs : List (Key × V)} {es : List Kn} {l : List Nat} {e : Kn} (hd : Rd H d (.dK kvs)) (pr : Paired (KnR H) kvs es) (h : knOf es l = some e) : ∃ v, DGet H d (.str (S l)) (some v) ∧ KnV H v e := by
  obtain ⟨v, hv, hm⟩ := (kn_val (l := l) pr).1 e h
  exact ⟨v, .inl ⟨kvs, kS l, hd, rfl, hv.symm⟩, hm⟩
theorem KnAt.get {H : Hp} {d : Addr} {es : List Kn} {l : List Nat} {e : Kn} (h : KnAt H d es) (he : knOf es l = some e) : ∃ v, DGet H d (.str (S l)) (some v) ∧ KnV H v e := by
  obtain ⟨kvs, h1, h2⟩ := h
  exact kn_get (.inl h1) h2 he
theorem knOf_at {es : List Kn} (nd : (es.map (·.nm)).Nodup) {e : Kn} (h : e ∈ es) : knOf es e.nm = some e := by
  induction es with
  | nil => cases h
  | cons x r ih =>
    unfold knOf
    rw [List.find?_cons]
    have nd' := List.nodup_cons.mp nd
    rcases List.mem_cons.mp h with rfl | h
    · rw [decide_eq_true rfl]
    · have ne : ¬ x.nm = e.nm := fun z => nd'.1 (List.mem_map.mpr ⟨e, h, z.symm⟩)
      rw [decide_eq_false ne]
      exact ih nd'.2 h
theorem knOf_nm {es : List Kn} {l : List Nat} {e : Kn} (h : knOf es l = some e) : e ∈ es ∧ e.nm = l := ⟨List.mem_of_find?_eq_some h, by have := List.find?_some h; exact of_decide_eq_true this⟩
theorem putK_new {k : Key} {v : V} {kvs : List (Key × V)} (h : ∀ kv ∈ kvs, kv.1 ≠ k) : putK kvs k v = kvs ++ [(k, v)] := by
  have an : (kvs.any fun kv => decide (kv.1 = k)) = false := List.any_eq_false.mpr fun kv m => by rw [decide_eq_true_eq]; exact h kv m
  unfold putK
  rw [if_neg (by rw [an]; decide)]
theorem paired_mem {α β : Type} {F : α → β → Prop} : ∀ {xs : List α} {ys : List β} {x : α}, Paired F xs ys → x ∈ xs → ∃ y ∈ ys, F x y
  | _, _, x, .cons (b := y) h r, m => by
    rcases List.mem_cons.mp m with rfl | m
    · exact ⟨y, List.mem_cons_self .., h⟩
    · obtain ⟨z, hz, f⟩ := paired_mem r m
      exact ⟨z, List.mem_cons_of_mem _ hz, f⟩
theorem KnAt.put {H H' : Hp} {d : Addr} {es : List Kn} {e : Kn} {v : V} {kvs : List (Key × V)} (pr : Paired (KnR H) kvs es) (new : ∀ x ∈ es, x.nm ≠ e.nm) (hv : KnV H v e)
    (keep : ∀ b ys, H b = some (.tup ys) → H' b = some (.tup ys)) (hd' : H' d = some (.dK (putK kvs (kS e.nm) v))) : KnAt H' d (es ++ [e]) := by
  rw [putK_new (fun kv m => by
    obtain ⟨x, hx, f⟩ := paired_mem pr m
    intro z
    exact new x hx (kS_inj.mp (f.1.symm.trans z)))] at hd'
  exact ⟨_, hd', paired_snoc (paired_imp (fun _ _ z => ⟨z.1, z.2.tu keep⟩) pr) ⟨rfl, hv.tu keep⟩⟩
def msK (es : List Kn) : List Me := (es.filter fun e => !e.sc).map fun e => ⟨e.nm, e.row, e.sz⟩
def nsK (es : List Kn) : List (List Nat) := (es.filter (·.sc)).map (·.nm)
def baK (B : List (List Nat)) (i : Nat) : List Kn := (List.range i).filterMap fun j => (B[j]?).map fun l => ⟨l, unR B.length j, 1, 0, false⟩
theorem baK_succ {B : List (List Nat)} {i : Nat} {l : List Nat} (h : B[i]? = some l) : baK B (i + 1) = baK B i ++ [⟨l, unR B.length i, 1, 0, false⟩] := by
  unfold baK
  rw [List.range_succ, List.filterMap_append, List.filterMap_cons, h]; rfl
theorem baK_len (B : List (List Nat)) (i : Nat) : (baK B i).length ≤ i := by
  unfold baK
  exact Nat.le_trans (List.length_filterMap_le _ _) (by rw [List.length_range]; exact Nat.le_refl _)
theorem msK_snoc (es : List Kn) (e : Kn) : msK (es ++ [e]) = msK es ++ (if e.sc = true then [] else [⟨e.nm, e.row, e.sz⟩]) := by
  unfold msK
  rw [List.filter_append, List.map_append]
  cases h : e.sc <;> simp [h]
theorem nsK_snoc (es : List Kn) (e : Kn) : nsK (es ++ [e]) = nsK es ++ (if e.sc = true then [e.nm] else []) := by
  unfold nsK
  rw [List.filter_append, List.map_append]
  cases h : e.sc <;> simp [h]
theorem baK_mem {B : List (List Nat)} {i : Nat} {e : Kn} (h : e ∈ baK B i) : ∃ j l, j < i ∧ B[j]? = some l ∧ e = ⟨l, unR B.length j, 1, 0, false⟩ := by
  unfold baK at h
  obtain ⟨j, hj, hb⟩ := List.mem_filterMap.mp h
  cases e2 : B[j]? with
  | none => rw [e2] at hb; cases hb
  | some x => rw [e2] at hb; exact ⟨j, x, List.mem_range.mp hj, e2, (Option.some.inj hb).symm⟩
theorem baK_ms (B : List (List Nat)) : ∀ i, i ≤ B.length → msK (baK B i) = baM B i ∧ nsK (baK B i) = [] ∧ (baK B i).map (·.nm) = B.take i
  | 0, _ => ⟨rfl, rfl, rfl⟩
  | i + 1, h => by
    have ih := baK_ms B i (by omega)
    have e : B[i]? = some (B[i]'(by omega)) := List.getElem?_eq_getElem (by omega)
    rw [baK_succ e, msK_snoc, nsK_snoc, baM_succ e, ih.1, ih.2.1, List.map_append, ih.2.2, List.take_add_one, e]
    exact ⟨rfl, rfl, rfl⟩
/-- _law_base_units(pen, many) -/
def spBu : Sp := fun vs H Q _ => ∃ (p c : Addr) (m n : Nat), vs = [.ref p, .int (n : Int)] ∧ Pen H p c m ∧ m < 700000000 ∧ n ≤ 6 ∧
  ∀ u b d ln l0 H' B, Pen H' p c (m + 200) → Keep p H H' → u ≠ p → d ≠ p → u ≠ d → ln ≠ c → ln ≠ b → ln ≠ l0 → LUn H' u b d ln → TxL H' b B → B.length = n → (∀ l ∈ B, nmOk l = true) → B.Nodup → KnAt H' d (baK B n) → H' ln = some (.lst [.ref l0]) → TxL H' l0 ([98, 97, 115, 101] :: B) → Q (.ref u) H'

abbrev st_law_base_units : Stmt := top 60
theorem sc_law_base_units : FnScope ["_law_pen_here", "_law_many", "_law_base", "_law_known", "_law_k", "_law_j"] ["_law_pen_here", "_law_many"] (defScope st_law_base_units) := ⟨rfl, rfl, rfl, by decide +kernel, rfl, by decide +kernel, by decide +kernel⟩
theorem ok_law_base_units (B : Blt mg) {CUnits : Addr} (Es : ErU K mg CUnits) {f_law_draw : Addr} {fd_law_draw : FuncData} (D_law_draw : DefAt K mg "_law_draw" st_law_draw ["_law_pen_here", "_law_many"] f_law_draw fd_law_draw) {f_law_pick : Addr} {fd_law_pick : FuncData} (D_law_pick : DefAt K mg "_law_pick" st_law_pick ["_law_pen_here", "_law_some"] f_law_pick fd_law_pick) {f_law_name : Addr} {fd_law_name : FuncData} (D_law_name : DefAt K mg "_law_name" st_law_name ["_law_pen_here", "_law_used"] f_law_name fd_law_name) {f_law_names : Addr} {fd_law_names : FuncData} (D_law_names : DefAt K mg "_law_names" st_law_names ["_law_pen_here", "_law_many"] f_law_names fd_law_names) {f_law_base_units : Addr} {fd_law_base_units : FuncData} (D_law_base_units : DefAt K mg "_law_base_units" st_law_base_units ["_law_pen_here", "_law_many"] f_law_base_units fd_law_base_units) : FnOk P w K mg base CX0 5 f_law_base_units fd_law_base_units ["_law_pen_here", "_law_many"] spBu := by
  obtain ⟨uD, hD, rD⟩ := Es.dig
  obtain ⟨uM, hM, rM⟩ := Es.most
  obtain ⟨uL, hL, rL⟩ := Es.lett
  obtain ⟨uN, hN, rN⟩ := Es.long
  obtain ⟨uB, hB, rB⟩ := Es.most6
  have OK_law_names : FnOk P w K mg base CX0 4 f_law_names fd_law_names ["_law_pen_here", "_law_many"] spNs := ok_law_names B Es D_law_draw D_law_pick D_law_name D_law_names
  refine D_law_base_units.F.ok sc_law_base_units (fun vs H Q E h => ?_) (fun cdv A outer s H vs Q E hr h => ?_)
  · obtain ⟨p, c, m, n, rfl, _⟩ := h; rfl
  · have hu := hu_of hr
    refine ⟨_, (pss_cons (ps_set (i := 2) sc_law_base_units.nd rfl (Or.inl rfl) (pe_call OK_law_names (hr.mono (by decide)) rfl D_law_names.m D_law_names.F.kp D_law_names.b .nil pass0 (pa_cons (pv 0) (pa_cons (pv 1) pa_nil))))
    (pss_cons (ps_set (i := 3) sc_law_base_units.nd rfl (Or.inl rfl) pe_dnewK)
    (pss_cons (ps_for PassesOwn.never rfl (pi_range1 rfl B.range_ (pa_cons (pv 1) pa_nil)) (pg_name (i := 4) sc_law_base_units.nd rfl (Or.inr rfl))
      (pss_one (ps_dput hu (pv 3) (pe_ix ix_list (pv 2) (pv 4) (fun _ _ => rfl)) (pe_tup (pa_cons (pe_callTy call_tuple_of (by rfl) B.tuple_ (by decide +kernel) (pa_cons (pe_lc (own := [("_law_j", 5)]) (g := gName 5) (tt := tYes) rfl sc_law_base_units.nd (pi_range1 rfl B.range_ (pa_cons (pv 1) pa_nil)) (blkOk_by (own := [("_law_j", 5)]) (N := ["_law_pen_here", "_law_many", "_law_base", "_law_known", "_law_k", "_law_j"]) (sc := defScope st_law_base_units) (by decide +kernel)) (fun _ _ _ _ _ => pg_name (i := 5) sc_law_base_units.nd rfl (Or.inl rfl)) (fun _ _ _ _ _ => pts_nil) (fun _ _ _ _ _ => (pe_callTy call_int1 (by rfl) B.int_ (by decide +kernel) (pa_cons (pe_cmpR op_eq (pv 5) (pv 4) (nomark _)) pa_nil)))) pa_nil)) (pa_cons (pe_tup (pa_cons pe_int (pa_cons pe_int pa_nil))) (pa_cons (pe_tup (pa_cons pe_int (pa_cons pe_int pa_nil))) (pa_cons pe_bl pa_nil))))) rfl)))
    (pss_one (ps_ret (pe_disp (pps_cons pe_str (pv 2) (pps_cons pe_str (pv 3) (pps_cons pe_str (pe_lst (pa_cons (pe_op op_cat (pe_lst (pa_cons pe_str pa_nil)) (pv 2)) pa_nil)) pps_nil))) (by rfl) (by rfl) (fun z => by cases z) (by decide))))))), ?_⟩
    obtain ⟨p, c, m, n, rfl, P, hm, hn, q⟩ := h
    refine ⟨_, rfl, _, rfl, p, c, m, n, rfl, P, by omega, hn, fun b H1 B P1 k1 hb lB okB ndB => ?_⟩
    intro d hd
    have n2 := AL.Same.new (o := .dK []) hd
    have hd2 : upd H1 d (.dK []) d = some (.dK []) := upd_same
    have hb2 := n2 _ _ hb
    have P2 := P1.same n2
    have dp : d ≠ p := fun z => by obtain ⟨kk, hk⟩ := P1.dict; rw [← z, hd] at hk; cases hk
    have k2 : Keep p H (upd H1 d (.dK [])) := k1.trans (Same.k n2)
    have bd : b ≠ d := fun z => by unfold TxL at hb; rw [z, hd] at hb; cases hb
    have hdn : H d = none := by
      cases e : H d with
      | none => rfl
      | some o => rw [k1 d o dp e] at hd; cases hd
    generalize upd H1 d (.dK []) = H2 at n2 hd2 hb2 P2 k2 ⊢
    clear n2 hd hb k1
    refine ⟨_, rfl, _, rfl, by omega, by omega, for_range (lo := 0) (n := ((n : Int)).toNat) (fun i σ H' => ∃ v4 v5 : Option V, σ = [some (.ref p), some (.int (n : Int)), some (.ref b), some (.ref d), v4, v5] ∧ (∀ bb o, bb ≠ d → H2 bb = some o → H' bb = some o) ∧ KnAt H' d (baK B i)) ⟨none, none, rfl, fun _ _ _ h => h, [], hd2, .nil⟩ ?_ ?_⟩
    · rintro i σ H3 hi ⟨v4, v5, rfl, k3, kn3⟩
      have hi' : i < n := by omega
      have e0 : B[i]? = some (B[i]'(by omega)) := List.getElem?_eq_getElem (by omega)
      have eb : (B.map vS)[i]? = some (vS (B[i]'(by omega))) := by rw [List.getElem?_map, e0]; rfl
      have bs := baK_succ e0
      have bm : ∀ x ∈ baK B i, x.nm ≠ B[i]'(by omega) := fun x hx z => by
        obtain ⟨j, l, jl, hj, rfl⟩ := baK_mem hx
        have jj := (List.getElem?_inj (by omega) ndB).mp (hj.trans ((congrArg some z).trans e0.symm))
        omega
      generalize B[i]'(by omega) = l at e0 eb bs bm
      have hb3 := k3 _ _ bd hb2
      refine ⟨_, rfl, _, rfl, by omega, by omega, fun D hD => ?_⟩
      have Dd : D ≠ d := fun z => by obtain ⟨kk, hk, _⟩ := kn3; rw [z, hk] at hD; cases hD
      refine lc_it (walk_range (lo := 0) (n := ((n : Int)).toNat)) (fun j H' => Same H3 H' ∧ H' D = some (.lst (((unR B.length i).take j).map V.int))) ⟨AL.Same.new hD, upd_same⟩ (fun _ _ _ _ => trivial) ?_ ?_
      · rintro j x H4 H4' hj ⟨s4, hD4⟩ ⟨rfl, rfl⟩
        refine ⟨rfl, ?_⟩
        have jn : j < B.length := by omega
        refine ⟨_, rfl, _, rfl, ?_⟩
        have fin : ∀ x : Int, x = (if j = i then 1 else 0) → ∃ acc, H4' D = some (.lst acc) ∧ acc.length < sizeLine ∧ Same H3 (upd H4' D (.lst (acc ++ [V.int x]))) ∧ upd H4' D (.lst (acc ++ [V.int x])) D = some (.lst (((unR B.length i).take (j + 1)).map V.int)) := fun x hx => by
          refine ⟨_, hD4, ?_, AL.Same.updn s4 hD, ?_⟩
          · rw [List.length_map, List.length_take, unR_len]
            exact Nat.lt_of_le_of_lt (by omega : _ ≤ 100) (by decide)
          · rw [upd_same, take_map_snoc V.int (unR_get jn), hx]
        refine ⟨rfl, .inr ⟨_, rfl, ?_⟩⟩
        refine fin _ ?_
        by_cases ji : j = i
        · rw [if_pos ji, ji, decide_eq_true rfl]; rfl
        · rw [if_neg ji, decide_eq_false (fun z => ji (by injection z with z; omega))]; rfl
      rintro H4 ⟨s4, hD4⟩
      rw [Int.toNat_natCast, ← lB, List.take_of_length_le (by rw [unR_len]; exact Nat.le_refl _)] at hD4
      refine ⟨D, _, rfl, .inl ⟨SqL.of hD4, fun r hr => ?_⟩⟩
      have n5 := AL.Same.new (o := .tup ((unR B.length i).map V.int)) hr
      refine ⟨(by show 2 ≤ sizeLine; decide), fun y hy => ?_⟩
      have n6 := AL.Same.new (o := .tup [.int 1, .int 1]) hy
      refine ⟨(by show 2 ≤ sizeLine; decide), fun f hf => ?_⟩
      have n7 := AL.Same.new (o := .tup [.int 0, .int 1]) hf
      refine ⟨(by show 4 ≤ sizeLine; decide), fun t ht => ?_⟩
      have n8 := AL.Same.new (o := .tup [.ref r, .ref y, .ref f, .bl false]) ht
      have s48 := ((s4.trans n5).trans n6).trans (n7.trans n8)
      have ht8 : upd (upd (upd (upd H4 r (.tup ((unR B.length i).map V.int))) y (.tup [.int 1, .int 1])) f (.tup [.int 0, .int 1])) t (.tup [.ref r, .ref y, .ref f, .bl false]) t = some (.tup [.ref r, .ref y, .ref f, .bl false]) := upd_same
      have hr8 := n8 _ _ (n7 _ _ (n6 _ _ (upd_same (H := H4) (a := r) (o := .tup ((unR B.length i).map V.int)))))
      have hy8 := n8 _ _ (n7 _ _ (upd_same (H := upd H4 r (.tup ((unR B.length i).map V.int))) (a := y) (o := .tup [.int 1, .int 1])))
      have hf8 := n8 _ _ (upd_same (H := upd (upd H4 r (.tup ((unR B.length i).map V.int))) y (.tup [.int 1, .int 1])) (a := f) (o := .tup [.int 0, .int 1]))
      generalize upd (upd (upd (upd H4 r (.tup ((unR B.length i).map V.int))) y (.tup [.int 1, .int 1])) f (.tup [.int 0, .int 1])) t (.tup [.ref r, .ref y, .ref f, .bl false]) = H8 at s48 ht8 hr8 hy8 hf8 ⊢
      obtain ⟨kvs, hk, pr⟩ := kn3.same s48
      have lk := pair_len pr
      have bl := baK_len B i
      refine ⟨_, rfl, _, rfl, _, rfl, b, _, _, _, rfl, rfl, SqL.of (s48 _ _ hb3), by rw [Int.zero_add]; exact atI_nat (j := i) eb, d, _, rfl, .inl ⟨_, kS l, hk, rfl, ?_, rfl⟩, ?_⟩
      · rw [lk]; exact Nat.lt_of_le_of_lt (by omega : _ ≤ 100) (by decide)
      refine ⟨_, _, rfl, fun bb o nb h => by rw [upd_ne nb]; exact s48 _ _ (k3 bb o nb h), ?_⟩
      rw [bs]
      exact KnAt.put (e := ⟨l, unR B.length i, 1, 0, false⟩) pr bm ⟨t, r, y, f, rfl, ht8, hr8, hy8, hf8⟩ (fun b ys hb => by rw [upd_ne (fun z => by rw [z, hk] at hb; cases hb)]; exact hb) upd_same
    · rintro σ H3 ⟨v4, v5, rfl, k3, kn3⟩
      intro u hu
      have n4 := AL.Same.new (o := .dK []) hu
      have hu4 : upd H3 u (.dK []) u = some (.dK []) := upd_same
      have hb4 := n4 _ _ (k3 _ _ bd hb2)
      refine ⟨_, rfl, _, rfl, (by show 1 ≤ sizeLine; decide), fun l1 hl1 => ?_⟩
      have n5 := AL.Same.new (o := .lst [.str "base"]) hl1
      have hb5 := n5 _ _ hb4
      refine ⟨_, rfl, l1, b, _, _, rfl, rfl, upd_same, hb5, ?_, fun l0 hl0 => ?_⟩
      · rw [List.length_map]; exact Nat.le_trans (by show 1 + _ ≤ 100; omega) (by decide)
      have n6 := AL.Same.new (o := .lst ([.str "base"] ++ B.map vS)) hl0
      refine ⟨(by show 1 ≤ sizeLine; decide), fun ln hln => ?_⟩
      have n7 := AL.Same.new (o := .lst [.ref l0]) hln
      have hb7 := n7 _ _ (n6 _ _ hb5)
      have h07 := n7 _ _ (upd_same (H := upd (upd H3 u (.dK [])) l1 (.lst [.str "base"])) (a := l0) (o := .lst ([.str "base"] ++ B.map vS)))
      have hu7 := n7 _ _ (n6 _ _ (n5 _ _ hu4))
      have hn7 := upd_same (H := upd (upd (upd H3 u (.dK [])) l1 (.lst [.str "base"])) l0 (.lst ([.str "base"] ++ B.map vS))) (a := ln) (o := .lst [.ref l0])
      have s37 := (n4.trans n5).trans (n6.trans n7)
      have lnb : ln ≠ b := fun z => by rw [z, n6 _ _ hb5] at hln; cases hln
      have ln0 : ln ≠ l0 := fun z => by rw [z, upd_same] at hln; cases hln
      have lnc : ln ≠ c := fun z => by
        obtain ⟨ns, _, _, _, _, _, hc, _⟩ := P2.ex
        have cd : c ≠ d := fun z => by rw [z, hd2] at hc; cases hc
        rw [z, (n4.trans (n5.trans n6)) _ _ (k3 _ _ cd hc)] at hln; cases hln
      generalize upd (upd (upd (upd H3 u (.dK [])) l1 (.lst [.str "base"])) l0 (.lst ([.str "base"] ++ B.map vS))) ln (.lst [.ref l0]) = H7 at hb7 h07 hu7 hn7 s37 ⊢
      refine ⟨hu7, [(Sum.inr "base", .ref b), (Sum.inr "known", .ref d), (Sum.inr "lines", .ref ln)], rfl, (by show 3 ≤ 15; decide), ?_⟩
      have lu : upd H7 u (.dK (mergeK [] [(Sum.inr "base", .ref b), (Sum.inr "known", .ref d), (Sum.inr "lines", .ref ln)])) u = some (.dK [(Sum.inr "base", .ref b), (Sum.inr "known", .ref d), (Sum.inr "lines", .ref ln)]) := Eq.trans upd_same (by kernel_rfl)
      have cd : c ≠ d := fun z => by obtain ⟨ns, _, _, _, _, _, hc, _⟩ := P2.ex; rw [z, hd2] at hc; cases hc
      have P3 : Pen H3 p c (m + 200) := P2.keep (fun o h => k3 _ _ (Ne.symm dp) h) fun o h => k3 _ _ cd h
      have up : u ≠ p := fun z => by obtain ⟨kk, hk⟩ := P3.dict; rw [← z, hu] at hk; cases hk
      have uc : u ≠ c := fun z => by obtain ⟨ns, _, _, _, _, _, hc, _⟩ := P3.ex; rw [← z, hu] at hc; cases hc
      have P7 := P3.same s37
      have b3 := k3 _ _ bd hb2
      have ud : u ≠ d := fun z => by obtain ⟨kk, hk, _⟩ := kn3; rw [← z, hu] at hk; cases hk
      have ne : ∀ b o, H3 b = some o → upd H7 u (.dK (mergeK [] [(Sum.inr "base", .ref b), (Sum.inr "known", .ref d), (Sum.inr "lines", .ref ln)])) b = _ := fun b o h => upd_ne (fun z => by rw [z, hu] at h; cases h)
      have bu : b ≠ u := fun z => by rw [← z, b3] at hu; cases hu
      have lnu : ln ≠ u := fun z => by rw [z, hu7] at hn7; cases hn7
      have l0u : l0 ≠ u := fun z => by rw [z, hu7] at h07; cases h07
      rw [Int.toNat_natCast] at kn3
      refine q u b d ln l0 _ B (P7.keep (fun o h => by rw [upd_ne (Ne.symm up)]; exact h) fun o h => by rw [upd_ne (Ne.symm uc)]; exact h) ?_ up dp ud lnc lnb ln0 lu (by unfold TxL; rw [upd_ne bu]; exact hb7) lB okB ndB ?_ (by rw [upd_ne lnu]; exact hn7) (by unfold TxL; rw [upd_ne l0u, h07, baseS]; rfl)
      · intro b' o nb h
        have h2 := k2 b' o nb h
        have nd : b' ≠ d := fun z => by rw [z, hdn] at h; cases h
        have h3 := k3 _ _ nd h2
        rw [upd_ne (fun z => by rw [z, hu] at h3; cases h3)]
        exact s37 _ _ h3
      · exact (kn3.same s37).tu (fun o h => by rw [upd_ne (Ne.symm ud)]; exact h) fun b ys h => by rw [upd_ne (fun z => by rw [z, hu7] at h; cases h)]; exact h
end
end AL
set_option Elab.async false
set_option linter.all false
set_option maxRecDepth 100000
set_option maxHeartbeats 4000000
/-! A tuple times 1 is the tuple itself. -/
namespace AL
open PySem PySem.Spec PyProof.Rows L2
theorem tuple_once (l : Addr) (its : Array Value) (n : Nat) (dd : Option Addr) (sl : Array (Option Value)) (u : Tok) :
    Meets (Builtin.«tuple.__mul__» ⟨[.ref l, .int 1 u], []⟩) (fun _ R s => s.heap.get? l = some { cls := .type "tuple", dict := dd, data := .seq its n, slots := sl } ∧
      R (.ok (.ret (Value.ref l))) s) :=
  .of_wp fun prog w A R s h => by
    obtain ⟨hp, g, d, tk, os⟩ := s
    obtain ⟨look, h⟩ := h
    have idx := AutoSeq1.idx_int
    have c1 : (its.isEmpty || (1 : Int) == 1) = true := by simp
    wp_walk using wpAny_loadPart' look
    repeat (first
      | (refine wpAny_ite_false (decide_eq_false (by decide)) ?_; wp_walk using wpAny_loadPart' look)
      | (refine wpAny_ite_true (decide_eq_true (by rw [c1])) ?_; wp_walk using wpAny_loadPart' look))
    exact ⟨_, rfl, h⟩
/-- t * k, k from 1 on -/
def rRepU (K : PySem.W.Frag) : R2 := fun x y H Q => ∃ l k xs, x = .ref l ∧ y = .int k ∧ SqT K H l xs ∧ xs ≠ [] ∧ 1 ≤ k ∧ k ≤ 1000 ∧ xs.length ≤ 1000 ∧ (k = 1 → Q (.ref l) H) ∧ (2 ≤ k → ∀ p, H p = none → Q (.ref p) (upd H p (.tup (List.replicate k.toNat xs).flatten)))
theorem op_repU {X : Cx} : OpR X (binaryOp .Mult) (rRepU X.K) := by
  intro pins s σ H x y v u Q I rx ry h
  obtain ⟨l, k, xs, rfl, rfl, hT, hne, h1, h2, hz, q1, q2⟩ := h
  by_cases hk : 2 ≤ k
  · exact op_repT pins s σ H _ _ v u Q I rx ry ⟨l, k, xs, rfl, rfl, hT, hne, hk, h2, hz, q2 hk⟩
  obtain rfl : k = 1 := by omega
  cases rx
  obtain ⟨t, rfl⟩ := ry
  obtain ⟨its, r, ⟨⟨cls, dd, data, sl⟩, ho, hc, n, hd⟩, hs⟩ := I.tuple hT
  simp only at hc hd
  subst hc hd
  refine wpAny_binaryOp_repeat_ref (T := "tuple") (U := "int") (by decide) ⟨_, ho, rfl⟩ (fun s' => typeIs_int s' 1 t) noFill_tuple_mul F.fills_int_mul F.slot_int_rmul repeat_tuple F.slot_int_index.lookup ?_
  refine call_meets F.slot_int_rmul (typeIs_int s 1 t) F.entry_int_rmul (F.args_int_rmul_2 _ _) (int_rmul_tuple 1 t l its.toArray n dd sl) ⟨ho, rfl, ⟨_, ho, rfl⟩, ?_⟩
  exact call_meets F.slot_tuple_mul ⟨_, ho, rfl⟩ F.entry_tuple_mul (F.args_tuple_mul_2 _ _) (tuple_once l its.toArray n dd sl t) ⟨ho, ⟨.ref l, H, I, rfl, q1 rfl⟩⟩
end AL
set_option Elab.async false
set_option maxRecDepth 100000
set_option exponentiation.threshold 70000
set_option maxHeartbeats 1000000
namespace AL
open PySem PySem.Spec PyProof.Rows L2 RZ
section
variable {P : Program} {w : World} {K : PySem.W.Frag} {mg : Str → Option Value} {base : Heap}

theorem meOf_at {ms : List Me} (nd : (ms.map (·.nm)).Nodup) {m : Me} (h : m ∈ ms) : meOf ms m.nm = some m := by
  induction ms with
  | nil => cases h
  | cons x r ih =>
    unfold meOf
    rw [List.find?_cons]
    have nd' := List.nodup_cons.mp nd
    rcases List.mem_cons.mp h with rfl | h
    · rw [decide_eq_true rfl]
    · have ne : ¬ x.nm = m.nm := fun z => nd'.1 (List.mem_map.mpr ⟨m, h, z.symm⟩)
      rw [decide_eq_false ne]
      exact ih nd'.2 h
theorem msK_nd {es : List Kn} (nd : (es.map (·.nm)).Nodup) : ((msK es).map (·.nm)).Nodup := by
  have e : (msK es).map (·.nm) = (es.filter fun e => !e.sc).map (·.nm) := by unfold msK; rw [List.map_map]; rfl
  rw [e]
  exact (List.Sublist.map _ List.filter_sublist).nodup nd
theorem meOf_msK {es : List Kn} (nd : (es.map (·.nm)).Nodup) {e : Kn} (h : e ∈ es) (hs : e.sc = false) : meOf (msK es) e.nm = some ⟨e.nm, e.row, e.sz⟩ := by
  refine meOf_at (msK_nd nd) (m := ⟨e.nm, e.row, e.sz⟩) ?_
  unfold msK
  exact List.mem_map.mpr ⟨e, List.mem_filter.mpr ⟨h, by rw [hs]; rfl⟩, rfl⟩
/-- pairs of names of units and powers -/
def PrAt (H : Hp) (a : Addr) (ps : Pw) : Prop := ∃ ts : List Addr, H a = some (.lst (ts.map V.ref)) ∧ Paired (fun (t : Addr) (p : List Nat × Int) => H t = some (.tup [.str (S p.1), .int p.2])) ts ps
theorem PrAt.same {H H' : Hp} {a : Addr} {ps : Pw} (s : Same H H') (h : PrAt H a ps) : PrAt H' a ps := let ⟨ts, h1, h2⟩ := h; ⟨ts, s _ _ h1, paired_imp (fun _ _ z => s _ _ z) h2⟩
theorem PrAt.kp {H H' : Hp} {a : Addr} {ps : Pw} (k : KeepP H H') (h : PrAt H a ps) : PrAt H' a ps := let ⟨ts, h1, h2⟩ := h; ⟨ts, k _ _ h1 (fun _ z => by cases z), paired_imp (fun _ _ z => k _ _ z (fun _ w => by cases w)) h2⟩
/-- what is known of units: rows of n whole numbers, sizes above 0 -/
structure KnOk (n : Nat) (es : List Kn) : Prop where
  nd : (es.map (·.nm)).Nodup
  nm : ∀ e ∈ es, nmOk e.nm = true
  row : ∀ e ∈ es, e.row.length = n
  bd : ∀ e ∈ es, e.sc = false → (∀ k ∈ e.row, k.natAbs < 2 ^ 50) ∧ 0 < e.sz.num ∧ Lim (2 ^ 300) e.sz
def PwOk (es : List Kn) (ps : Pw) : Prop := ∀ p ∈ ps, ∃ e ∈ es, e.nm = p.1 ∧ e.sc = false ∧ -2 ≤ p.2 ∧ p.2 ≤ 3
theorem pos_ne {x : Rat} (h : 0 < x.num) : x ≠ 0 := fun z => by rw [z] at h; exact absurd h (by decide)
theorem sm_lim {x : Rat} {E : Nat} (h : Lim (2 ^ E) x) (l : E < 1000) : Sm x.num x.den := ⟨Nat.lt_of_le_of_lt h.1 (Nat.pow_lt_pow_right (by decide) l), Nat.lt_of_le_of_lt h.2 (Nat.pow_lt_pow_right (by decide) l)⟩
theorem wt_pw {es : List Kn} : ∀ {ps : Pw}, PwOk es ps → wt ps ≤ 3 * ps.length
  | [], _ => Nat.le_refl _
  | p :: r, h => by
    have ih := wt_pw (ps := r) fun q hq => h q (List.mem_cons_of_mem _ hq)
    obtain ⟨e, _, _, _, a, b⟩ := h p (List.mem_cons_self ..)
    show p.2.natAbs + wt r ≤ 3 * (r.length + 1)
    omega
theorem szOf_pw {n : Nat} {es : List Kn} {ps : Pw} (ok : KnOk n es) (h : PwOk es ps) : ∀ p ∈ ps, szOf (msK es) p.1 ≠ 0 ∧ Lim (2 ^ 300) (szOf (msK es) p.1) := fun p hp => by
  obtain ⟨e, he, en, es0, _, _⟩ := h p hp
  have m := meOf_msK ok.nd he es0
  rw [en] at m
  have b := ok.bd e he es0
  rw [szOf_of m]
  exact ⟨pos_ne b.2.1, b.2.2⟩
theorem repU_one {K : PySem.W.Frag} {H : Hp} {l : Addr} {k : Nat} {x : V} {Q : VK} (h : H l = some (.tup [x])) (k1 : 1 ≤ k) (k9 : k ≤ 9) (q : ∀ r H', Same H H' → H' r = some (.tup (List.replicate k x)) → Q (.ref r) H') : rRepU K (.ref l) (.int (k : Int)) H Q :=
  ⟨l, _, [x], rfl, rfl, SqT.of h, by simp, by omega, by omega, by show 1 ≤ 1000; decide, fun e => q l H (Same.refl _) (by rw [show k = 1 by omega]; exact h), fun _ p hp => q p _ (AL.Same.new hp) (by rw [upd_same, Int.toNat_natCast, List.flatten_replicate_singleton])⟩
/-- _law_measure(units, pairs) -/
def spMe : Sp := fun vs H Q _ => ∃ (u b d ln a : Addr) (B : List (List Nat)) (es : List Kn) (ps : Pw), vs = [.ref u, .ref a] ∧ LUn H u b d ln ∧ TxL H b B ∧ B ≠ [] ∧ B.length ≤ 6 ∧ KnAt H d es ∧ KnOk B.length es ∧ PrAt H a ps ∧ PwOk es ps ∧ ps.length ≤ 4 ∧
  ∀ t r s H', Same H H' → H' t = some (.tup [.ref r, .ref s]) → H' r = some (.tup ((exV (msK es) B.length ps).map V.int)) → RQ H' s (szV (msK es) ps) → Q (.ref t) H'

abbrev st_law_measure : Stmt := top 61
theorem sc_law_measure : FnScope ["_law_units_here", "_law_pairs_here", "_law_exponents", "_law_size_here", "_law_name_here", "_law_power_here", "_law_row", "_law_factor", "_law_shift", "_law_is_scale", "_law_one", "_law_two"] ["_law_units_here", "_law_pairs_here"] (defScope st_law_measure) := ⟨rfl, rfl, rfl, by decide +kernel, rfl, by decide +kernel, by decide +kernel⟩
theorem ok_law_measure (B : Blt mg) {CUnits : Addr} (Es : ErU K mg CUnits) {f_law_gcd : Addr} {fd_law_gcd : FuncData} (D_law_gcd : DefAt K mg "_law_gcd" st_law_gcd ["_law_one", "_law_two"] f_law_gcd fd_law_gcd) {f_law_q : Addr} {fd_law_q : FuncData} (D_law_q : DefAt K mg "_law_q" st_law_q ["_law_top", "_law_bottom"] f_law_q fd_law_q) {f_law_power : Addr} {fd_law_power : FuncData} (D_law_power : DefAt K mg "_law_power" st_law_power ["_law_one", "_law_n"] f_law_power fd_law_power) {f_law_times : Addr} {fd_law_times : FuncData} (D_law_times : DefAt K mg "_law_times" st_law_times ["_law_one", "_law_two"] f_law_times fd_law_times) {f_law_measure : Addr} {fd_law_measure : FuncData} (D_law_measure : DefAt K mg "_law_measure" st_law_measure ["_law_units_here", "_law_pairs_here"] f_law_measure fd_law_measure) : FnOk P w K mg base CX0 4 f_law_measure fd_law_measure ["_law_units_here", "_law_pairs_here"] spMe := by
  obtain ⟨uD, hD, rD⟩ := Es.dig
  obtain ⟨uM, hM, rM⟩ := Es.most
  obtain ⟨uL, hL, rL⟩ := Es.lett
  obtain ⟨uN, hN, rN⟩ := Es.long
  obtain ⟨uB, hB, rB⟩ := Es.most6
  have OK_law_power : FnOk P w K mg base CX0 3 f_law_power fd_law_power ["_law_one", "_law_n"] spPowL := ok_law_power B  D_law_gcd D_law_q D_law_power
  have OK_law_times : FnOk P w K mg base CX0 3 f_law_times fd_law_times ["_law_one", "_law_two"] (spTwo mulR) := ok_law_times B  D_law_gcd D_law_q D_law_times
  refine D_law_measure.F.ok sc_law_measure (fun vs H Q E h => ?_) (fun cdv A outer s H vs Q E hr h => ?_)
  · obtain ⟨u, b, d, ln, a, B, es, ps, rfl, _⟩ := h; rfl
  · have hu := hu_of hr
    refine ⟨_, (pss_cons (ps_par (i := 2) (j := 3) (by rfl) sc_law_measure.nd rfl rfl (by decide) rfl rfl (pa_cons (pe_op op_repU (pe_tup (pa_cons pe_int pa_nil)) (pe_callB call_len_seq (by rfl) B.len_ (by decide +kernel) (pa_cons (pe_dget hu (pv 0) pe_str (fun _ _ => rfl)) pa_nil))) (pa_cons (pe_tup (pa_cons pe_int (pa_cons pe_int pa_nil))) pa_nil)) (by rfl))
    (pss_cons (ps_for PassesOwn.never rfl (pi_list (pv 1)) (pg_tup rfl (pgs_cons (pg_name (i := 4) sc_law_measure.nd rfl (Or.inl rfl)) (pgs_cons (pg_name (i := 5) sc_law_measure.nd rfl (Or.inr rfl)) pgs_nil)))
      (pss_cons (ps_asg (pe_dget hu (pe_dget hu (pv 0) pe_str (fun _ _ => rfl)) (pv 4) (fun _ _ => rfl)) (pg_tup rfl (pgs_cons (pg_name (i := 6) sc_law_measure.nd rfl (Or.inl rfl)) (pgs_cons (pg_name (i := 7) sc_law_measure.nd rfl (Or.inl rfl)) (pgs_cons (pg_name (i := 8) sc_law_measure.nd rfl (Or.inl rfl)) (pgs_cons (pg_name (i := 9) sc_law_measure.nd rfl (Or.inl rfl)) pgs_nil))))))
    (pss_cons (ps_set (i := 2) sc_law_measure.nd rfl (Or.inl rfl) (pe_callTy call_tuple_of (by rfl) B.tuple_ (by decide +kernel) (pa_cons (pe_lc (own := [("_law_one", 10), ("_law_two", 11)]) (g := gTup K 2 (gCons (gName 10) (gCons (gName 11) gNil))) (tt := tYes) rfl sc_law_measure.nd (pi_zipA (by rfl) B.zip_ (pa_cons (pv 2) (pa_cons (pv 6) pa_nil))) (blkOk_by (own := [("_law_one", 10), ("_law_two", 11)]) (N := ["_law_units_here", "_law_pairs_here", "_law_exponents", "_law_size_here", "_law_name_here", "_law_power_here", "_law_row", "_law_factor", "_law_shift", "_law_is_scale", "_law_one", "_law_two"]) (sc := defScope st_law_measure) (by decide +kernel)) (fun _ _ _ _ _ => (pg_tup rfl (pgs_cons (pg_name (i := 10) sc_law_measure.nd rfl (Or.inl rfl)) (pgs_cons (pg_name (i := 11) sc_law_measure.nd rfl (Or.inl rfl)) pgs_nil)))) (fun _ _ _ _ _ => pts_nil) (fun _ _ _ _ _ => (pe_op op_add (pv 10) (pe_op op_mulW (pv 5) (pv 11))))) pa_nil)))
    (pss_one (ps_set (i := 3) sc_law_measure.nd rfl (Or.inl rfl) (pe_call OK_law_times (hr.mono (by decide)) rfl D_law_times.m D_law_times.F.kp D_law_times.b .nil pass0 (pa_cons (pv 3) (pa_cons (pe_call OK_law_power (hr.mono (by decide)) rfl D_law_power.m D_law_power.F.kp D_law_power.b .nil pass0 (pa_cons (pv 7) (pa_cons (pv 5) pa_nil))) pa_nil))))))))
    (pss_one (ps_ret (pe_tup (pa_cons (pv 2) (pa_cons (pv 3) pa_nil))))))), ?_⟩
    obtain ⟨u, b, d, ln, a, B, es, ps, rfl, hu1, hb, hne, hl6, hk, ok, hpr, pok, pl, q⟩ := h
    have B0 : 1 ≤ B.length := by cases B with | nil => exact absurd rfl hne | cons x r => simp
    obtain ⟨ts, ha, pr⟩ := hpr
    have lts := pair_len pr
    refine ⟨(by show 1 ≤ sizeLine; decide), fun z0 hz0 => ?_⟩
    have n1 := AL.Same.new (o := .tup [.int 0]) hz0
    refine ⟨_, rfl, _, _, rfl, LUn.bas (n1 _ _ hu1), b, _, rfl, .inl (SqL.of (n1 _ _ hb)), ?_⟩
    rw [List.length_map]
    refine repU_one upd_same B0 (by omega) fun x0 H2 s2 hx2 => ?_
    refine ⟨(by show 2 ≤ sizeLine; decide), fun s0 hs0 => ?_⟩
    have n3 := AL.Same.new (o := .tup [.int 1, .int 1]) hs0
    have s03 := (n1.trans s2).trans n3
    have hx3 := n3 _ _ hx2
    have one : RQ (upd H2 s0 (.tup [.int 1, .int 1])) s0 (1 : Rat) := upd_same
    generalize upd H2 s0 (.tup [.int 1, .int 1]) = H3 at n3 s03 hx3 one ⊢
    clear n3 n1 s2 hs0 hx2
    have u3 := s03 _ _ hu1
    have k3 := hk.same s03
    have pr3 : Paired (fun (t : Addr) (p : List Nat × Int) => H3 t = some (.tup [.str (S p.1), .int p.2])) ts ps := paired_imp (fun _ _ z => s03 _ _ z) pr
    refine ⟨_, _, rfl, ?_⟩
    refine ⟨_, rfl, a, rfl, ⟨_, SqL.of (s03 _ _ ha)⟩, for_list (K := K) (a := a) (xs := ts.map V.ref) (fun i σ H' => ∃ (x s : Addr) (v4 v5 v6 v7 v8 v9 v10 v11 : Option V), σ = [some (.ref u), some (.ref a), some (.ref x), some (.ref s), v4, v5, v6, v7, v8, v9, v10, v11] ∧ Same H3 H' ∧ H' x = some (.tup ((exV (msK es) B.length (ps.take i)).map V.int)) ∧ RQ H' s (szV (msK es) (ps.take i))) ⟨x0, s0, none, none, none, none, none, none, none, none, rfl, Same.refl _, by rw [hx3, List.take_zero, exV_nil, List.map_replicate], one⟩ (fun i σ H' _ hh => ?_) ?_ ?_⟩
    · obtain ⟨_, _, _, _, _, _, _, _, _, _, _, k, _⟩ := hh
      exact SqL.of (k _ _ (s03 _ _ ha))
    · rintro i y σ H4 hy ⟨x, s, v4, v5, v6, v7, v8, v9, v10, v11, rfl, s4, hx4, hs4⟩
      obtain ⟨tp, htp, rfl⟩ : ∃ tp, ts[i]? = some tp ∧ y = .ref tp := by
        rw [List.getElem?_map] at hy
        cases e : ts[i]? with
        | none => rw [e] at hy; cases hy
        | some a => rw [e] at hy; exact ⟨a, rfl, (Option.some.inj hy).symm⟩
      obtain ⟨pp, hpp, hT⟩ := prd_ix pr3 htp
      have hT4 := s4 _ _ hT
      obtain ⟨e, he, en, es0, lo, hi⟩ := pok pp (List.mem_of_getElem? hpp)
      have ke : knOf es pp.1 = some e := by rw [← en]; exact knOf_at ok.nd he
      have mo : meOf (msK es) pp.1 = some ⟨e.nm, e.row, e.sz⟩ := by rw [← en]; exact meOf_msK ok.nd he es0
      have bd := ok.bd e he es0
      have rl := ok.row e he
      refine ⟨tp, _, rfl, SqT.of hT4, rfl, _, _, rfl, _, _, rfl, rfl, ?_⟩
      obtain ⟨v, hg, t, r, z, f, rfl, h1, h2, h3, h4⟩ := (k3.same s4).get ke
      refine ⟨_, rfl, _, _, rfl, LUn.known (s4 _ _ u3), _, rfl, _, _, rfl, hg, t, _, rfl, SqT.of h1, rfl, _, _, rfl, _, _, rfl, _, _, rfl, _, _, rfl, rfl, ?_⟩
      have sn := exV_snoc (msK es) B.length (ps.take i) pp (by unfold rowOf; rw [mo]; exact rl)
      have ro : rowOf (msK es) pp.1 = e.row := by unfold rowOf; rw [mo]
      rw [ro] at sn
      have tk : ps.take (i + 1) = ps.take i ++ [pp] := by rw [List.take_add_one, hpp]; rfl
      have el := exV_len (msK es) B.length (ps.take i)
      generalize hE : exV (msK es) B.length (ps.take i) = E at hx4 sn el
      have rlen : (List.zipWith (fun o w => o + pp.2 * w) E e.row).length = B.length := by rw [List.length_zipWith]; omega
      refine ⟨_, rfl, _, rfl, x, r, _, _, rfl, .inr ⟨SqT.of hx4, SqT.of h2, fun D hD => ?_⟩⟩
      refine lc_it (walk_zipT (K := K) (a := x) (b := r) (xs := E.map V.int) (ys := e.row.map V.int) (n := B.length) (by rw [List.length_map, List.length_map]; omega)) (fun j H' => Same H4 H' ∧ H' D = some (.lst (((List.zipWith (fun o w => o + pp.2 * w) E e.row).take j).map V.int))) ⟨AL.Same.new hD, upd_same⟩ (fun j H' _ hh => ⟨SqT.of (hh.1 _ _ hx4), SqT.of (hh.1 _ _ h2)⟩) ?_ ?_
      · rintro j x2 H5 H5' hj ⟨s5, hd5⟩ ⟨T0, u1, u2, rfl, hT0, rfl, f1, f2⟩
        obtain ⟨a1, c1, rfl⟩ := map_intE f1
        obtain ⟨a2, c2, rfl⟩ := map_intE f2
        have hDT : D ≠ T0 := fun w => by rw [w, hT0] at hd5; cases hd5
        have sT := s5.trans (AL.Same.new (o := .tup [.int a1, .int a2]) hT0)
        have hd6 : (upd H5 T0 (.tup [.int a1, .int a2])) D = _ := Eq.trans (upd_ne hDT) hd5
        refine ⟨T0, _, rfl, SqT.of upd_same, rfl, _, _, rfl, _, _, rfl, rfl, rfl, ?_⟩
        refine ⟨_, rfl, _, rfl, _, rfl, _, _, rfl, rfl, wide_mul (a := 2) (b := 60) (by omega) (Nat.lt_of_lt_of_le (bd.1 a2 (List.mem_of_getElem? c2)) (Nat.pow_le_pow_right (by decide) (by decide))) (by decide) (by decide) (by decide), _, _, rfl, rfl, ?_⟩
        refine ⟨_, hd6, ?_, AL.Same.updn sT hD, ?_⟩
        · rw [List.length_map, List.length_take]; exact Nat.lt_of_le_of_lt (by omega : _ ≤ 100) (by decide)
        · rw [upd_same, take_map_snoc V.int (x := a1 + pp.2 * a2) (by rw [List.getElem?_zipWith, c1, c2])]
      rintro H5 ⟨s5, hd5⟩
      rw [List.take_of_length_le (by omega)] at hd5
      refine ⟨D, _, rfl, .inl ⟨SqL.of hd5, fun xr hxr => ?_⟩⟩
      have n6 := AL.Same.new (o := .tup ((List.zipWith (fun o w => o + pp.2 * w) E e.row).map V.int)) hxr
      have hx6 : upd H5 xr (.tup ((List.zipWith (fun o w => o + pp.2 * w) E e.row).map V.int)) xr = _ := upd_same
      have s46 := s5.trans n6
      generalize upd H5 xr (.tup ((List.zipWith (fun o w => o + pp.2 * w) E e.row).map V.int)) = H6 at n6 hx6 s46 ⊢
      refine ⟨_, rfl, _, rfl, _, rfl, z, _, _, _, rfl, s46 _ _ h3, sm_lim bd.2.2 (by decide), low_rat _, by omega, fun w => pos_ne bd.2.1 (Rat.num_eq_zero.mp w.2), fun u2 H7 s7 h7 => ?_⟩
      rw [pw_zpw _ _ (pos_ne bd.2.1)] at h7
      have spw := szOf_pw ok (ps := ps.take i) fun q hq => pok q (List.mem_of_mem_take hq)
      have wti : wt (ps.take i) ≤ 12 := Nat.le_trans (wt_pw (es := es) fun q hq => pok q (List.mem_of_mem_take hq)) (by rw [List.length_take]; omega)
      have m1 := lim_mid (lim_szV (ps.take i) spw) (Nat.lt_of_le_of_lt (Nat.mul_le_mul_left 300 wti) (by decide))
      have m2 := lim_mid (lim_zp (n := pp.2) (pos_ne bd.2.1) bd.2.2) (Nat.lt_of_le_of_lt (Nat.mul_le_mul_left 300 (by omega : pp.2.natAbs ≤ 12)) (by decide))
      refine ⟨s, u2, _, _, _, _, rfl, s7 _ _ (s46 _ _ hs4), h7, m1, m2, fun y hy => ?_⟩
      rw [mul_rat]
      have n8 := AL.Same.new (o := .tup [.int (szV (msK es) (ps.take i) * zpw e.sz pp.2).num, .int ((szV (msK es) (ps.take i) * zpw e.sz pp.2).den : Int)]) hy
      refine ⟨xr, y, _, _, _, _, _, _, _, _, rfl, s4.trans (s46.trans (s7.trans n8)), ?_, ?_⟩
      · rw [tk, ← sn]; exact n8 _ _ (s7 _ _ hx6)
      · rw [tk, szV_snoc, show szOf (msK es) pp.1 = e.sz from szOf_of mo]; exact upd_same
    · rintro σ H4 ⟨x, s, v4, v5, v6, v7, v8, v9, v10, v11, rfl, s4, hx4, hs4⟩
      rw [List.length_map, lts, List.take_length] at hx4 hs4
      refine ⟨_, rfl, _, rfl, (by show 2 ≤ sizeLine; decide), fun t ht => ?_⟩
      have n9 := AL.Same.new (o := .tup [.ref x, .ref s]) ht
      exact q t x s _ ((s03.trans s4).trans n9) upd_same (n9 _ _ hx4) (n9 _ _ hs4)
end
end AL
set_option Elab.async false
set_option maxRecDepth 100000
set_option exponentiation.threshold 70000
set_option maxHeartbeats 1000000
namespace AL
open PySem PySem.Spec PyProof.Rows L2 RZ
section
variable {P : Program} {w : World} {K : PySem.W.Frag} {mg : Str → Option Value} {base : Heap}

def unitNm (es : List Kn) : List (List Nat) := (es.filter fun e => !e.sc).map (·.nm)
theorem unitNm_snoc {es : List Kn} {i : Nat} {e : Kn} (h : es[i]? = some e) : unitNm (es.take (i + 1)) = unitNm (es.take i) ++ (if e.sc = true then [] else [e.nm]) := by
  unfold unitNm
  rw [List.take_add_one, h, Option.toList_some, List.filter_append, List.map_append]
  cases z : e.sc <;> simp [z]
theorem frz_tu {H : Hp} {d : Addr} {kvs : List (Key × V)} {o : HO} (h : H d = some (.dK kvs)) : ∀ b ys, H b = some (.tup ys) → upd H d o b = some (.tup ys) := fun b ys w => by rw [upd_ne (fun z => by rw [z, h] at w; cases w)]; exact w
/-- _law_pairs(pen, units, most) -/
def spPr : Sp := fun vs H Q _ => ∃ (p c u b d ln : Addr) (m n k : Nat) (es : List Kn), vs = [.ref p, .ref u, .int (k : Int)] ∧ Pen H p c m ∧ m < 800000000 ∧ k ≤ 4 ∧ LUn H u b d ln ∧ KnAt H d es ∧ KnOk n es ∧ es.length ≤ 40 ∧ u ≠ p ∧ d ≠ p ∧ u ≠ d ∧ (∃ e ∈ es, e.sc = false) ∧
  ∀ a H' ps, Pen H' p c (m + 20) → Keep p H H' → PrAt H' a ps → PwOk es ps → ps.length ≤ k → Q (.ref a) H'

abbrev st_law_pairs : Stmt := top 62
theorem sc_law_pairs : FnScope ["_law_pen_here", "_law_units_here", "_law_most", "_law_names_here", "_law_name_here", "_law_powers", "_law_k"] ["_law_pen_here", "_law_units_here", "_law_most"] (defScope st_law_pairs) := ⟨rfl, rfl, rfl, by decide +kernel, rfl, by decide +kernel, by decide +kernel⟩
theorem ok_law_pairs (B : Blt mg) {CUnits : Addr} (Es : ErU K mg CUnits) {f_law_draw : Addr} {fd_law_draw : FuncData} (D_law_draw : DefAt K mg "_law_draw" st_law_draw ["_law_pen_here", "_law_many"] f_law_draw fd_law_draw) {f_law_pick : Addr} {fd_law_pick : FuncData} (D_law_pick : DefAt K mg "_law_pick" st_law_pick ["_law_pen_here", "_law_some"] f_law_pick fd_law_pick) {f_law_pairs : Addr} {fd_law_pairs : FuncData} (D_law_pairs : DefAt K mg "_law_pairs" st_law_pairs ["_law_pen_here", "_law_units_here", "_law_most"] f_law_pairs fd_law_pairs) : FnOk P w K mg base CX0 3 f_law_pairs fd_law_pairs ["_law_pen_here", "_law_units_here", "_law_most"] spPr := by
  obtain ⟨uD, hD, rD⟩ := Es.dig
  obtain ⟨uM, hM, rM⟩ := Es.most
  obtain ⟨uL, hL, rL⟩ := Es.lett
  obtain ⟨uN, hN, rN⟩ := Es.long
  obtain ⟨uB, hB, rB⟩ := Es.most6
  have OK_law_draw : FnOk P w K mg base CX0 1 f_law_draw fd_law_draw ["_law_pen_here", "_law_many"] spDraw := ok_law_draw B  D_law_draw
  have OK_law_pick : FnOk P w K mg base CX0 2 f_law_pick fd_law_pick ["_law_pen_here", "_law_some"] (spPick K) := ok_law_pick B  D_law_draw D_law_pick
  refine D_law_pairs.F.ok sc_law_pairs (fun vs H Q E h => ?_) (fun cdv A outer s H vs Q E hr h => ?_)
  · obtain ⟨p, c, u, b, d, ln, m, n, k, es, rfl, _⟩ := h; rfl
  · have hu := hu_of hr
    refine ⟨_, (pss_cons (ps_lock (ps_set (i := 3) sc_law_pairs.nd rfl (Or.inr rfl) (pe_lc (own := [("_law_name_here", 4)]) (g := gName 4) rfl sc_law_pairs.nd (pi_keys (pe_dget hu (pv 1) pe_str (fun _ _ => rfl))) (blkOk_by (own := [("_law_name_here", 4)]) (N := ["_law_pen_here", "_law_units_here", "_law_most", "_law_names_here", "_law_name_here", "_law_powers", "_law_k"]) (sc := defScope st_law_pairs) (by decide +kernel)) (fun _ _ _ _ _ => pg_name (i := 4) sc_law_pairs.nd rfl (Or.inl rfl)) (fun _ _ _ _ _ => (pts_one (pt_not (pt_val (pe_ix (ix_tup : IxR _ (rIxT K)) (pe_dget hu (pe_dget hu (pv 1) pe_str (fun _ _ => rfl)) (pv 4) (fun _ _ => rfl)) pe_int (fun _ _ => rfl)))))) (fun _ _ _ _ _ => (pv 4)))))
    (pss_cons (ps_set (i := 5) sc_law_pairs.nd rfl (Or.inr rfl) (pe_lst (pa_cons pe_int (pa_cons pe_int (pa_cons pe_int (pa_cons (pe_un un_neg pe_int) (pa_cons pe_int (pa_cons (pe_un un_neg pe_int) (pa_cons pe_int (pa_cons pe_int pa_nil))))))))))
    (pss_one (ps_ret (pe_lc (own := [("_law_k", 6)]) (g := gName 6) (tt := tYes) rfl sc_law_pairs.nd (pi_range1 rfl B.range_ (pa_cons (pe_call OK_law_draw (hr.mono (by decide)) rfl D_law_draw.m D_law_draw.F.kp D_law_draw.b .nil pass0 (pa_cons (pv 0) (pa_cons (pe_op op_add (pv 2) pe_int) pa_nil))) pa_nil)) (blkOk_by (own := [("_law_k", 6)]) (N := ["_law_pen_here", "_law_units_here", "_law_most", "_law_names_here", "_law_name_here", "_law_powers", "_law_k"]) (sc := defScope st_law_pairs) (by decide +kernel)) (fun _ _ _ _ _ => pg_name (i := 6) sc_law_pairs.nd rfl (Or.inl rfl)) (fun _ _ _ _ _ => pts_nil) (fun _ _ _ _ _ => (pe_tup (pa_cons (pe_call OK_law_pick (hr.mono (by decide)) rfl D_law_pick.m D_law_pick.F.kp D_law_pick.b .nil pass0 (pa_cons (pv 0) (pa_cons (pv 3) pa_nil))) (pa_cons (pe_call OK_law_pick (hr.mono (by decide)) rfl D_law_pick.m D_law_pick.F.kp D_law_pick.b .nil pass0 (pa_cons (pv 0) (pa_cons (pv 5) pa_nil))) pa_nil))))))))), ?_⟩
    obtain ⟨p, c, u, b, d, ln, m, n, k, es, rfl, P, hm, hk4, hu1, hk, ok, le, up, dp, ud, hex, q⟩ := h
    obtain ⟨kvs, hd, pr⟩ := id hk
    have lk := pair_len pr
    refine ⟨d, _, hd, trivial, fun od => ?_⟩
    have prF : Paired (KnR (upd H d (.frz od (.dK kvs)))) kvs es := paired_imp (fun _ _ z => ⟨z.1, z.2.tu (frz_tu hd)⟩) pr
    have fz : upd H d (.frz od (.dK kvs)) d = some (.frz od (.dK kvs)) := upd_same
    have uF : LUn (upd H d (.frz od (.dK kvs))) u b d ln := Eq.trans (upd_ne ud) hu1
    have hof : ∀ b o, b ≠ d → H b = some o → upd H d (.frz od (.dK kvs)) b = some o := fun b o ne w => by rw [upd_ne ne]; exact w
    generalize upd H d (.frz od (.dK kvs)) = HF at prF fz uF hof ⊢
    refine ⟨_, rfl, _, _, rfl, uF.known, d, od, rfl, .inl ⟨_, fz, fun D hD => ?_⟩⟩
    refine lc_it (walk_keys (d := d) (o := od) (kvs := kvs)) (fun i H' => Same HF H' ∧ H' D = some (.lst ((unitNm (es.take i)).map vS))) ⟨AL.Same.new hD, upd_same⟩ (fun i H' _ hh => hh.1 _ _ fz) ?_ ?_
    · rintro i y H4 H4' hi ⟨s4, hD4⟩ ⟨rfl, kk, v, hkv, rfl⟩
      obtain ⟨e, he, hkn, hv⟩ := prd_ix prF hkv
      dsimp only at hkn hv
      subst hkn
      have ke : knOf es e.nm = some e := knOf_at ok.nd (List.mem_of_getElem? he)
      have pr4 : Paired (KnR H4') kvs es := paired_imp (fun _ _ z => ⟨z.1, z.2.tu (fun b ys w => s4 _ _ w)⟩) prF
      obtain ⟨v2, hg, t, r, z, f, rfl, h1, _⟩ := kn_get (.inr ⟨od, s4 _ _ fz⟩) pr4 ke
      have un := unitNm_snoc he
      have ulen : (unitNm (es.take i)).length ≤ i := by
        unfold unitNm
        rw [List.length_map]
        refine Nat.le_trans (List.length_filter_le _ _) ?_
        rw [List.length_take]; omega
      have il : i < es.length := (List.getElem?_eq_some_iff.mp he).1
      refine ⟨rfl, ?_⟩
      refine ⟨_, rfl, _, _, rfl, LUn.known (s4 _ _ uF), _, rfl, _, _, rfl, hg, t, _, _, _, rfl, rfl, SqT.of h1, rfl, _, rfl, ?_⟩
      cases hs : e.sc with
      | true =>
        refine iteF ?_
        rw [un, hs]
        exact ⟨s4, by rw [hD4]; simp⟩
      | false =>
        refine iteT ?_
        refine ⟨_, rfl, _, hD4, ?_, AL.Same.updn s4 hD, ?_⟩
        · rw [List.length_map]; exact Nat.lt_of_le_of_lt (by omega : _ ≤ 100) (by decide)
        · rw [upd_same, un, hs, List.map_append]; rfl
    rintro H4 ⟨s4, hD4⟩
    rw [lk, List.take_length] at hD4
    refine ⟨s4 _ _ fz, ?_⟩
    have dD : D ≠ d := fun z => by rw [z, s4 _ _ fz] at hD4; cases hD4
    have s1 : Same H (upd H4 d (.dK kvs)) := fun b o w => by
      by_cases z : b = d
      · subst z; rw [hd] at w; rw [upd_same, w]
      · rw [upd_ne z]; exact s4 _ _ (hof _ _ z w)
    have hD5 : upd H4 d (.dK kvs) D = some (.lst ((unitNm es).map vS)) := by rw [upd_ne dD]; exact hD4
    generalize upd H4 d (.dK kvs) = H5 at s1 hD5 ⊢
    clear hD4 s4 hD fz uF prF hof
    have une : (unitNm es) ≠ [] := by
      obtain ⟨e, he, hs⟩ := hex
      intro z
      have : e.nm ∈ unitNm es := List.mem_map.mpr ⟨e, List.mem_filter.mpr ⟨he, by rw [hs]; rfl⟩, rfl⟩
      rw [z] at this; cases this
    have ulen : (unitNm es).length ≤ 40 := by
      unfold unitNm
      rw [List.length_map]
      exact Nat.le_trans (List.length_filter_le _ _) le
    have upos : 0 < (unitNm es).length := List.length_pos_iff.mpr une
    refine ⟨_, rfl, _, rfl, (by show 8 ≤ sizeLine; decide), fun l hl => ?_⟩
    have n6 := AL.Same.new (o := .lst [.int 1, .int 1, .int 1, .int (-1), .int 2, .int (-2), .int 3, .int 0]) hl
    have hL6 : upd H5 l (.lst [.int 1, .int 1, .int 1, .int (-1), .int 2, .int (-2), .int 3, .int 0]) l = _ := upd_same
    have hD6 := n6 _ _ hD5
    have P6 := (P.same s1).same n6
    have s06 := s1.trans n6
    generalize upd H5 l (.lst [.int 1, .int 1, .int 1, .int (-1), .int 2, .int (-2), .int 3, .int 0]) = H6 at hL6 hD6 P6 s06 ⊢
    clear n6 hl hD5 s1
    refine ⟨_, rfl, _, rfl, _, _, rfl, rfl, ?_⟩
    refine ⟨p, c, m, _, rfl, P6, by omega, by omega, by omega, fun r H7 r0 r1 P7 k7 => ?_⟩
    obtain ⟨r, rfl⟩ := Int.eq_ofNat_of_zero_le r0
    have hL7 := k7.at P6 hL6 (fun _ z => by cases z)
    have hD7 := k7.at P6 hD6 (fun _ z => by cases z)
    have k07 : Keep p H H7 := (Same.k s06).trans k7
    refine ⟨_, rfl, by omega, by omega, fun D2 hD2 => ?_⟩
    have D2p : D2 ≠ p := fun z => by obtain ⟨kk, hk⟩ := P7.dict; rw [← z, hD2] at hk; cases hk
    have D2c : D2 ≠ c := fun z => by obtain ⟨ns, _, _, _, _, _, hc, _⟩ := P7.ex; rw [← z, hD2] at hc; cases hc
    have n8 := AL.Same.new (o := .lst []) hD2
    refine lc_it (walk_range (lo := 0) (n := ((r : Int)).toNat)) (fun i H' => ∃ (ts : List Addr) (ps : Pw), H' D2 = some (.lst (ts.map V.ref)) ∧ Paired (fun (t : Addr) (p : List Nat × Int) => H' t = some (.tup [.str (S p.1), .int p.2])) ts ps ∧ PwOk es ps ∧ ps.length = i ∧ Pen H' p c (m + 1 + 2 * i) ∧ Keep p H7 H') ⟨[], [], upd_same, .nil, (fun _ h => nomatch h), rfl, (P7.same n8), Same.k n8⟩ (fun _ _ _ _ => trivial) ?_ ?_
    · rintro i x H8 H8' hi ⟨ts, ps, hT8, pr8, pok, lp, P8, k8⟩ ⟨rfl, rfl⟩
      have hL8 : H8' l = _ := k8.at P7 hL7 (fun _ z => by cases z)
      have hD8 : H8' D = _ := k8.at P7 hD7 (fun _ z => by cases z)
      have lt := pair_len pr8
      refine ⟨rfl, ?_⟩
      refine ⟨_, rfl, _, rfl, p, c, D, _, _, rfl, P8, by omega, SqL.of hD8, by rw [List.length_map]; exact upos, by rw [List.length_map]; omega, fun j x1 H9 hx1 P9 k9 => ?_⟩
      obtain ⟨nm, hnm, rfl⟩ : ∃ nm, (unitNm es)[j]? = some nm ∧ x1 = .str (S nm) := by
        rw [List.getElem?_map] at hx1
        cases e : (unitNm es)[j]? with
        | none => rw [e] at hx1; cases hx1
        | some a => rw [e] at hx1; exact ⟨a, rfl, (Option.some.inj hx1).symm⟩
      refine ⟨_, rfl, _, rfl, p, c, l, _, _, rfl, P9, by omega, SqL.of (k9.at P8 hL8 (fun _ z => by cases z)), (by show 0 < 8; decide), (by show 8 < 1000000000; decide), fun j2 x2 HA hx2 PA kA => ?_⟩
      obtain ⟨v, rfl, v0, v1⟩ : ∃ v : Int, x2 = V.int v ∧ -2 ≤ v ∧ v ≤ 3 := by
        refine pick_of (P := fun x => ∃ v : Int, x = V.int v ∧ -2 ≤ v ∧ v ≤ 3) (fun y hy => ?_) hx2
        simp only [List.mem_cons, List.not_mem_nil, or_false] at hy
        rcases hy with rfl | rfl | rfl | rfl | rfl | rfl | rfl | rfl
        · exact ⟨1, rfl, by decide, by decide⟩
        · exact ⟨1, rfl, by decide, by decide⟩
        · exact ⟨1, rfl, by decide, by decide⟩
        · exact ⟨-1, rfl, by decide, by decide⟩
        · exact ⟨2, rfl, by decide, by decide⟩
        · exact ⟨-2, rfl, by decide, by decide⟩
        · exact ⟨3, rfl, by decide, by decide⟩
        · exact ⟨0, rfl, by decide, by decide⟩
      refine ⟨(by show 2 ≤ sizeLine; decide), fun t ht => ?_⟩
      have kAA : Keep p H8' HA := k9.trans kA
      have nB := AL.Same.new (o := .tup [.str (S nm), .int v]) ht
      have hTA : HA D2 = _ := kAA.at P8 hT8 (fun _ z => by cases z)
      have tu : ∀ b ys, HA b = some (.tup ys) → upd (upd HA t (.tup [.str (S nm), .int v])) D2 (.lst (ts.map V.ref ++ [V.ref t])) b = some (.tup ys) := fun b ys h => by rw [upd_ne (fun z => by rw [z, hTA] at h; cases h)]; exact nB _ _ h
      have tD : t ≠ D2 := fun z => by rw [z, hTA] at ht; cases ht
      obtain ⟨e, he, en⟩ := List.mem_map.mp (List.mem_of_getElem? hnm)
      have hf := List.mem_filter.mp he
      refine ⟨_, nB _ _ hTA, ?_, ts ++ [t], ps ++ [(nm, v)], by rw [upd_same, List.map_append]; rfl, ?_, ?_, ?_, ?_, ?_⟩
      · rw [List.length_map]; exact Nat.lt_of_le_of_lt (by omega : _ ≤ 100) (by decide)
      · exact paired_snoc (paired_imp (fun _ _ z => tu _ _ (kAA.at P8 z (fun _ w => by cases w))) pr8) (by rw [upd_ne tD]; exact upd_same)
      · intro q hq
        rcases List.mem_append.mp hq with h | h
        · exact pok q h
        · rw [List.mem_singleton.mp h]
          exact ⟨e, hf.1, en, by simpa using hf.2, v0, v1⟩
      · rw [List.length_append, lp]; rfl
      · exact ((PA.same nB).keep (fun o h => by rw [upd_ne (Ne.symm D2p)]; exact h) fun o h => by rw [upd_ne (Ne.symm D2c)]; exact h).mono (by omega)
      · intro b o nb h
        have h8 := k8 b o nb h
        rw [upd_ne (fun z => by rw [z, hD2] at h; cases h)]
        exact nB _ _ (kAA b o nb h8)
    rintro H8 ⟨ts, ps, hT8, pr8, pok, lp, P8, k8⟩
    exact q D2 H8 ps (P8.mono (by omega)) (k07.trans k8) ⟨ts, hT8, pr8⟩ pok (by omega)
end
end AL
set_option Elab.async false
set_option maxRecDepth 100000
set_option exponentiation.threshold 70000
set_option maxHeartbeats 1000000
namespace AL
open PySem PySem.Spec PyProof.Rows L2 RZ
section
variable {P : Program} {w : World} {K : PySem.W.Frag} {mg : Str → Option Value} {base : Heap}

def dP (q : List Nat × Int) : PyData := .tuple [.str (S q.1), .int q.2]
theorem can_pairs {ps : Pw} (h : ∀ q ∈ ps, PyData.strOk (S q.1) = true) : PyData.canLayAll0 (ps.map dP) = true ∧ PyData.depthAll (ps.map dP) ≤ 1 := by
  induction ps with
  | nil => exact ⟨rfl, Nat.zero_le _⟩
  | cons b l ih =>
    have ih := ih fun x m => h x (List.mem_cons_of_mem _ m)
    have c := h b (List.mem_cons_self ..)
    refine ⟨?_, ?_⟩
    · simp only [List.map_cons, dP, PyData.canLayAll0, PyData.canLay0, c, Bool.true_and]; exact ih.1
    · simp only [List.map_cons, dP, PyData.depthAll, PyData.depth]
      exact Nat.max_le.mpr ⟨by decide, ih.2⟩
theorem shaped_pairs {ps : Pw} (h : ∀ q ∈ ps, PyData.strOk (S q.1) = true) : SeqAt.shaped (.list (ps.map dP)) = true := by
  have c := can_pairs h
  unfold SeqAt.shaped
  rw [show PyData.canLay0 (.list (ps.map dP)) = true by simpa [PyData.canLay0] using c.1]
  have : PyData.depth (.list (ps.map dP)) ≤ 64 := by simp only [PyData.depth]; omega
  rw [decide_eq_true this]; rfl
theorem dp_pairs {K : PySem.W.Frag} {H : Hp} : ∀ {ts : List Addr} {ps : Pw}, Paired (fun (t : Addr) (p : List Nat × Int) => H t = some (.tup [.str (S p.1), .int p.2])) ts ps → DpAll K H (ts.map V.ref) (ps.map dP)
  | _, _, .nil => .nil
  | _, _, .cons h r => .cons (.tup (SqT.of h) (.cons (.str _) (.cons (.int _) .nil))) (dp_pairs r)
/-- _law_pair_words(pen, pairs) -/
def spPw : Sp := fun vs H Q _ => ∃ (p c a : Addr) (m : Nat) (ps : Pw), vs = [.ref p, .ref a] ∧ Pen H p c m ∧ m < 900000000 ∧ PrAt H a ps ∧ ps.length ≤ 4 ∧ (∀ q ∈ ps, nmOk q.1 = true ∧ -2 ≤ q.2 ∧ q.2 ≤ 3) ∧
  ∀ w H' us, Pen H' p c (m + 5) → Keep p H H' → TxL H' w (wtx us) → pws us = ps → (∀ u ∈ us, u.Ok) → Q (.ref w) H'

abbrev st_law_pair_words : Stmt := top 63
theorem sc_law_pair_words : FnScope ["_law_pen_here", "_law_pairs_here", "_law_name_here", "_law_power_here"] ["_law_pen_here", "_law_pairs_here"] (defScope st_law_pair_words) := ⟨rfl, rfl, rfl, by decide +kernel, rfl, by decide +kernel, by decide +kernel⟩
theorem ok_law_pair_words (B : Blt mg) {CUnits : Addr} (Es : ErU K mg CUnits) {f_law_draw : Addr} {fd_law_draw : FuncData} (D_law_draw : DefAt K mg "_law_draw" st_law_draw ["_law_pen_here", "_law_many"] f_law_draw fd_law_draw) {f_law_pair_words : Addr} {fd_law_pair_words : FuncData} (D_law_pair_words : DefAt K mg "_law_pair_words" st_law_pair_words ["_law_pen_here", "_law_pairs_here"] f_law_pair_words fd_law_pair_words) : FnOk P w K mg base CX0 2 f_law_pair_words fd_law_pair_words ["_law_pen_here", "_law_pairs_here"] spPw := by
  obtain ⟨uD, hD, rD⟩ := Es.dig
  obtain ⟨uM, hM, rM⟩ := Es.most
  obtain ⟨uL, hL, rL⟩ := Es.lett
  obtain ⟨uN, hN, rN⟩ := Es.long
  obtain ⟨uB, hB, rB⟩ := Es.most6
  have OK_law_draw : FnOk P w K mg base CX0 1 f_law_draw fd_law_draw ["_law_pen_here", "_law_many"] spDraw := ok_law_draw B  D_law_draw
  refine D_law_pair_words.F.ok sc_law_pair_words (fun vs H Q E h => ?_) (fun cdv A outer s H vs Q E hr h => ?_)
  · obtain ⟨p, c, a, m, ps, rfl, _⟩ := h; rfl
  · have hu := hu_of hr
    refine ⟨_, (pss_cons (ps_if (pt_cmpR (op_eqD hr.units) (pv 1) (pe_lst pa_nil) (nomark _)) (pss_one (ps_ret (pe_lst (pa_cons pe_str pa_nil)))) pss_nil)
    (pss_one (ps_ret (pe_lc (own := [("_law_name_here", 2), ("_law_power_here", 3)]) (g := gTup K 2 (gCons (gName 2) (gCons (gName 3) gNil))) (tt := tYes) rfl sc_law_pair_words.nd (pi_list (pv 1)) (blkOk_by (own := [("_law_name_here", 2), ("_law_power_here", 3)]) (N := ["_law_pen_here", "_law_pairs_here", "_law_name_here", "_law_power_here"]) (sc := defScope st_law_pair_words) (by decide +kernel)) (fun _ _ _ _ _ => (pg_tup rfl (pgs_cons (pg_name (i := 2) sc_law_pair_words.nd rfl (Or.inl rfl)) (pgs_cons (pg_name (i := 3) sc_law_pair_words.nd rfl (Or.inl rfl)) pgs_nil)))) (fun _ _ _ _ _ => pts_nil) (fun _ _ _ _ _ => (pe_ifExp (PW.pt (pw_and (pt_cmpR op_eq (pv 3) pe_int (nomark _)) (pw_and1 (pt_cmpR op_gt (pe_call OK_law_draw (hr.mono (by decide)) rfl D_law_draw.m D_law_draw.F.kp D_law_draw.b .nil pass0 (pa_cons (pv 0) (pa_cons pe_int pa_nil))) pe_int (nomark _))))) (pv 2) (pe_op op_add_str (pe_op op_add_str (pv 2) pe_str) (pe_callTy (call_str_intL hr.hd Es.nodig) (by rfl) B.str_ (by decide +kernel) (pa_cons (pv 3) pa_nil))))))))), ?_⟩
    obtain ⟨p, c, a, m, ps, rfl, P, hm, hpr, pl, pok, q⟩ := h
    obtain ⟨ts, ha, pr⟩ := hpr
    have lt := pair_len pr
    refine ⟨_, rfl, (by show 0 ≤ sizeLine; decide), fun z hz => ?_⟩
    have n1 := AL.Same.new (o := .lst []) hz
    have pr1 : Paired (fun (t : Addr) (p : List Nat × Int) => (upd H z (.lst [])) t = some (.tup [.str (S p.1), .int p.2])) ts ps := paired_imp (fun _ _ w => n1 _ _ w) pr
    refine ⟨_, _, Dp.lst (SqL.of (n1 _ _ ha)) (dp_pairs pr1), Dp.lst (SqL.of upd_same) .nil, shaped_pairs (fun q hq => strOk_of (nm_low (pok q hq).1)), (by decide +kernel), _, rfl, ?_⟩
    have ha1 := n1 _ _ ha
    have P1 := P.same n1
    generalize upd H z (.lst []) = H1 at n1 pr1 ha1 P1 ⊢
    cases ps with
    | nil =>
      rw [show PyData.eqv (.list (([] : Pw).map dP)) (.list []) = true by rw [PyData.eqv]; rfl]
      refine iteT ?_
      refine ⟨(by show 1 ≤ sizeLine; decide), fun w hw => ?_⟩
      have n2 := AL.Same.new (o := .lst [.str "1"]) hw
      exact q w _ [] ((P1.same n2).mono (by omega)) (Same.k (n1.trans n2)) (by unfold TxL; rw [upd_same, oneS]; rfl) rfl (fun _ h => nomatch h)
    | cons q0 ps0 =>
      rw [show PyData.eqv (.list ((q0 :: ps0).map dP)) (.list []) = false by rw [PyData.eqv]; rfl]
      refine iteF ?_
      refine ⟨_, rfl, ?_⟩
      refine ⟨a, rfl, ⟨_, SqL.of ha1⟩, fun D hD => ?_⟩
      have n2 := AL.Same.new (o := .lst []) hD
      have Dp : D ≠ p := fun z => by obtain ⟨kk, hk⟩ := P1.dict; rw [← z, hD] at hk; cases hk
      have Dc : D ≠ c := fun z => by obtain ⟨ns, _, _, _, _, _, hc, _⟩ := P1.ex; rw [← z, hD] at hc; cases hc
      refine lc_list (K := K) (a := a) (xs := ts.map V.ref) (fun i H' => ∃ us : List UW, H' D = some (.lst ((us.map UW.tx).map vS)) ∧ pws us = (q0 :: ps0).take i ∧ (∀ u ∈ us, u.Ok) ∧ Pen H' p c (m + i) ∧ Keep p H1 H') ⟨[], upd_same, rfl, (fun _ h => nomatch h), P1.same n2, Same.k n2⟩ (fun i H' _ hh => ?_) ?_ ?_
      · obtain ⟨us, _, _, _, P2, k2⟩ := hh
        exact SqL.of (k2.at P1 ha1 (fun _ z => by cases z))
      · rintro i y H2 hy ⟨us, hD2, pw, uok, P2, k2⟩
        obtain ⟨tp, htp, rfl⟩ : ∃ tp, ts[i]? = some tp ∧ y = .ref tp := by
          rw [List.getElem?_map] at hy
          cases e : ts[i]? with
          | none => rw [e] at hy; cases hy
          | some a => rw [e] at hy; exact ⟨a, rfl, (Option.some.inj hy).symm⟩
        obtain ⟨pp, hpp, hT⟩ := prd_ix pr1 htp
        have hT2 := k2.at P1 hT (fun _ z => by cases z)
        obtain ⟨ok, lo, hi⟩ := pok pp (List.mem_of_getElem? hpp)
        have il := (List.getElem?_eq_some_iff.mp hpp).1
        have ul : us.length = i := by
          have := congrArg List.length pw
          unfold pws at this
          rw [List.length_map, List.length_take] at this
          omega
        have fin : ∀ (uw : UW) (HB : Hp), uw.Ok → (uw.nm, uw.k) = pp → Pen HB p c (m + i + 1) → Keep p H2 HB → ∃ acc, HB D = some (.lst acc) ∧ acc.length < sizeLine ∧ ∃ us : List UW, upd HB D (.lst (acc ++ [vS uw.tx])) D = some (.lst ((us.map UW.tx).map vS)) ∧ pws us = (q0 :: ps0).take (i + 1) ∧ (∀ u ∈ us, u.Ok) ∧ Pen (upd HB D (.lst (acc ++ [vS uw.tx]))) p c (m + (i + 1)) ∧ Keep p H1 (upd HB D (.lst (acc ++ [vS uw.tx]))) := fun uw HB uwok e PB kB => by
          refine ⟨_, kB.at P2 hD2 (fun _ z => by cases z), ?_, us ++ [uw], ?_, ?_, ?_, ?_, ?_⟩
          · rw [List.length_map, List.length_map]; exact Nat.lt_of_le_of_lt (by omega : _ ≤ 100) (by decide)
          · rw [upd_same, List.map_append, List.map_append]; rfl
          · rw [pws_snoc, pw, e, List.take_add_one, hpp]; rfl
          · intro u hu
            rcases List.mem_append.mp hu with h | h
            · exact uok u h
            · rw [List.mem_singleton.mp h]; exact uwok
          · exact (PB.keep (fun o h => by rw [upd_ne (Ne.symm Dp)]; exact h) fun o h => by rw [upd_ne (Ne.symm Dc)]; exact h).mono (by omega)
          · intro b o nb h
            have h2 := k2 b o nb h
            rw [upd_ne (fun z => by rw [z, hD] at h; cases h)]
            exact kB b o nb h2
        have hat : ∀ HB, Pen HB p c (m + i + 1) → Keep p H2 HB → (S pp.1).length + ("^" : Str).length ≤ sizeLine ∧ pp.2.natAbs < 10 ^ 4300 ∧ (S pp.1 ++ "^" : Str).length + (Str.ofString (toString pp.2) : Str).length ≤ sizeLine ∧ (S pp.1 ++ "^" ++ Str.ofString (toString pp.2) : Str) = S (UW.tx ⟨pp.1, pp.2, true⟩) := fun HB PB kB => by
          have ll := nm_len ok
          have dk := dg_ok (by omega : -99 ≤ pp.2) (by omega)
          have bigS : (20000 : Nat) ≤ sizeLine := by decide
          have h94 : ("^" : Str).length = 1 := by decide +kernel
          have hdl : (Str.ofString (toString pp.2) : Str).length ≤ 3 := by rw [dg_str, S_len]; exact dk.2.2.1
          refine ⟨by rw [h94, S_len]; omega, dg_small (by omega) (by omega), by rw [Str.length_append, h94, S_len]; omega, ?_⟩
          unfold UW.tx
          rw [if_pos rfl, dg_str, hatS]
          show (⟨(pp.1.toArray ++ [94].toArray) ++ (dg pp.2).toArray⟩ : Str) = S _
          simp [S]
        refine ⟨tp, _, rfl, SqT.of hT2, rfl, _, _, rfl, _, _, rfl, rfl, rfl, ?_⟩
        refine ⟨_, rfl, rfl, _, rfl, ?_⟩
        refine ite2 (fun h1 => ?_) (fun h1 => ?_)
        · have k1 : pp.2 = 1 := by simpa using h1
          refine ⟨_, rfl, p, c, m + i, 6, rfl, P2, by omega, by decide, by decide, fun r H3 r0 r1 P3 k3 => ?_⟩
          refine ⟨_, _, rfl, rfl, _, rfl, ?_⟩
          refine ite2 (fun h2 => ?_) (fun h2 => ?_)
          · refine ⟨_, rfl, ?_⟩
            exact fin ⟨pp.1, pp.2, false⟩ H3 ⟨ok, by show -99 ≤ pp.2; omega, by show pp.2 ≤ 99; omega, fun _ => k1⟩ rfl P3 k3
          · obtain ⟨z1, z2, z3, z4⟩ := hat H3 P3 k3
            refine ⟨_, rfl, _, _, rfl, rfl, z1, _, rfl, _, rfl, z2, _, _, rfl, rfl, z3, ?_⟩
            rw [z4]
            exact fin ⟨pp.1, pp.2, true⟩ H3 ⟨ok, by show -99 ≤ pp.2; omega, by show pp.2 ≤ 99; omega, fun z => by cases z⟩ rfl P3 k3
        · obtain ⟨z1, z2, z3, z4⟩ := hat H2 (P2.mono (by omega)) (Keep.refl _ _)
          refine iteF ?_
          refine ⟨_, rfl, _, _, rfl, rfl, z1, _, rfl, _, rfl, z2, _, _, rfl, rfl, z3, ?_⟩
          rw [z4]
          exact fin ⟨pp.1, pp.2, true⟩ H2 ⟨ok, by show -99 ≤ pp.2; omega, by show pp.2 ≤ 99; omega, fun z => by cases z⟩ rfl (P2.mono (by omega)) (Keep.refl _ _)
      rintro H2 ⟨us, hD2, pw, uok, P2, k2⟩
      rw [List.length_map, lt, List.take_length] at pw
      have une : us.isEmpty = false := by
        cases us with
        | nil => cases pw
        | cons x r => rfl
      exact q D H2 us (P2.mono (by rw [List.length_map]; omega)) ((Same.k n1).trans k2) (by unfold TxL; rw [wtx_map une]; exact hD2) pw uok
end
end AL
set_option Elab.async false
set_option maxRecDepth 100000
set_option exponentiation.threshold 70000
set_option maxHeartbeats 1000000
namespace AL
open PySem PySem.Spec PyProof.Rows L2 RZ
section
variable {P : Program} {w : World} {K : PySem.W.Frag} {mg : Str → Option Value} {base : Heap}

theorem npos {x : Rat} : 0 < x.num ↔ 0 < x := by
  have h1 := @Rat.num_nonneg x
  have h0 := @Rat.num_eq_zero x
  constructor
  · intro h
    have a : 0 ≤ x := h1.mp (Int.le_of_lt h)
    refine Rat.lt_of_le_of_ne a fun z => ?_
    rw [← z] at h; exact absurd h (by decide)
  · intro h
    have a := h1.mpr (Rat.le_of_lt h)
    have b : x.num ≠ 0 := fun z => by
      rw [h0.mp z] at h; exact absurd h (by decide +kernel)
    omega
theorem zpw_pos {x : Rat} (h : 0 < x) (n : Int) : 0 < zpw x n := by
  unfold zpw
  split
  · exact Rat.inv_pos.mpr (Rat.pow_pos h)
  · exact Rat.pow_pos h
theorem szV_pos0 {ms : List Me} : ∀ ps : Pw, (∀ p ∈ ps, 0 < szOf ms p.1) → 0 < szV ms ps := by
  refine snoc_ind ?_ ?_
  · intro _; exact (by decide +kernel : (0 : Rat) < 1)
  · intro l x ih h
    rw [szV_snoc]
    exact Rat.mul_pos (ih fun p hp => h p (List.mem_append_left _ hp)) (zpw_pos (h x (List.mem_append_right _ (List.mem_singleton.mpr rfl))) _)
theorem szV_pos {ms : List Me} {ps : Pw} (h : ∀ p ∈ ps, 0 < szOf ms p.1) : 0 < szV ms ps := szV_pos0 ps h
theorem lsum_bd0 {f : List Nat → Int} {M : Nat} : ∀ us : Pw, (∀ p ∈ us, (f p.1).natAbs ≤ M) → (lsum f us).natAbs ≤ wt us * M := by
  refine snoc_ind ?_ ?_
  · intro _; exact Nat.zero_le _
  · intro l x ih h
    rw [lsum_snoc, wt_snoc, Nat.add_mul]
    have a := ih fun p hp => h p (List.mem_append_left _ hp)
    have b := h x (List.mem_append_right _ (List.mem_singleton.mpr rfl))
    have c : (x.2 * f x.1).natAbs ≤ x.2.natAbs * M := by rw [Int.natAbs_mul]; exact Nat.mul_le_mul_left _ b
    have := Int.natAbs_add_le (lsum f l) (x.2 * f x.1)
    omega
theorem lsum_bd {f : List Nat → Int} {M : Nat} {us : Pw} (h : ∀ p ∈ us, (f p.1).natAbs ≤ M) : (lsum f us).natAbs ≤ wt us * M := lsum_bd0 us h
theorem lim_mono {a b : Nat} {x : Rat} (h : Lim a x) (l : a ≤ b) : Lim b x := ⟨Nat.le_trans h.1 l, Nat.le_trans h.2 l⟩
theorem lim_sum {a b : Nat} {x y : Rat} (hx : Lim a x) (hy : Lim b y) : Lim (2 * (a * b)) (x + y) := by
  have e := sum_rat x y
  unfold sumR at e
  have w := nrm_le (x.num * y.den + y.num * x.den) (x.den * y.den)
  rw [e] at w
  refine ⟨Nat.le_trans w.1 ?_, Nat.le_trans w.2 (Nat.le_trans (Nat.mul_le_mul hx.2 hy.2) (by omega))⟩
  have h1 : (x.num * (y.den : Int)).natAbs ≤ a * b := by rw [Int.natAbs_mul, Int.natAbs_natCast]; exact Nat.mul_le_mul hx.1 hy.2
  have h2 : (y.num * (x.den : Int)).natAbs ≤ a * b := by rw [Int.natAbs_mul, Int.natAbs_natCast, Nat.mul_comm a b]; exact Nat.mul_le_mul hy.1 hx.2
  have := Int.natAbs_add_le (x.num * (y.den : Int)) (y.num * (x.den : Int))
  omega
/-- bounds of what is known after i lines -/
structure GB (i : Nat) (e : Kn) : Prop where
  row : e.sc = false → ∀ k ∈ e.row, k.natAbs ≤ 10 ^ i
  one : e.sc = false → 0 < e.sz.num ∧ Lim (2 ^ 300) e.sz
  sz : Lim (2 ^ (300 + 110 * i)) e.sz
  sh : Lim (2 ^ (1000 * i)) e.sh
theorem GB.up {i : Nat} {e : Kn} (h : GB i e) : GB (i + 1) e :=
  ⟨fun s k hk => Nat.le_trans (h.row s k hk) (Nat.pow_le_pow_right (by decide) (by omega)), h.one, lim_mono h.sz (Nat.pow_le_pow_right (by decide) (by omega)), lim_mono h.sh (Nat.pow_le_pow_right (by decide) (by omega))⟩
/-- all that holds of units as the law draws them -/
structure UnF (B : List (List Nat)) (es : List Kn) (its : List Item) : Prop where
  ne : B ≠ []
  le : B.length ≤ 6
  bn : ∀ l ∈ B, nmOk l = true
  bd : B.Nodup
  ms : msK es = (gro B its).1
  ns : nsK es = (gro B its).2
  nms : es.map (·.nm) = B ++ its.map Item.nm
  nd : (es.map (·.nm)).Nodup
  nm : ∀ e ∈ es, nmOk e.nm = true
  row : ∀ e ∈ es, e.row.length = B.length
  gb : ∀ e ∈ es, GB its.length e
  it : ItsOk B its
  li : ∀ L ∈ allL B its, LineOk L
  un : ∃ e ∈ es, e.sc = false
theorem UnF.kok {B : List (List Nat)} {es : List Kn} {its : List Item} (h : UnF B es its) (l : its.length ≤ 6) : KnOk B.length es :=
  ⟨h.nd, h.nm, h.row, fun e he hs => ⟨fun k hk => Nat.lt_of_le_of_lt (Nat.le_trans ((h.gb e he).row hs k hk) (Nat.pow_le_pow_right (by decide) l)) (by decide), (h.gb e he).one hs⟩⟩
theorem UnF.len {B : List (List Nat)} {es : List Kn} {its : List Item} (h : UnF B es its) : es.length = B.length + its.length := by
  have := congrArg List.length h.nms
  rwa [List.length_map, List.length_append, List.length_map] at this
theorem nm_word {l : List Nat} (h : nmOk l = true) : WordOk l := ⟨nm_ne h, by have := nm_len h; omega, fun d hd => nm_no h (by rcases hd with rfl | rfl <;> rfl), nm_low h⟩
theorem wq_word {y : Rat} {l : List Nat} (h : WordQ y l) : WordOk l := by
  refine ⟨fun z => ?_, h.len, fun d hd m => ?_, fun c hc => ?_⟩
  · have := h.res
    rw [z] at this
    have e : res [] = .ratio y.num (y.den : Int) := this
    cases e
  · have := h.cod d m
    omega
  · have := h.cod c hc
    omega
theorem wtx_word {us : List UW} (h : ∀ u ∈ us, u.Ok) : ∀ w ∈ wtx us, WordOk w := by
  intro w hw
  unfold wtx at hw
  split at hw
  · rw [show w = [49] by simpa using hw]
    exact ⟨by decide, by decide, by rintro d (rfl | rfl) <;> decide, by intro c hc; rw [List.mem_singleton.mp hc]; decide⟩
  · obtain ⟨u, hu, rfl⟩ := List.mem_map.mp hw
    have l := tx_len (h u hu)
    exact ⟨fun z => by rw [z] at l; exact absurd l.1 (by decide), by omega, fun d hd => tx_no (h u hu) hd, tx_low (h u hu)⟩
theorem wtx_count (us : List UW) : (wtx us).length ≤ us.length + 1 := by
  unfold wtx
  split
  · show 1 ≤ _; omega
  · rw [List.length_map]; omega
theorem word_kw : WordOk [117, 110, 105, 116] ∧ WordOk [115, 99, 97, 108, 101] ∧ WordOk [98, 97, 115, 101] := by
  refine ⟨⟨by decide, by decide, by rintro d (rfl | rfl) <;> decide, by decide⟩, ⟨by decide, by decide, by rintro d (rfl | rfl) <;> decide, by decide⟩, ⟨by decide, by decide, by rintro d (rfl | rfl) <;> decide, by decide⟩⟩
theorem UnF.ofBase {B : List (List Nat)} (ne : B ≠ []) (le : B.length ≤ 6) (bn : ∀ l ∈ B, nmOk l = true) (bd : B.Nodup) : UnF B (baK B B.length) [] := by
  obtain ⟨m1, m2, m3⟩ := baK_ms B B.length (Nat.le_refl _)
  rw [List.take_length] at m3
  have b0 : B[0]? = some (B[0]'(List.length_pos_iff.mpr ne)) := List.getElem?_eq_getElem _
  refine ⟨ne, le, bn, bd, m1, m2, by rw [m3]; simp, by rw [m3]; exact bd, fun e he => ?_, fun e he => ?_, fun e he => ?_, fun i it h => (by cases h), fun L hL => ?_, ?_⟩
  · obtain ⟨j, l, _, hj, rfl⟩ := baK_mem he
    exact bn l (List.mem_of_getElem? hj)
  · obtain ⟨j, l, _, hj, rfl⟩ := baK_mem he
    exact unR_len _ _
  · obtain ⟨j, l, _, hj, rfl⟩ := baK_mem he
    refine ⟨fun _ k hk => ?_, fun _ => ⟨(by show 0 < (1 : Rat).num; decide), ?_⟩, ?_, ?_⟩
    · unfold unR at hk
      obtain ⟨a, _, rfl⟩ := List.mem_map.mp hk
      split <;> decide
    · exact ⟨Nat.one_le_two_pow, Nat.one_le_two_pow⟩
    · exact ⟨Nat.one_le_two_pow, Nat.one_le_two_pow⟩
    · exact ⟨Nat.zero_le _, Nat.one_le_two_pow⟩
  · rw [List.mem_singleton.mp (show L ∈ [[98, 97, 115, 101] :: B] from hL)]
    refine ⟨by simp, by rw [List.length_cons]; omega, fun w hw => ?_⟩
    rcases List.mem_cons.mp hw with rfl | hw
    · exact word_kw.2.2
    · exact nm_word (bn w hw)
  · refine ⟨⟨B[0]'(List.length_pos_iff.mpr ne), unR B.length 0, 1, 0, false⟩, ?_, rfl⟩
    unfold baK
    exact List.mem_filterMap.mpr ⟨0, List.mem_range.mpr (List.length_pos_iff.mpr ne), by rw [b0]; rfl⟩
theorem its_snoc {B : List (List Nat)} {its : List Item} {it : Item} (h : ItsOk B its) (ok : it.Ok (gro B its).1 (gro B its).2) (fit : it.Fits B.length (gro B its).1) : ItsOk B (its ++ [it]) := by
  intro i x hx
  rcases Nat.lt_or_ge i its.length with w | w
  · rw [List.getElem?_append_left w] at hx
    rw [List.take_append_of_le_length (Nat.le_of_lt w)]
    exact h i x hx
  · rw [List.getElem?_append_right w] at hx
    have i0 : i - its.length = 0 := by
      have := (List.getElem?_eq_some_iff.mp hx).1
      simp only [List.length_singleton] at this; omega
    rw [i0] at hx
    have : x = it := (Option.some.inj hx).symm
    subst this
    have e : i = its.length := by omega
    rw [e, List.take_left]
    exact ⟨ok, fit⟩
theorem nodup_snoc {α : Type} {L : List α} {x : α} (nd : L.Nodup) (h : x ∉ L) : (L ++ [x]).Nodup := by
  refine List.nodup_append.mpr ⟨nd, List.nodup_cons.mpr ⟨by simp, List.nodup_nil⟩, fun a ha y hy e => ?_⟩
  rw [List.mem_singleton.mp hy] at e
  exact h (e ▸ ha)
theorem meOf_no {es : List Kn} {nm : List Nat} (h : nm ∉ es.map (·.nm)) : meOf (msK es) nm = none := by
  refine List.find?_eq_none.mpr fun m hm => ?_
  unfold msK at hm
  obtain ⟨e, he, rfl⟩ := List.mem_map.mp hm
  rw [decide_eq_true_eq]
  exact fun z => h (List.mem_map.mpr ⟨e, (List.mem_filter.mp he).1, z⟩)
theorem ns_no {es : List Kn} {nm : List Nat} (h : nm ∉ es.map (·.nm)) : nm ∉ nsK es := by
  intro m
  unfold nsK at m
  obtain ⟨e, he, rfl⟩ := List.mem_map.mp m
  exact h (List.mem_map.mpr ⟨e, (List.mem_filter.mp he).1, rfl⟩)
theorem mem_snoc {α : Type} {L : List α} {x y : α} (h : y ∈ L ++ [x]) : y ∈ L ∨ y = x := by
  rcases List.mem_append.mp h with h | h
  · exact .inl h
  · exact .inr (List.mem_singleton.mp h)
theorem allL_snoc (B : List (List Nat)) (its : List Item) (it : Item) : allL B (its ++ [it]) = allL B its ++ [it.words] := by
  unfold allL
  rw [List.map_append]; rfl
theorem UnF.snoc {B : List (List Nat)} {es : List Kn} {its : List Item} {e : Kn} {it : Item} (h : UnF B es its) (en : e.nm = it.nm) (ok : nmOk e.nm = true) (new : e.nm ∉ es.map (·.nm)) (row : e.row.length = B.length) (gb : GB (its.length + 1) e)
    (hms : (if e.sc = true then [] else [(⟨e.nm, e.row, e.sz⟩ : Me)]) = (stepI B.length (msK es, nsK es) it).1.drop (msK es).length) (hms1 : (stepI B.length (msK es, nsK es) it).1.take (msK es).length = msK es)
    (hns : nsK es ++ (if e.sc = true then [e.nm] else []) = (stepI B.length (msK es, nsK es) it).2)
    (iok : it.Ok (msK es) (nsK es)) (fit : it.Fits B.length (msK es)) (line : LineOk it.words) : UnF B (es ++ [e]) (its ++ [it]) := by
  have g : gro B its = (msK es, nsK es) := by rw [h.ms, h.ns]
  refine ⟨h.ne, h.le, h.bn, h.bd, ?_, ?_, ?_, ?_, fun x hx => ?_, fun x hx => ?_, fun x hx => ?_, ?_, fun L hL => ?_, ?_⟩
  · rw [gro_snoc, g, msK_snoc, hms]
    conv => lhs; lhs; rw [← hms1]
    rw [List.take_append_drop]
  · rw [gro_snoc, g, nsK_snoc, hns]
  · rw [List.map_append, h.nms, List.map_append, List.append_assoc]
    show B ++ (its.map Item.nm ++ [e.nm]) = B ++ (its.map Item.nm ++ [it.nm])
    rw [en]
  · rw [List.map_append]
    exact nodup_snoc h.nd new
  · rcases mem_snoc hx with w | rfl
    · exact h.nm x w
    · exact ok
  · rcases mem_snoc hx with w | rfl
    · exact h.row x w
    · exact row
  · rw [List.length_append]
    rcases mem_snoc hx with w | rfl
    · exact (h.gb x w).up
    · exact gb
  · exact its_snoc h.it (by rw [g]; exact iok) (by rw [g]; exact fit)
  · rw [allL_snoc] at hL
    rcases mem_snoc hL with w | rfl
    · exact h.li L w
    · exact line
  · obtain ⟨x, hx, hs⟩ := h.un
    exact ⟨x, List.mem_append_left _ hx, hs⟩
theorem UnF.unit {B : List (List Nat)} {es : List Kn} {its : List Item} (h : UnF B es its) (hl : its.length ≤ 5) {nm rw0 : List Nat} {y : Rat} {us : List UW} (ok : nmOk nm = true) (new : nm ∉ es.map (·.nm)) (wq : WordQ y rw0) (yp : 0 < y.num) (yn : y.num.natAbs ≤ 10 ^ 30) (yd : y.den ≤ 5000)
    (uok : ∀ u ∈ us, u.Ok) (pok : PwOk es (pws us)) (ul : us.length ≤ 3) (hb : Lim (10 ^ 60) (szV (msK es) (pws us))) :
    UnF B (es ++ [⟨nm, exV (msK es) B.length (pws us), y * szV (msK es) (pws us), 0, false⟩]) (its ++ [.unit nm rw0 y us]) := by
  have kok := h.kok (by omega)
  have spw := szOf_pw kok pok
  have wtb : wt (pws us) ≤ 9 := Nat.le_trans (wt_pw pok) (by unfold pws; rw [List.length_map]; omega)
  have mm : ∀ p ∈ pws us, ∃ e ∈ es, e.nm = p.1 ∧ e.sc = false ∧ meOf (msK es) p.1 = some ⟨e.nm, e.row, e.sz⟩ := fun p hp => by
    obtain ⟨e, he, en, hs, _⟩ := pok p hp
    exact ⟨e, he, en, hs, by rw [← en]; exact meOf_msK kok.nd he hs⟩
  have um : ∀ u ∈ us, (u.nm, u.k) ∈ pws us := fun u hu => List.mem_map.mpr ⟨u, hu, rfl⟩
  have l30 : (10 : Nat) ^ 30 ≤ 2 ^ 100 := by decide +kernel
  have l90 : (10 : Nat) ^ 30 * 10 ^ 60 ≤ 2 ^ 300 := by decide +kernel
  have ly : Lim (10 ^ 30) y := ⟨yn, Nat.le_trans yd (by decide)⟩
  have lz : Lim (2 ^ 300) (y * szV (msK es) (pws us)) := lim_mono (ly.mul hb) l90
  have zp : 0 < (y * szV (msK es) (pws us)).num := npos.mpr (Rat.mul_pos (npos.mp yp) (szV_pos fun p hp => by
    obtain ⟨e, he, en, hs, m⟩ := mm p hp
    rw [szOf_of m]
    exact npos.mp ((h.gb e he).one hs).1))
  refine h.snoc rfl ok new (exV_len _ _ _) ⟨fun _ k hk => ?_, fun _ => ⟨zp, lz⟩, lim_mono lz (Nat.pow_le_pow_right (by decide) (by omega)), ⟨Nat.zero_le _, Nat.one_le_two_pow⟩⟩ ?_ ?_ ?_ ⟨ok, meOf_no new, ns_no new, by have := wq.len; omega, wq.res, yp, lim_mono ly (by decide +kernel), by omega, fun u hu => ⟨uok u hu, ?_⟩⟩ ⟨fun m hm => ?_, fun u hu => ?_, ?_⟩ ?_
  · have hk' : k ∈ exV (msK es) B.length (pws us) := hk
    unfold exV at hk'
    obtain ⟨j, _, rfl⟩ := List.mem_map.mp hk'
    refine Nat.le_trans (lsum_bd (M := 10 ^ its.length) fun p hp => ?_) ?_
    · obtain ⟨e, he, en, hs, m⟩ := mm p hp
      unfold rowOf
      rw [m]
      show (e.row.getD j 0).natAbs ≤ _
      rw [List.getD_eq_getElem?_getD]
      cases z : e.row[j]? with
      | none => exact Nat.zero_le _
      | some v => exact (h.gb e he).row hs v (List.mem_of_getElem? z)
    · rw [Nat.pow_succ, Nat.mul_comm (10 ^ its.length)]
      exact Nat.mul_le_mul_right _ (by omega)
  · show [_] = (msK es ++ [_]).drop (msK es).length
    rw [List.drop_left]
  · show (msK es ++ [_]).take (msK es).length = _
    rw [List.take_left]
  · show nsK es ++ [] = nsK es
    rw [List.append_nil]
  · obtain ⟨e, _, _, _, m⟩ := mm _ (um u hu)
    exact ⟨_, m⟩
  · unfold msK at hm
    obtain ⟨e, he, rfl⟩ := List.mem_map.mp hm
    have hf := List.mem_filter.mp he
    have hs : e.sc = false := by simpa using hf.2
    have b := kok.bd e hf.1 hs
    exact ⟨kok.row e hf.1, fun k hk => Nat.lt_of_lt_of_le (b.1 k hk) (Nat.pow_le_pow_right (by decide) (by decide)), pos_ne b.2.1⟩
  · exact (spw _ (um u hu)).2
  · omega
  · show LineOk ([117, 110, 105, 116] :: nm :: rw0 :: wtx us)
    have := wtx_count us
    refine ⟨by simp, by simp only [List.length_cons]; omega, fun w hw => ?_⟩
    rcases List.mem_cons.mp hw with rfl | hw
    · exact word_kw.1
    rcases List.mem_cons.mp hw with rfl | hw
    · exact nm_word ok
    rcases List.mem_cons.mp hw with rfl | hw
    · exact wq_word wq
    · exact wtx_word uok w hw
theorem UnF.scale {B : List (List Nat)} {es : List Kn} {its : List Item} (h : UnF B es its) (hl : its.length ≤ 5) {nm wa wb : List Nat} {e : Kn} {y z : Rat} (he : e ∈ es) (ok : nmOk nm = true) (new : nm ∉ es.map (·.nm)) (wq : WordQ y wa) (wq2 : WordQ z wb) (y0 : y.num ≠ 0) (ly : Lim (2 ^ 100) y) (lz : Lim (2 ^ 100) z) :
    UnF B (es ++ [⟨nm, e.row, e.sz * y, e.sz * z + e.sh, true⟩]) (its ++ [.scale nm e.nm wa wb y.num (y.den : Int) z.num (z.den : Int)]) := by
  have g := h.gb e he
  refine h.snoc rfl ok new (h.row e he) ⟨fun s => (nomatch s), fun s => (nomatch s), ?_, ?_⟩ ?_ ?_ ?_ ⟨ok, meOf_no new, ns_no new, ?_, by have := wq.len; omega, wq.res, y0, by have := wq2.len; omega, wq2.res⟩ trivial ?_
  · refine lim_mono (g.sz.mul ly) ?_
    rw [← Nat.pow_add]
    exact Nat.pow_le_pow_right (by decide) (by omega)
  · refine lim_mono (lim_sum (g.sz.mul lz) g.sh) ?_
    rw [← Nat.pow_add, ← Nat.pow_add, ← Nat.pow_succ']
    exact Nat.pow_le_pow_right (by decide) (by omega)
  · show [] = (msK es).drop (msK es).length
    rw [List.drop_length]
  · show (msK es).take (msK es).length = _
    rw [List.take_length]
  · rfl
  · cases hs : e.sc with
    | false => exact .inl ⟨_, meOf_msK h.nd he hs⟩
    | true => exact .inr (List.mem_map.mpr ⟨e, List.mem_filter.mpr ⟨he, hs⟩, rfl⟩)
  · refine ⟨by simp [Item.words], by simp [Item.words], fun w hw => ?_⟩
    have hw' : w ∈ [[115, 99, 97, 108, 101], nm, e.nm, wa, wb] := hw
    simp only [List.mem_cons, List.not_mem_nil, or_false] at hw'
    rcases hw' with rfl | rfl | rfl | rfl | rfl
    · exact word_kw.2.1
    · exact nm_word ok
    · exact nm_word (h.nm e he)
    · exact wq_word wq
    · exact wq_word wq2

end
end AL
set_option Elab.async false
set_option linter.all false
set_option maxRecDepth 100000
/-! max(t), t a tuple of ints. -/
namespace AL
open PySem PySem.W PySem.Spec PyProof.Rows L2
section
variable {prog : Program} {w : World} {A : Around} {E : Value → Shared → Prop} {s : Shared} {l : Addr} {its : List Value} {ns : List Int} {Q : Value → Shared → Prop}
theorem iter_anyTup {vs : Array Value} {Q : Value → Shared → Prop} (hl : s.heap.IsTuple l vs)
    (h : ∀ s₂ : Shared, s₂ = { s with heap := s.heap.push { cls := .type "tuple_iterator", data := .fields #[.ref l, .int 0 0] } } →
      (s₂.heap.IsTupleIter s.heap.objs.size l 0 ∧ s₂.heap.IsTuple l vs) → (∀ b ∈ [s.heap.objs.size, l], b < s₂.heap.objs.size) → l ≠ s.heap.objs.size → Q (.ref s.heap.objs.size) s₂) :
    wpAny (model prog w) A (pyIter (.ref l)) Q E s := by
  have hlt : l < s.heap.objs.size := by obtain ⟨_, e, _⟩ := hl; exact Heap.lt_size e
  refine wpAny_pyIter_tuple hl (h _ rfl ⟨⟨_, Heap.get?_push_size _ rfl, rfl, rfl⟩, hl.push _⟩ (fun b hb => ?_) (Nat.ne_of_lt hlt))
  show b < (s.heap.push _).objs.size
  rw [Heap.size_push]
  rcases List.mem_cons.mp hb with rfl | hb
  · exact Nat.lt_succ_self _
  · rcases List.mem_cons.mp hb with rfl | hb
    · exact Nat.lt_succ_of_lt hlt
    · cases hb
theorem maxT_raw (hh : A.handled = none) (hl : s.heap.IsTuple l its.toArray) (hi : IntsAre its ns) (hne : 0 < ns.length)
    (h : ∀ h' tk M t', (∀ b o, s.heap.get? b = some o → h'.get? b = some o) → M ∈ ns → (∀ a, a ∈ ns → a ≤ M) → Q (.int M t') { s with heap := h', toks := tk }) : wpAny (model prog w) A (call (.builtin "max") [.ref l]) Q E s := by
  obtain ⟨xs, e⟩ := hi.allInts.items
  have hn : numsOf (intItems xs).toList = ns := by rw [← e]; exact hi.numsOf
  rw [nums_intItems] at hn
  subst hn
  rw [e] at hl
  have hsz : 0 < xs.size := by simpa using hne
  refine call_max_walk (iter_anyTup hl fun s₂ e st hfp hlI => ?_)
  subst e
  refine ⟨_, _, _, _, _, _, _, rfl, Walks.tuple (A := A.in1) hh _ l hlI (intItems xs), st, hfp, by simpa [intItems] using hsz, CmpOf.ints_gt (numAt xs) (fun _ _ => intItems_at), fun v h' tk hP hk => ?_⟩
  have hv : (intItems xs)[argBest (fun i j => decide (numAt xs i > numAt xs j)) (xs.size - 1)]? = some v := by simpa [intItems] using hP
  obtain ⟨t, rfl⟩ := intItems_at hv
  obtain ⟨h1, h2⟩ := argBest_gt (numAt xs) (xs.size - 1)
  refine h h' tk _ t (fun b o e => hk b o (fun hm => by
    rcases List.mem_cons.mp hm with e1 | hm
    · exact absurd (e1 ▸ Heap.lt_size e) (Nat.lt_irrefl _)
    · cases hm) (Heap.get?_push_of_some _ e)) ?_ fun a ha => ?_
  · rw [numAt_eq]; exact PySem.getD_mem (by rw [List.length_map, Array.length_toList]; omega)
  · obtain ⟨j, hj, rfl⟩ := mem_getD ha
    rw [List.length_map, Array.length_toList] at hj
    rw [← numAt_eq]; exact h2 j (by omega)
end
def rMaxT (K : PySem.W.Frag) : List V → Hp → VK → Prop := fun vs H Q => ∃ (a : Addr) (ns : List Int), vs = [V.ref a] ∧ SqT K H a (ns.map V.int) ∧ 0 < ns.length ∧ ∀ m, m ∈ ns → (∀ y, y ∈ ns → y ≤ m) → Q (.int m) H
theorem cr_maxT {X : Cx} (hc : X.calm = true) : CallR X (.builtin "max") (rMaxT X.K) := by
  intro pins s σ H vs us Q I r h
  obtain ⟨a, ns, rfl, hs, hn, q⟩ := h
  obtain ⟨its, rv, p, hz⟩ := I.tuple hs
  rw [Vals.ref1 r]
  exact maxT_raw (I.ok.hd hc) p rv.ints hn fun h' tk M t' hk m1 m2 => ⟨.int M, H, I.kept (t' := tk) hk, ⟨_, rfl⟩, q M m1 m2⟩
end AL
set_option Elab.async false
set_option maxRecDepth 100000
set_option exponentiation.threshold 70000
set_option maxHeartbeats 1000000
namespace AL
open PySem PySem.Spec PyProof.Rows L2 RZ
section
variable {P : Program} {w : World} {K : PySem.W.Frag} {mg : Str → Option Value} {base : Heap}

structure UnH (H : Hp) (p c u b d ln : Addr) (m : Nat) (B : List (List Nat)) (es : List Kn) (as : List Addr) (Ls : List (List (List Nat))) : Prop where
  P : Pen H p c m
  lu : LUn H u b d ln
  hb : TxL H b B
  kn : KnAt H d es
  hl : H ln = some (.lst (as.map V.ref))
  pr : Paired (fun a L => a ≠ ln ∧ TxL H a L) as Ls
  up : u ≠ p
  dp : d ≠ p
  ud : u ≠ d
  lnc : ln ≠ c
  lnb : ln ≠ b
theorem UnH.keep {H H' : Hp} {p c u b d ln : Addr} {m m' : Nat} {B : List (List Nat)} {es : List Kn} {as : List Addr} {Ls : List (List (List Nat))} (h : UnH H p c u b d ln m B es as Ls) (k : Keep p H H') (P' : Pen H' p c m') : UnH H' p c u b d ln m' B es as Ls :=
  ⟨P', k _ _ h.up h.lu, k.at h.P h.hb (fun _ z => by cases z), h.kn.tu (fun o => k _ o h.dp) (k.tu h.P), k.at h.P h.hl (fun _ z => by cases z), paired_imp (fun _ _ z => ⟨z.1, k.at h.P z.2 (fun _ z => by cases z)⟩) h.pr, h.up, h.dp, h.ud, h.lnc, h.lnb⟩
theorem UnH.same {H H' : Hp} {p c u b d ln : Addr} {m : Nat} {B : List (List Nat)} {es : List Kn} {as : List Addr} {Ls : List (List (List Nat))} (h : UnH H p c u b d ln m B es as Ls) (s : Same H H') : UnH H' p c u b d ln m B es as Ls := h.keep (Same.k s) (h.P.same s)
theorem UnH.put {H : Hp} {p c u b d ln : Addr} {m : Nat} {B : List (List Nat)} {es : List Kn} {as : List Addr} {Ls : List (List (List Nat))} {e : Kn} {v : V} {kvs : List (Key × V)} (h : UnH H p c u b d ln m B es as Ls) (hd : H d = some (.dK kvs)) (pr : Paired (KnR H) kvs es) (new : e.nm ∉ es.map (·.nm)) (hv : KnV H v e) :
    UnH (upd H d (.dK (putK kvs (kS e.nm) v))) p c u b d ln m B (es ++ [e]) as Ls := by
  have nl : ∀ a xs, H a = some (.lst xs) → upd H d (.dK (putK kvs (kS e.nm) v)) a = some (.lst xs) := fun a xs w => by rw [upd_ne (fun z => by rw [z, hd] at w; cases w)]; exact w
  have nt : ∀ a xs, H a = some (.tup xs) → upd H d (.dK (putK kvs (kS e.nm) v)) a = some (.tup xs) := fun a xs w => by rw [upd_ne (fun z => by rw [z, hd] at w; cases w)]; exact w
  refine ⟨h.P.keep (fun o w => by rw [upd_ne (Ne.symm h.dp)]; exact w) ?_, by unfold LUn; rw [upd_ne h.ud]; exact h.lu, nl _ _ h.hb, KnAt.put pr (fun x hx z => new (List.mem_map.mpr ⟨x, hx, z⟩)) hv nt upd_same, nl _ _ h.hl, paired_imp (fun _ _ z => ⟨z.1, nl _ _ z.2⟩) h.pr, h.up, h.dp, h.ud, h.lnc, h.lnb⟩
  intro o w
  obtain ⟨ns, _, _, _, _, _, hc, _⟩ := h.P.ex
  rw [upd_ne (fun z => by rw [z, hd] at hc; cases hc)]; exact w
theorem UnH.app {H : Hp} {p c u b d ln l : Addr} {m : Nat} {B : List (List Nat)} {es : List Kn} {as : List Addr} {Ls : List (List (List Nat))} {L : List (List Nat)} (h : UnH H p c u b d ln m B es as Ls) (tl : TxL H l L) (ne : l ≠ ln) :
    UnH (upd H ln (.lst (as.map V.ref ++ [V.ref l]))) p c u b d ln m B es (as ++ [l]) (Ls ++ [L]) := by
  have nd : ∀ a xs, H a = some (.dK xs) → upd H ln (.lst (as.map V.ref ++ [V.ref l])) a = some (.dK xs) := fun a xs w => by rw [upd_ne (fun z => by rw [z, h.hl] at w; cases w)]; exact w
  have nt : ∀ a xs, H a = some (.tup xs) → upd H ln (.lst (as.map V.ref ++ [V.ref l])) a = some (.tup xs) := fun a xs w => by rw [upd_ne (fun z => by rw [z, h.hl] at w; cases w)]; exact w
  obtain ⟨kvs, hk, _⟩ := id h.kn
  obtain ⟨kp, hkp⟩ := h.P.dict
  refine ⟨h.P.keep (fun o w => ?_) (fun o w => by rw [upd_ne (Ne.symm h.lnc)]; exact w), nd _ _ h.lu, by unfold TxL; rw [upd_ne (Ne.symm h.lnb)]; exact h.hb, h.kn.tu (fun o w => ?_) nt, by rw [upd_same, List.map_append]; rfl, ?_, h.up, h.dp, h.ud, h.lnc, h.lnb⟩
  · rw [upd_ne (fun z => by rw [z, h.hl] at hkp; cases hkp)]; exact w
  · rw [upd_ne (fun z => by rw [z, h.hl] at hk; cases hk)]; exact w
  · exact paired_snoc (paired_imp (fun _ _ z => ⟨z.1, by unfold TxL; rw [upd_ne z.1]; exact z.2⟩) h.pr) ⟨ne, by unfold TxL; rw [upd_ne ne]; exact tl⟩
theorem kn_keys {H : Hp} : ∀ {kvs : List (Key × V)} {es : List Kn}, Paired (KnR H) kvs es → kvs.map (fun kv => kV kv.1) = (es.map (·.nm)).map vS
  | _, _, .nil => rfl
  | _, _, .cons h r => by
    rw [List.map_cons, List.map_cons, List.map_cons, kn_keys r, h.1]; rfl
def FQ (H : Hp) (v : V) : Prop := ∃ t y, v = .ref t ∧ RQ H t y ∧ y.num ≠ 0 ∧ Lim (2 ^ 100) y
theorem FQ.tu {H H' : Hp} {v : V} (h : FQ H v) (k : ∀ b ys, H b = some (.tup ys) → H' b = some (.tup ys)) : FQ H' v := by
  obtain ⟨t, y, e, r, a, b⟩ := h
  exact ⟨t, y, e, k _ _ r, a, b⟩
theorem FQ.const {H : Hp} {t : Addr} {a : Int} {b : Nat} (h : H t = some (.tup [.int a, .int (b : Int)])) (hn : (mkRat a b).num = a) (hd : (mkRat a b).den = b) (a0 : a ≠ 0) (al : a.natAbs ≤ 2 ^ 100) (bl : b ≤ 2 ^ 100) : FQ H (.ref t) :=
  ⟨t, mkRat a b, rfl, by unfold RQ RatAt; rw [hn, hd]; exact h, by rw [hn]; exact a0, by rw [hn]; exact al, by rw [hd]; exact bl⟩
theorem rq_low {H : Hp} {t : Addr} {a : Int} {b : Nat} (h : RatAt H t a b) (l : Low a b) : RQ H t (mkRat a b) ∧ (mkRat a b).num = a ∧ (mkRat a b).den = b := by
  have e := nrm_rat a l.1
  rw [nrm_low l] at e
  have e1 : (mkRat a b).num = a := (congrArg Prod.fst e).symm
  have e2 : (mkRat a b).den = b := (congrArg Prod.snd e).symm
  exact ⟨by unfold RQ; rw [e1, e2]; exact h, e1, e2⟩
theorem lim100 {x : Rat} (h : Lim (2 ^ 100) x) : x.num.natAbs < 10 ^ 900 ∧ x.den < 10 ^ 900 := ⟨Nat.lt_of_le_of_lt h.1 (by decide +kernel), Nat.lt_of_le_of_lt h.2 (by decide +kernel)⟩
/-- _law_units(pen, 6, 6) -/
def spUn : Sp := fun vs H Q _ => ∃ (p c : Addr) (m : Nat), vs = [.ref p, .int 6, .int 6] ∧ Pen H p c m ∧ m ≤ 1000 ∧
  ∀ u b d ln as H' B es its, UnH H' p c u b d ln (m + 20000) B es as (allL B its) → UnF B es its → its.length ≤ 6 → Q (.ref u) H'

abbrev st_law_units : Stmt := top 64
theorem sc_law_units : FnScope ["_law_pen_here", "_law_many", "_law_lines", "_law_units_here", "_law_lap", "_law_name_here", "_law_below", "_law_factor", "_law_shift", "_law_row", "_law_by", "_law_more", "_law_is_scale", "_law_whole", "_law_pairs_here", "_law_size_here"] ["_law_pen_here", "_law_many", "_law_lines"] (defScope st_law_units) := ⟨rfl, rfl, rfl, by decide +kernel, rfl, by decide +kernel, by decide +kernel⟩
theorem ok_law_units (B : Blt mg) {CUnits : Addr} (Es : ErU K mg CUnits) {f_law_draw : Addr} {fd_law_draw : FuncData} (D_law_draw : DefAt K mg "_law_draw" st_law_draw ["_law_pen_here", "_law_many"] f_law_draw fd_law_draw) {f_law_pick : Addr} {fd_law_pick : FuncData} (D_law_pick : DefAt K mg "_law_pick" st_law_pick ["_law_pen_here", "_law_some"] f_law_pick fd_law_pick) {f_law_name : Addr} {fd_law_name : FuncData} (D_law_name : DefAt K mg "_law_name" st_law_name ["_law_pen_here", "_law_used"] f_law_name fd_law_name) {f_law_names : Addr} {fd_law_names : FuncData} (D_law_names : DefAt K mg "_law_names" st_law_names ["_law_pen_here", "_law_many"] f_law_names fd_law_names) {f_law_base_units : Addr} {fd_law_base_units : FuncData} (D_law_base_units : DefAt K mg "_law_base_units" st_law_base_units ["_law_pen_here", "_law_many"] f_law_base_units fd_law_base_units) {f_law_gcd : Addr} {fd_law_gcd : FuncData} (D_law_gcd : DefAt K mg "_law_gcd" st_law_gcd ["_law_one", "_law_two"] f_law_gcd fd_law_gcd) {f_law_q : Addr} {fd_law_q : FuncData} (D_law_q : DefAt K mg "_law_q" st_law_q ["_law_top", "_law_bottom"] f_law_q fd_law_q) {f_law_power : Addr} {fd_law_power : FuncData} (D_law_power : DefAt K mg "_law_power" st_law_power ["_law_one", "_law_n"] f_law_power fd_law_power) {f_law_times : Addr} {fd_law_times : FuncData} (D_law_times : DefAt K mg "_law_times" st_law_times ["_law_one", "_law_two"] f_law_times fd_law_times) {f_law_measure : Addr} {fd_law_measure : FuncData} (D_law_measure : DefAt K mg "_law_measure" st_law_measure ["_law_units_here", "_law_pairs_here"] f_law_measure fd_law_measure) {f_law_written : Addr} {fd_law_written : FuncData} (D_law_written : DefAt K mg "_law_written" st_law_written ["_law_one"] f_law_written fd_law_written) {f_law_other : Addr} {fd_law_other : FuncData} (D_law_other : DefAt K mg "_law_other" st_law_other ["_law_pen_here", "_law_ratio_here"] f_law_other fd_law_other) {f_law_pair_words : Addr} {fd_law_pair_words : FuncData} (D_law_pair_words : DefAt K mg "_law_pair_words" st_law_pair_words ["_law_pen_here", "_law_pairs_here"] f_law_pair_words fd_law_pair_words) {f_law_pairs : Addr} {fd_law_pairs : FuncData} (D_law_pairs : DefAt K mg "_law_pairs" st_law_pairs ["_law_pen_here", "_law_units_here", "_law_most"] f_law_pairs fd_law_pairs) {f_law_plus : Addr} {fd_law_plus : FuncData} (D_law_plus : DefAt K mg "_law_plus" st_law_plus ["_law_one", "_law_two"] f_law_plus fd_law_plus) {f_law_big : Addr} {fd_law_big : FuncData} (D_law_big : DefAt K mg "_law_big" st_law_big ["_law_pen_here", "_law_figures"] f_law_big fd_law_big) {f_law_ratio : Addr} {fd_law_ratio : FuncData} (D_law_ratio : DefAt K mg "_law_ratio" st_law_ratio ["_law_pen_here", "_law_figures"] f_law_ratio fd_law_ratio) {f_law_size : Addr} {fd_law_size : FuncData} (D_law_size : DefAt K mg "_law_size" st_law_size ["_law_pen_here"] f_law_size fd_law_size) {f_law_units : Addr} {fd_law_units : FuncData} (D_law_units : DefAt K mg "_law_units" st_law_units ["_law_pen_here", "_law_many", "_law_lines"] f_law_units fd_law_units) : FnOk P w K mg base CX0 6 f_law_units fd_law_units ["_law_pen_here", "_law_many", "_law_lines"] spUn := by
  obtain ⟨uD, hD, rD⟩ := Es.dig
  obtain ⟨uM, hM, rM⟩ := Es.most
  obtain ⟨uL, hL, rL⟩ := Es.lett
  obtain ⟨uN, hN, rN⟩ := Es.long
  obtain ⟨uB, hB, rB⟩ := Es.most6
  have OK_law_base_units : FnOk P w K mg base CX0 5 f_law_base_units fd_law_base_units ["_law_pen_here", "_law_many"] spBu := ok_law_base_units B Es D_law_draw D_law_pick D_law_name D_law_names D_law_base_units
  have OK_law_draw : FnOk P w K mg base CX0 1 f_law_draw fd_law_draw ["_law_pen_here", "_law_many"] spDraw := ok_law_draw B  D_law_draw
  have OK_law_measure : FnOk P w K mg base CX0 4 f_law_measure fd_law_measure ["_law_units_here", "_law_pairs_here"] spMe := ok_law_measure B Es D_law_gcd D_law_q D_law_power D_law_times D_law_measure
  have OK_law_name : FnOk P w K mg base CX0 3 f_law_name fd_law_name ["_law_pen_here", "_law_used"] spNa := ok_law_name B Es D_law_draw D_law_pick D_law_name
  have OK_law_other : FnOk P w K mg base CX0 3 f_law_other fd_law_other ["_law_pen_here", "_law_ratio_here"] spOth := ok_law_other B Es D_law_draw D_law_pick D_law_written D_law_other
  have OK_law_pair_words : FnOk P w K mg base CX0 2 f_law_pair_words fd_law_pair_words ["_law_pen_here", "_law_pairs_here"] spPw := ok_law_pair_words B Es D_law_draw D_law_pair_words
  have OK_law_pairs : FnOk P w K mg base CX0 3 f_law_pairs fd_law_pairs ["_law_pen_here", "_law_units_here", "_law_most"] spPr := ok_law_pairs B Es D_law_draw D_law_pick D_law_pairs
  have OK_law_pick : FnOk P w K mg base CX0 2 f_law_pick fd_law_pick ["_law_pen_here", "_law_some"] (spPick K) := ok_law_pick B  D_law_draw D_law_pick
  have OK_law_plus : FnOk P w K mg base CX0 3 f_law_plus fd_law_plus ["_law_one", "_law_two"] (spTwo sumR) := ok_law_plus B  D_law_gcd D_law_q D_law_plus
  have OK_law_ratio : FnOk P w K mg base CX0 4 f_law_ratio fd_law_ratio ["_law_pen_here", "_law_figures"] spRatL := ok_law_ratio B  D_law_draw D_law_pick D_law_big D_law_gcd D_law_q D_law_ratio
  have OK_law_size : FnOk P w K mg base CX0 4 f_law_size fd_law_size ["_law_pen_here"] spSz := ok_law_size B Es D_law_draw D_law_pick D_law_big D_law_gcd D_law_q D_law_size
  have OK_law_times : FnOk P w K mg base CX0 3 f_law_times fd_law_times ["_law_one", "_law_two"] (spTwo mulR) := ok_law_times B  D_law_gcd D_law_q D_law_times
  refine D_law_units.F.ok sc_law_units (fun vs H Q E h => ?_) (fun cdv A outer s H vs Q E hr h => ?_)
  · obtain ⟨p, c, m, rfl, _⟩ := h; rfl
  · have hu := hu_of hr
    refine ⟨_, (pss_cons (ps_set (i := 3) sc_law_units.nd rfl (Or.inl rfl) (pe_call OK_law_base_units (hr.mono (by decide)) rfl D_law_base_units.m D_law_base_units.F.kp D_law_base_units.b .nil pass0 (pa_cons (pv 0) (pa_cons (pe_op op_add pe_int (pe_call OK_law_draw (hr.mono (by decide)) rfl D_law_draw.m D_law_draw.F.kp D_law_draw.b .nil pass0 (pa_cons (pv 0) (pa_cons (pv 1) pa_nil)))) pa_nil))))
    (pss_cons (ps_for PassesOwn.never rfl (pi_range1 rfl B.range_ (pa_cons (pe_call OK_law_draw (hr.mono (by decide)) rfl D_law_draw.m D_law_draw.F.kp D_law_draw.b .nil pass0 (pa_cons (pv 0) (pa_cons (pe_op op_add (pv 2) pe_int) pa_nil))) pa_nil)) (pg_name (i := 4) sc_law_units.nd rfl (Or.inl rfl))
      (pss_cons (ps_set (i := 5) sc_law_units.nd rfl (Or.inl rfl) (pe_call OK_law_name (hr.mono (by decide)) rfl D_law_name.m D_law_name.F.kp D_law_name.b .nil pass0 (pa_cons (pv 0) (pa_cons (pe_callTy (call_list_dK rfl) (by rfl) B.list_ (by decide +kernel) (pa_cons (pe_dget hu (pv 3) pe_str (fun _ _ => rfl)) pa_nil)) pa_nil))))
    (pss_one (ps_if (pt_cmpR op_eq (pe_call OK_law_draw (hr.mono (by decide)) rfl D_law_draw.m D_law_draw.F.kp D_law_draw.b .nil pass0 (pa_cons (pv 0) (pa_cons pe_int pa_nil))) pe_int (nomark _)) (pss_cons (ps_set (i := 6) sc_law_units.nd rfl (Or.inl rfl) (pe_call OK_law_pick (hr.mono (by decide)) rfl D_law_pick.m D_law_pick.F.kp D_law_pick.b .nil pass0 (pa_cons (pv 0) (pa_cons (pe_callTy (call_list_dK rfl) (by rfl) B.list_ (by decide +kernel) (pa_cons (pe_dget hu (pv 3) pe_str (fun _ _ => rfl)) pa_nil)) pa_nil))))
    (pss_cons (ps_par (i := 7) (j := 8) (by rfl) sc_law_units.nd rfl rfl (by decide) rfl rfl (pa_cons (pe_call OK_law_pick (hr.mono (by decide)) rfl D_law_pick.m D_law_pick.F.kp D_law_pick.b .nil pass0 (pa_cons (pv 0) (pa_cons (pe_lst (pa_cons (pe_tup (pa_cons pe_int (pa_cons pe_int pa_nil))) (pa_cons (pe_tup (pa_cons pe_int (pa_cons pe_int pa_nil))) (pa_cons (pe_tup (pa_cons (pe_un un_neg pe_int) (pa_cons pe_int pa_nil))) (pa_cons (pe_call OK_law_size (hr.mono (by decide)) rfl D_law_size.m D_law_size.F.kp D_law_size.b .nil pass0 (pa_cons (pv 0) pa_nil)) pa_nil))))) pa_nil))) (pa_cons (pe_call OK_law_ratio (hr.mono (by decide)) rfl D_law_ratio.m D_law_ratio.F.kp D_law_ratio.b .nil pass0 (pa_cons (pv 0) (pa_cons pe_int pa_nil))) pa_nil)) (by rfl))
    (pss_cons (ps_asg (pe_dget hu (pe_dget hu (pv 3) pe_str (fun _ _ => rfl)) (pv 6) (fun _ _ => rfl)) (pg_tup rfl (pgs_cons (pg_name (i := 9) sc_law_units.nd rfl (Or.inl rfl)) (pgs_cons (pg_name (i := 10) sc_law_units.nd rfl (Or.inl rfl)) (pgs_cons (pg_name (i := 11) sc_law_units.nd rfl (Or.inl rfl)) (pgs_cons (pg_name (i := 12) sc_law_units.nd rfl (Or.inl rfl)) pgs_nil))))))
    (pss_cons (ps_set (i := 13) sc_law_units.nd rfl (Or.inl rfl) (pe_call OK_law_plus (hr.mono (by decide)) rfl D_law_plus.m D_law_plus.F.kp D_law_plus.b .nil pass0 (pa_cons (pe_call OK_law_times (hr.mono (by decide)) rfl D_law_times.m D_law_times.F.kp D_law_times.b .nil pass0 (pa_cons (pv 10) (pa_cons (pv 8) pa_nil))) (pa_cons (pv 11) pa_nil))))
    (pss_cons (ps_dput hu (pe_dget hu (pv 3) pe_str (fun _ _ => rfl)) (pv 5) (pe_tup (pa_cons (pv 9) (pa_cons (pe_call OK_law_times (hr.mono (by decide)) rfl D_law_times.m D_law_times.F.kp D_law_times.b .nil pass0 (pa_cons (pv 10) (pa_cons (pv 7) pa_nil))) (pa_cons (pv 13) (pa_cons pe_bl pa_nil))))) rfl)
    (pss_one (ps_expr (pe_bm PySem.F.plainAttrs_list PySem.F.slot_list_append PySem.F.type_list_append mt_append (pe_dget hu (pv 3) pe_str (fun _ _ => rfl)) (pa_cons (pe_lst (pa_cons pe_str (pa_cons (pv 5) (pa_cons (pv 6) (pa_cons (pe_call OK_law_other (hr.mono (by decide)) rfl D_law_other.m D_law_other.F.kp D_law_other.b .nil pass0 (pa_cons (pv 0) (pa_cons (pv 7) pa_nil))) (pa_cons (pe_call OK_law_other (hr.mono (by decide)) rfl D_law_other.m D_law_other.F.kp D_law_other.b .nil pass0 (pa_cons (pv 0) (pa_cons (pv 8) pa_nil))) pa_nil)))))) pa_nil))))))))) (pss_cons (ps_par (i := 14) (j := 15) (by rfl) sc_law_units.nd rfl rfl (by decide) rfl rfl (pa_cons (pe_call OK_law_pairs (hr.mono (by decide)) rfl D_law_pairs.m D_law_pairs.F.kp D_law_pairs.b .nil pass0 (pa_cons (pv 0) (pa_cons (pv 3) (pa_cons pe_int pa_nil)))) (pa_cons (pe_call OK_law_size (hr.mono (by decide)) rfl D_law_size.m D_law_size.F.kp D_law_size.b .nil pass0 (pa_cons (pv 0) pa_nil)) pa_nil)) (by rfl))
    (pss_cons (ps_asg (pe_call OK_law_measure (hr.mono (by decide)) rfl D_law_measure.m D_law_measure.F.kp D_law_measure.b .nil pass0 (pa_cons (pv 3) (pa_cons (pv 14) pa_nil))) (pg_tup rfl (pgs_cons (pg_name (i := 9) sc_law_units.nd rfl (Or.inl rfl)) (pgs_cons (pg_name (i := 10) sc_law_units.nd rfl (Or.inl rfl)) pgs_nil))))
    (Evl.pss_cut (ps_if (pt_cmpR op_gt (pe_callB (cr_maxT rfl) (by rfl) B.max_ (by decide +kernel) (pa_cons (pv 10) pa_nil)) (pe_op op_pow pe_int pe_int) (nomark _)) (pss_cons (ps_set (i := 14) sc_law_units.nd rfl (Or.inl rfl) (pe_lst pa_nil))
    (pss_one (ps_asg (pe_call OK_law_measure (hr.mono (by decide)) rfl D_law_measure.m D_law_measure.F.kp D_law_measure.b .nil pass0 (pa_cons (pv 3) (pa_cons (pv 14) pa_nil))) (pg_tup rfl (pgs_cons (pg_name (i := 9) sc_law_units.nd rfl (Or.inl rfl)) (pgs_cons (pg_name (i := 10) sc_law_units.nd rfl (Or.inl rfl)) pgs_nil)))))) pss_nil)
    (pss_cons (ps_dput hu (pe_dget hu (pv 3) pe_str (fun _ _ => rfl)) (pv 5) (pe_tup (pa_cons (pv 9) (pa_cons (pe_call OK_law_times (hr.mono (by decide)) rfl D_law_times.m D_law_times.F.kp D_law_times.b .nil pass0 (pa_cons (pv 15) (pa_cons (pv 10) pa_nil))) (pa_cons (pe_tup (pa_cons pe_int (pa_cons pe_int pa_nil))) (pa_cons pe_bl pa_nil))))) rfl)
    (pss_one (ps_expr (pe_bm PySem.F.plainAttrs_list PySem.F.slot_list_append PySem.F.type_list_append mt_append (pe_dget hu (pv 3) pe_str (fun _ _ => rfl)) (pa_cons (pe_op op_cat (pe_lst (pa_cons pe_str (pa_cons (pv 5) (pa_cons (pe_call OK_law_other (hr.mono (by decide)) rfl D_law_other.m D_law_other.F.kp D_law_other.b .nil pass0 (pa_cons (pv 0) (pa_cons (pv 15) pa_nil))) pa_nil)))) (pe_call OK_law_pair_words (hr.mono (by decide)) rfl D_law_pair_words.m D_law_pair_words.F.kp D_law_pair_words.b .nil pass0 (pa_cons (pv 0) (pa_cons (pv 14) pa_nil)))) pa_nil))))))))))))
    (pss_one (ps_ret (pv 3))))), ?_⟩
    obtain ⟨p, c, m, rfl, P, hm, q⟩ := h
    refine ⟨_, rfl, _, rfl, _, rfl, p, c, m, 6, rfl, P, by omega, by decide, by decide, fun r H1 r0 r1 P1 k1 => ?_⟩
    obtain ⟨r, rfl⟩ := Int.eq_ofNat_of_zero_le r0
    refine ⟨_, _, rfl, rfl, ?_⟩
    dsimp only
    rw [show (1 : Int) + (r : Int) = ((1 + r : Nat) : Int) by omega]
    refine ⟨p, c, m + 1, 1 + r, rfl, P1, by omega, by omega, fun u b d ln l0 H2 B P2 k2 up dp ud lnc lnb ln0 lu hb lB okB ndB kn hl tl0 => ?_⟩
    have Bne : B ≠ [] := fun z => by rw [z] at lB; simp at lB; omega
    have U2 : UnH H2 p c u b d ln (m + 201) B (baK B B.length) [l0] (allL B []) := ⟨P2.mono (by omega), lu, hb, by rw [lB]; exact kn, hl, .cons ⟨Ne.symm ln0, tl0⟩ .nil, up, dp, ud, lnc, lnb⟩
    have F2 := UnF.ofBase Bne (by omega) okB ndB
    clear k1 k2 P1 P2 lu hb kn hl tl0 up dp ud lnc lnb ln0 okB ndB
    refine ⟨_, rfl, _, rfl, _, _, rfl, rfl, ?_⟩
    refine ⟨p, c, m + 201, _, rfl, U2.P, by omega, by decide, by decide, fun t H3 t0 t1 P3 k3 => ?_⟩
    obtain ⟨t, rfl⟩ := Int.eq_ofNat_of_zero_le t0
    have U3 := U2.keep k3 P3
    refine ⟨_, rfl, by omega, by omega, for_range (lo := 0) (n := ((t : Int)).toNat) (fun i σ H' => ∃ (v4 v5 v6 v7 v8 v9 v10 v11 v12 v13 v14 v15 : Option V) (as : List Addr) (es : List Kn) (its : List Item), σ = [some (.ref p), some (.int 6), some (.int 6), some (.ref u), v4, v5, v6, v7, v8, v9, v10, v11, v12, v13, v14, v15] ∧ UnH H' p c u b d ln (m + 300 + 2000 * i) B es as (allL B its) ∧ UnF B es its ∧ its.length = i) ⟨none, none, none, none, none, none, none, none, none, none, none, none, [l0], baK B B.length, [], rfl, U3.keep (Keep.refl _ _) (U3.P.mono (by omega)), F2, rfl⟩ ?_ ?_⟩
    · rintro i σ H4 hi ⟨v4, v5, v6, v7, v8, v9, v10, v11, v12, v13, v14, v15, as, es, its, rfl, U4, F4, li⟩
      have hi' : i ≤ 5 := by omega
      have el := F4.len
      have Ble := F4.le
      -- the name
      obtain ⟨kvs, hd, pr⟩ := id U4.kn
      refine ⟨_, rfl, _, rfl, _, _, rfl, U4.lu.known, d, kvs, rfl, hd, fun a ha => ?_⟩
      rw [kn_keys pr]
      have n5 := AL.Same.new (o := .lst ((es.map (·.nm)).map vS)) ha
      have ac : a ≠ c := fun z => by obtain ⟨ns, _, _, _, _, _, hc, _⟩ := U4.P.ex; rw [← z, ha] at hc; cases hc
      refine ⟨p, c, a, _, es.map (fun e : Kn => e.nm), rfl, U4.P.same n5, by omega, upd_same, by rw [List.length_map]; omega, ac, fun nm H5 okn new P5 k5 hU5 => ?_⟩
      have k45 : Keep p H4 H5 := fun b o nb h => k5 b o nb (fun z => by rw [z, ha] at h; cases h) (n5 _ _ h)
      have U5 := U4.keep k45 P5
      clear n5 ac k5 hU5 ha hd pr k45 U4
      refine ⟨_, rfl, p, c, _, 4, rfl, U5.P, by omega, by decide, by decide, fun w H6 w0 w1 P6 k6 => ?_⟩
      have U6 := U5.keep k6 P6
      clear k6 P6 U5 P5
      refine ⟨rfl, _, rfl, ?_⟩
      refine ite2 (fun _ => ?_) (fun _ => ?_)
      · -- a scale
        obtain ⟨kvs, hd, pr⟩ := id U6.kn
        refine ⟨_, rfl, _, rfl, _, _, rfl, U6.lu.known, d, kvs, rfl, hd, fun a ha => ?_⟩
        rw [kn_keys pr]
        have n7 := AL.Same.new (o := .lst ((es.map (·.nm)).map vS)) ha
        have U7 := U6.same n7
        refine ⟨p, c, a, _, _, rfl, U7.P, by omega, SqL.of upd_same, by rw [List.length_map, List.length_map]; have := List.length_pos_iff.mpr F4.ne; omega, by rw [List.length_map, List.length_map]; omega, fun j x H8 hx P8 k8 => ?_⟩
        have U8 := U7.keep k8 P8
        clear k8 P8 n7 U7 U6 ha hd pr
        obtain ⟨e, he, rfl⟩ : ∃ e ∈ es, x = .str (S e.nm) := by
          rw [List.map_map, List.getElem?_map] at hx
          cases z : es[j]? with
          | none => rw [z] at hx; cases hx
          | some e => rw [z] at hx; exact ⟨e, List.mem_of_getElem? z, (Option.some.inj hx).symm⟩
        refine ⟨_, rfl, (by show 2 ≤ sizeLine; decide), fun t1 ht1 => ?_⟩
        have n1 := AL.Same.new (o := .tup [.int 1, .int 1]) ht1
        have g1 : FQ (upd H8 t1 (.tup [.int 1, .int 1])) (.ref t1) := FQ.const (b := 1) upd_same (by decide +kernel) (by decide +kernel) (by decide) (by decide) (by decide)
        have U9 := U8.same n1
        generalize upd H8 t1 (.tup [.int 1, .int 1]) = H9 at g1 U9 ⊢
        refine ⟨(by show 2 ≤ sizeLine; decide), fun t2 ht2 => ?_⟩
        have n2 := AL.Same.new (o := .tup [.int 5, .int 9]) ht2
        have g2 : FQ (upd H9 t2 (.tup [.int 5, .int 9])) (.ref t2) := FQ.const (b := 9) upd_same (by decide +kernel) (by decide +kernel) (by decide) (by decide) (by decide)
        replace g1 := g1.tu fun b ys h => n2 _ _ h
        have UA := U9.same n2
        generalize upd H9 t2 (.tup [.int 5, .int 9]) = HA at g1 g2 UA ⊢
        refine ⟨_, rfl, (by show 2 ≤ sizeLine; decide), fun t3 ht3 => ?_⟩
        have n3 := AL.Same.new (o := .tup [.int (-1), .int 1]) ht3
        have g3 : FQ (upd HA t3 (.tup [.int (-1), .int 1])) (.ref t3) := FQ.const (b := 1) upd_same (by decide +kernel) (by decide +kernel) (by decide) (by decide) (by decide)
        replace g1 := g1.tu fun b ys h => n3 _ _ h
        replace g2 := g2.tu fun b ys h => n3 _ _ h
        have UB := UA.same n3
        generalize upd HA t3 (.tup [.int (-1), .int 1]) = HB at g1 g2 g3 UB ⊢
        clear n1 n2 n3 ht1 ht2 ht3 U8 U9 UA
        refine ⟨_, rfl, p, c, _, rfl, UB.P, by omega, fun t4 y4 HC rq4 y40 y4n y4d PC kC => ?_⟩
        have g4 : FQ HC (.ref t4) := ⟨t4, y4, rfl, rq4, by omega, Nat.le_trans y4n (by decide +kernel), Nat.le_trans y4d (by decide)⟩
        replace g1 := g1.tu (kC.tu UB.P)
        replace g2 := g2.tu (kC.tu UB.P)
        replace g3 := g3.tu (kC.tu UB.P)
        have UC := UB.keep kC PC
        clear kC PC UB rq4 y40 y4n y4d
        refine ⟨(by show 4 ≤ sizeLine; decide), fun l hl => ?_⟩
        have nD := AL.Same.new (o := .lst [.ref t1, .ref t2, .ref t3, .ref t4]) hl
        have UD := UC.same nD
        refine ⟨p, c, l, _, _, rfl, UD.P, by omega, SqL.of upd_same, (by show 0 < 4; decide), (by show 4 < 1000000000; decide), fun j2 x2 HE hx2 PE kE => ?_⟩
        have gE : FQ HE x2 := by
          have tt : ∀ b ys, HC b = some (.tup ys) → HE b = some (.tup ys) := fun b ys h => kE.tu UD.P _ _ (nD _ _ h)
          refine pick_of (P := fun x => FQ HE x) (fun y hy => ?_) hx2
          simp only [List.mem_cons, List.not_mem_nil, or_false] at hy
          rcases hy with rfl | rfl | rfl | rfl
          · exact g1.tu tt
          · exact g2.tu tt
          · exact g3.tu tt
          · exact g4.tu tt
        have UE := UD.keep kE PE
        clear kE PE UD nD hl UC g1 g2 g3 g4 hx2
        obtain ⟨tf, yf, rfl, rqf, yf0, lf⟩ := gE
        refine ⟨_, rfl, p, c, _, 5, rfl, UE.P, by omega, by decide, by decide, fun th ha hb HF sn rah PF kF => ?_⟩
        have UF := UE.keep kF PF
        obtain ⟨rqh, hn, hd0⟩ := rq_low rah sn.low
        have lh : Lim (2 ^ 100) (mkRat ha hb) := ⟨by rw [hn]; exact Nat.le_of_lt (Nat.lt_trans sn.top (by decide +kernel)), by rw [hd0]; exact Nat.le_of_lt (Nat.lt_trans sn.bot (by decide))⟩
        replace rqf : RQ HF tf yf := kF.tu UE.P _ _ rqf
        generalize mkRat ha hb = yh at rqh lh
        clear kF PF UE rah sn hn hd0
        refine ⟨_, _, rfl, ?_⟩
        -- what is known of the other name
        have ke : knOf es e.nm = some e := knOf_at F4.nd he
        have gb := F4.gb e he
        rw [li] at gb
        obtain ⟨v, hg, tk, rk, sk, fk, rfl, h1, h2, h3, h4⟩ := UF.kn.get ke
        refine ⟨_, rfl, _, _, rfl, UF.lu.known, _, rfl, _, _, rfl, hg, tk, _, rfl, SqT.of h1, rfl, _, _, rfl, _, _, rfl, _, _, rfl, _, _, rfl, rfl, ?_⟩
        have mby := lim_mid gb.sz (by omega)
        have mm1 := lim_mid (E := 300 + 110 * i + 100) (by rw [Nat.pow_add]; exact gb.sz.mul lh) (by omega)
        refine ⟨_, rfl, _, rfl, sk, th, _, _, _, _, rfl, h3, rqh, mby, lim_mid lh (by decide), fun z1 hz1 => ?_⟩
        rw [mul_rat]
        have nG := AL.Same.new (o := .tup [.int (e.sz * yh).num, .int ((e.sz * yh).den : Int)]) hz1
        refine ⟨_, rfl, z1, fk, _, _, _, _, rfl, upd_same, nG _ _ h4, mm1, lim_mid gb.sh (by omega), fun z2 hz2 => ?_⟩
        rw [sum_rat]
        have nH := AL.Same.new (o := .tup [.int (e.sz * yh + e.sh).num, .int ((e.sz * yh + e.sh).den : Int)]) hz2
        have sFH := nG.trans nH
        have hw2 : RQ (upd (upd HF z1 (.tup [.int (e.sz * yh).num, .int ((e.sz * yh).den : Int)])) z2 (.tup [.int (e.sz * yh + e.sh).num, .int ((e.sz * yh + e.sh).den : Int)])) z2 (e.sz * yh + e.sh) := upd_same
        generalize upd (upd HF z1 (.tup [.int (e.sz * yh).num, .int ((e.sz * yh).den : Int)])) z2 (.tup [.int (e.sz * yh + e.sh).num, .int ((e.sz * yh + e.sh).den : Int)]) = HH at sFH hw2 ⊢
        clear nG nH hz1 hz2 mm1
        refine ⟨_, rfl, _, rfl, _, rfl, sk, tf, _, _, _, _, rfl, sFH _ _ h3, sFH _ _ rqf, mby, lim_mid lf (by decide), fun z3 hz3 => ?_⟩
        rw [mul_rat]
        have nI := AL.Same.new (o := .tup [.int (e.sz * yf).num, .int ((e.sz * yf).den : Int)]) hz3
        refine ⟨_, rfl, (by show 4 ≤ sizeLine; decide), fun tt htt => ?_⟩
        have nJ := AL.Same.new (o := .tup [.ref rk, .ref z3, .ref z2, .bl true]) htt
        have sFJ := sFH.trans (nI.trans nJ)
        have kv : KnV (upd (upd HH z3 (.tup [.int (e.sz * yf).num, .int ((e.sz * yf).den : Int)])) tt (.tup [.ref rk, .ref z3, .ref z2, .bl true])) (.ref tt) ⟨nm, e.row, e.sz * yf, e.sz * yh + e.sh, true⟩ :=
          ⟨tt, rk, z3, z2, rfl, upd_same, sFJ _ _ h2, nJ _ _ upd_same, nJ _ _ (nI _ _ hw2)⟩
        have UJ := UF.same sFJ
        have rqfJ := sFJ _ _ rqf
        have rqhJ := sFJ _ _ rqh
        generalize upd (upd HH z3 (.tup [.int (e.sz * yf).num, .int ((e.sz * yf).den : Int)])) tt (.tup [.ref rk, .ref z3, .ref z2, .bl true]) = HJ at kv UJ rqfJ rqhJ ⊢
        clear nI nJ sFJ sFH hz3 htt hw2 UF rqf rqh h1 h2 h3 h4 hg
        obtain ⟨kvJ, hdJ, prJ⟩ := id UJ.kn
        have lkJ := pair_len prJ
        refine ⟨_, rfl, _, _, rfl, UJ.lu.known, _, rfl, d, _, rfl, .inl ⟨_, kS nm, hdJ, rfl, ?_, rfl⟩, ?_⟩
        · rw [lkJ]; exact Nat.lt_of_le_of_lt (by omega : _ ≤ 100) (by decide)
        have UK := UJ.put (e := ⟨nm, e.row, e.sz * yf, e.sz * yh + e.sh, true⟩) hdJ prJ new kv
        have tK : ∀ b ys, HJ b = some (.tup ys) → upd HJ d (.dK (putK kvJ (kS nm) (.ref tt))) b = some (.tup ys) := frz_tu hdJ
        have rqfK := tK _ _ rqfJ
        have rqhK := tK _ _ rqhJ
        change UnH (upd HJ d (.dK (putK kvJ (kS nm) (.ref tt)))) _ _ _ _ _ _ _ _ _ _ _ at UK
        generalize upd HJ d (.dK (putK kvJ (kS nm) (.ref tt))) = HK at UK rqfK rqhK ⊢
        clear tK rqfJ rqhJ UJ kv hdJ prJ
        refine ⟨_, rfl, _, _, rfl, UK.lu.lines, .inl ⟨rfl, _, SqL.of UK.hl⟩, ?_⟩
        refine ⟨_, rfl, _, rfl, _, rfl, _, rfl, p, c, tf, _, yf, rfl, UK.P, by omega, rqfK, (lim100 lf).1, (lim100 lf).2, fun wa HL wqa PL kL => ?_⟩
        have UL := UK.keep kL PL
        have rqhL : RQ HL th yh := kL.tu UK.P _ _ rqhK
        clear kL PL UK rqfK rqhK
        refine ⟨_, rfl, _, rfl, p, c, th, _, yh, rfl, UL.P, by omega, rqhL, (lim100 lh).1, (lim100 lh).2, fun wb HM wqb PM kM => ?_⟩
        have UM := UL.keep kM PM
        clear kM PM UL rqhL
        refine ⟨(by show 5 ≤ sizeLine; decide), fun la hla => ?_⟩
        have nN := AL.Same.new (o := .lst [.str "scale", .str (S nm), .str (S e.nm), .str (S wa), .str (S wb)]) hla
        have UN := UM.same nN
        have tl : TxL (upd HM la (.lst [.str "scale", .str (S nm), .str (S e.nm), .str (S wa), .str (S wb)])) la [[115, 99, 97, 108, 101], nm, e.nm, wa, wb] := by unfold TxL; rw [upd_same, scaleS]; rfl
        have lal : la ≠ ln := fun z => by rw [z, UM.hl] at hla; cases hla
        have al := pair_len UM.pr
        refine ⟨ln, _, _, rfl, rfl, UN.hl, ?_, ?_⟩
        · rw [List.length_map, al]
          show (its.map Item.words).length + 1 < _
          rw [List.length_map]
          exact Nat.lt_of_le_of_lt (by omega : _ ≤ 100) (by decide)
        have UO := UN.app tl lal
        refine ⟨_, _, _, _, _, _, _, _, _, _, _, _, as ++ [la], es ++ [⟨nm, e.row, e.sz * yf, e.sz * yh + e.sh, true⟩], its ++ [.scale nm e.nm wa wb yf.num (yf.den : Int) yh.num (yh.den : Int)], rfl, ?_, F4.scale (by omega) he okn new wqa wqb yf0 lf lh, by rw [List.length_append, li]; rfl⟩
        rw [allL_snoc]
        exact UO.keep (Keep.refl _ _) (UO.P.mono (by omega))
      · -- a unit
        have kok := F4.kok (by omega)
        refine ⟨_, rfl, _, rfl, p, c, u, b, d, ln, _, B.length, 3, es, rfl, U6.P, by omega, by decide, U6.lu, U6.kn, kok, by omega, U6.up, U6.dp, U6.ud, F4.un, fun a7 H7 ps P7 k7 hpr pok pl => ?_⟩
        have U7 := U6.keep k7 P7
        clear k7 P7 U6
        refine ⟨_, rfl, p, c, _, rfl, U7.P, by omega, fun tz y H8 rq y0 yn yd P8 k8 => ?_⟩
        have U8 := U7.keep k8 P8
        replace hpr := hpr.kp (k8.p U7.P)
        clear k8 P8 U7
        refine ⟨_, _, rfl, ?_⟩
        refine ⟨_, rfl, _, rfl, u, b, d, ln, a7, B, es, ps, rfl, U8.lu, U8.hb, F4.ne, F4.le, U8.kn, kok, hpr, pok, by omega, fun tm r9 s9 H9 sm9 ht hr hs => ?_⟩
        refine ⟨tm, _, rfl, SqT.of ht, rfl, _, _, rfl, _, _, rfl, rfl, ?_⟩
        have U9 := U8.same sm9
        replace hpr := hpr.same sm9
        replace rq : RQ H9 tz y := sm9 _ _ rq
        clear sm9 U8 ht
        refine ⟨fun σ' H' => ∃ (a' r' s' : Addr) (ps' : Pw), σ' = [some (.ref p), some (.int 6), some (.int 6), some (.ref u), some (.int (0 + (i : Int))), some (.str (S nm)), v6, v7, v8, some (.ref r'), some (.ref s'), v11, v12, v13, some (.ref a'), some (.ref tz)] ∧ Same H9 H' ∧ PrAt H' a' ps' ∧ PwOk es ps' ∧ ps'.length ≤ 3 ∧ H' r' = some (.tup ((exV (msK es) B.length ps').map V.int)) ∧ RQ H' s' (szV (msK es) ps') ∧ Lim (10 ^ 60) (szV (msK es) ps'), ?_, ?_⟩
        · have mm : ∀ p ∈ ps, 0 < szOf (msK es) p.1 := fun p hp => by
            obtain ⟨e, he, en, hs0, _⟩ := pok p hp
            have mo := meOf_msK kok.nd he hs0
            rw [en] at mo
            rw [szOf_of mo]
            exact npos.mp ((kok.bd e he hs0).2.1)
          have sp : 0 < (szV (msK es) ps).num := npos.mpr (szV_pos mm)
          refine ⟨_, rfl, s9, [(szV (msK es) ps).num, ((szV (msK es) ps).den : Int)], rfl, SqT.of hs, (by show 0 < 2; decide), fun mx m1 m2 => ?_⟩
          have q1 := m2 _ (List.mem_cons_self ..)
          have q2 := m2 _ (List.mem_cons_of_mem _ (List.mem_cons_self ..))
          refine ⟨_, _, rfl, rfl, ⟨by decide, by decide, by decide⟩, _, _, rfl, rfl, _, rfl, ?_⟩
          have t60 : (10 : Int) ^ ((60 : Int)).toNat = 10 ^ 60 := rfl
          refine ite2 (fun h => ?_) (fun h => ?_)
          · refine ⟨(by show 0 ≤ sizeLine; decide), fun a2 ha2 => ?_⟩
            have nA := AL.Same.new (o := .lst []) ha2
            have UA := U9.same nA
            have hp0 : PrAt (upd H9 a2 (.lst [])) a2 [] := ⟨[], upd_same, .nil⟩
            have po0 : PwOk es [] := fun _ h => nomatch h
            refine ⟨_, rfl, _, rfl, u, b, d, ln, a2, B, es, [], rfl, UA.lu, UA.hb, F4.ne, F4.le, UA.kn, kok, hp0, po0, by decide, fun t2 r2 s2 HB sB ht2 hr2 hs2 => ?_⟩
            refine ⟨t2, _, rfl, SqT.of ht2, rfl, _, _, rfl, _, _, rfl, rfl, ?_⟩
            exact ⟨a2, r2, s2, [], rfl, nA.trans sB, hp0.same sB, po0, by decide, hr2, hs2, ⟨Nat.one_le_pow _ _ (by decide), Nat.one_le_pow _ _ (by decide)⟩⟩
          · have h' : ¬ (mx > 10 ^ 60) := fun w => h (decide_eq_true w)
            have q3 : (szV (msK es) ps).num ≤ 10 ^ 60 := by omega
            have q4 : ((szV (msK es) ps).den : Int) ≤ 10 ^ 60 := by omega
            refine ⟨a7, r9, s9, ps, rfl, Same.refl _, hpr, pok, pl, hr, hs, ⟨by omega, by omega⟩⟩
        rintro σ1 HA ⟨a', r', s', ps', rfl, sA, hprA, pokA, plA, hrA, hsA, lA⟩
        have UA := U9.same sA
        have rqA : RQ HA tz y := sA _ _ rq
        clear sA U9 rq hpr hr hs pok pl
        have l30 : (10 : Nat) ^ 30 ≤ 2 ^ 100 := by decide +kernel
        have ly : Lim (2 ^ 100) y := ⟨Nat.le_trans yn l30, Nat.le_trans yd (by decide)⟩
        refine ⟨_, rfl, _, rfl, _, rfl, tz, s', _, _, _, _, rfl, rqA, hsA, lim_mid ly (by decide), lim_mid (lim_mono lA (by decide +kernel : (10 : Nat) ^ 60 ≤ 2 ^ 200)) (by decide), fun z hz => ?_⟩
        rw [mul_rat]
        have nB := AL.Same.new (o := .tup [.int (y * szV (msK es) ps').num, .int ((y * szV (msK es) ps').den : Int)]) hz
        refine ⟨(by show 2 ≤ sizeLine; decide), fun f0 hf0 => ?_⟩
        have nC := AL.Same.new (o := .tup [.int 0, .int 1]) hf0
        refine ⟨(by show 4 ≤ sizeLine; decide), fun tt htt => ?_⟩
        have nD := AL.Same.new (o := .tup [.ref r', .ref z, .ref f0, .bl false]) htt
        have sD := (nB.trans nC).trans nD
        have UD := UA.same sD
        have hprD := hprA.same sD
        have rqD := sD _ _ rqA
        have kv : KnV (upd (upd (upd HA z (.tup [.int (y * szV (msK es) ps').num, .int ((y * szV (msK es) ps').den : Int)])) f0 (.tup [.int 0, .int 1])) tt (.tup [.ref r', .ref z, .ref f0, .bl false])) (.ref tt) ⟨nm, exV (msK es) B.length ps', y * szV (msK es) ps', 0, false⟩ :=
          ⟨tt, r', z, f0, rfl, upd_same, sD _ _ hrA, nD _ _ (nC _ _ upd_same), nD _ _ upd_same⟩
        generalize upd (upd (upd HA z (.tup [.int (y * szV (msK es) ps').num, .int ((y * szV (msK es) ps').den : Int)])) f0 (.tup [.int 0, .int 1])) tt (.tup [.ref r', .ref z, .ref f0, .bl false]) = HD at UD hprD rqD kv ⊢
        clear sD nB nC nD hz hf0 htt UA rqA hprA hrA hsA
        obtain ⟨kvJ, hdJ, prJ⟩ := id UD.kn
        have lkJ := pair_len prJ
        refine ⟨_, rfl, _, _, rfl, UD.lu.known, _, rfl, d, _, rfl, .inl ⟨_, kS nm, hdJ, rfl, ?_, rfl⟩, ?_⟩
        · rw [lkJ]; exact Nat.lt_of_le_of_lt (by omega : _ ≤ 100) (by decide)
        have UK := UD.put (e := ⟨nm, exV (msK es) B.length ps', y * szV (msK es) ps', 0, false⟩) hdJ prJ new kv
        have tK : ∀ b ys, HD b = some (.tup ys) → upd HD d (.dK (putK kvJ (kS nm) (.ref tt))) b = some (.tup ys) := frz_tu hdJ
        have rqK := tK _ _ rqD
        have hprK : PrAt (upd HD d (.dK (putK kvJ (kS nm) (.ref tt)))) a' ps' := by
          obtain ⟨ts, e1, e2⟩ := hprD
          exact ⟨ts, by rw [upd_ne (fun z => by rw [z, hdJ] at e1; cases e1)]; exact e1, paired_imp (fun _ _ w => tK _ _ w) e2⟩
        change UnH (upd HD d (.dK (putK kvJ (kS nm) (.ref tt)))) _ _ _ _ _ _ _ _ _ _ _ at UK
        generalize upd HD d (.dK (putK kvJ (kS nm) (.ref tt))) = HK at UK rqK hprK ⊢
        clear tK rqD hprD UD kv hdJ prJ
        refine ⟨_, rfl, _, _, rfl, UK.lu.lines, .inl ⟨rfl, _, SqL.of UK.hl⟩, ?_⟩
        refine ⟨_, rfl, _, rfl, _, rfl, p, c, tz, _, y, rfl, UK.P, by omega, rqK, (lim100 ly).1, (lim100 ly).2, fun rw0 HL wq PL kL => ?_⟩
        have UL := UK.keep kL PL
        have hprL := hprK.kp (kL.p UK.P)
        clear kL PL UK rqK hprK
        refine ⟨(by show 3 ≤ sizeLine; decide), fun l1 hl1 => ?_⟩
        have nM := AL.Same.new (o := .lst [.str "unit", .str (S nm), .str (S rw0)]) hl1
        have UM := UL.same nM
        have hprM := hprL.same nM
        have h1M : upd HL l1 (.lst [.str "unit", .str (S nm), .str (S rw0)]) l1 = some (.lst [.str "unit", .str (S nm), .str (S rw0)]) := upd_same
        generalize upd HL l1 (.lst [.str "unit", .str (S nm), .str (S rw0)]) = HM at UM hprM h1M ⊢
        clear nM hl1 UL hprL
        refine ⟨_, rfl, _, rfl, p, c, a', _, ps', rfl, UM.P, by omega, hprM, by omega, fun q hq => ?_, fun wa HN us PN kN tw pe uok => ?_⟩
        · obtain ⟨e, he, en, _, lo, hi⟩ := pokA q hq
          exact ⟨by rw [← en]; exact F4.nm e he, lo, hi⟩
        subst pe
        have UN := UM.keep kN PN
        have h1N : HN l1 = _ := kN.at UM.P h1M (fun _ z => by cases z)
        have ul : us.length ≤ 3 := by have z := plA; unfold pws at z; rwa [List.length_map] at z
        have wc := wtx_count us
        refine ⟨l1, wa, _, _, rfl, rfl, h1N, tw, ?_, fun la hla => ?_⟩
        · rw [List.length_map]; exact Nat.le_trans (by show 3 + _ ≤ 100; omega) (by decide)
        have nO := AL.Same.new (o := .lst ([.str "unit", .str (S nm), .str (S rw0)] ++ (wtx us).map vS)) hla
        have UO := UN.same nO
        have tl : TxL (upd HN la (.lst ([.str "unit", .str (S nm), .str (S rw0)] ++ (wtx us).map vS))) la ([117, 110, 105, 116] :: nm :: rw0 :: wtx us) := by unfold TxL; rw [upd_same, unitS]; rfl
        have lal : la ≠ ln := fun z => by rw [z, UN.hl] at hla; cases hla
        have al := pair_len UN.pr
        refine ⟨ln, _, _, rfl, rfl, UO.hl, ?_, ?_⟩
        · rw [List.length_map, al]
          show (its.map Item.words).length + 1 < _
          rw [List.length_map]
          exact Nat.lt_of_le_of_lt (by omega : _ ≤ 100) (by decide)
        have UP := UO.app tl lal
        refine ⟨_, _, _, _, _, _, _, _, _, _, _, _, as ++ [la], es ++ [⟨nm, exV (msK es) B.length (pws us), y * szV (msK es) (pws us), 0, false⟩], its ++ [.unit nm rw0 y us], rfl, ?_, F4.unit (by omega) okn new wq y0 yn yd uok pokA ul lA, by rw [List.length_append, li]; rfl⟩
        rw [allL_snoc]
        exact UP.keep (Keep.refl _ _) (UP.P.mono (by omega))
    · rintro σ H4 ⟨v4, v5, v6, v7, v8, v9, v10, v11, v12, v13, v14, v15, as, es, its, rfl, U4, F4, li⟩
      exact ⟨_, rfl, q u b d ln as H4 B es its (U4.keep (Keep.refl _ _) (U4.P.mono (by omega))) F4 (by omega)⟩
end
end AL
set_option Elab.async false
set_option maxRecDepth 100000
set_option exponentiation.threshold 70000
set_option maxHeartbeats 1000000
namespace AL
open PySem PySem.Spec PyProof.Rows L2 RZ
section
variable {P : Program} {w : World} {K : PySem.W.Frag} {mg : Str → Option Value} {base : Heap}

theorem eqv_sh {d : PyData} (h : SeqAt.shaped d = true) : PyData.eqv d d = true := by
  unfold SeqAt.shaped at h
  simp only [Bool.and_eq_true] at h
  exact SeqAt.eqv_refl d h.1
theorem shaped_of {d : PyData} (h : PyData.canLay0 d = true) (l : PyData.depth d ≤ 64) : SeqAt.shaped d = true := by
  unfold SeqAt.shaped
  rw [h, decide_eq_true l]; rfl
theorem zpw_one : ∀ n : Int, zpw 1 n = 1 := fun n => by
  unfold zpw
  have e : ∀ k : Nat, (1 : Rat) ^ k = 1 := fun k => by
    induction k with
    | zero => rfl
    | succ k ih => rw [Rat.pow_succ, ih, Rat.one_mul]
  rw [e]
  split <;> decide +kernel
theorem szV_ones (ms : List Me) : ∀ ps : Pw, (∀ p ∈ ps, szOf ms p.1 = 1) → szV ms ps = 1 := by
  refine snoc_ind ?_ ?_
  · intro _; rfl
  · intro l x ih h
    rw [szV_snoc, ih (fun p hp => h p (List.mem_append_left _ hp)), h x (List.mem_append_right _ (List.mem_singleton.mpr rfl)), zpw_one, Rat.one_mul]
theorem gro_base (B : List (List Nat)) : ∀ its : List Item, ∀ m ∈ baM B B.length, m ∈ (gro B its).1 := by
  refine snoc_ind ?_ ?_
  · intro m h; exact h
  · intro its it ih m h
    rw [gro_snoc]
    cases it with
    | unit nm rw0 y us => exact List.mem_append_left _ (ih m h)
    | scale nm ot wa wb p q r t => exact ih m h
theorem bUs_mem : ∀ {B : List (List Nat)} {es : List Int} {u : UW}, u ∈ bUs B es → u.nm ∈ B
  | [], es, u, h => by cases es <;> cases h
  | _ :: _, [], u, h => by cases h
  | b :: B, e :: es, u, h => by
    simp only [bUs, List.mem_append] at h
    rcases h with h | h
    · unfold bU at h
      split at h
      · cases h
      · rw [show u = ⟨b, e, decide (e ≠ 1)⟩ by simpa using h]
        exact List.mem_cons_self ..
    · exact List.mem_cons_of_mem _ (bUs_mem h)
theorem pws_app (a b : List UW) : pws (a ++ b) = pws a ++ pws b := by unfold pws; rw [List.map_append]
theorem lsum_app (f : List Nat → Int) (a b : Pw) : lsum f (a ++ b) = lsum f a + lsum f b := by
  induction a with
  | nil => simp [lsum]
  | cons x r ih => simp only [List.cons_append, lsum, ih]; omega
theorem lsum_bU (f : List Nat → Int) (l : List Nat) (k : Int) : lsum f (pws (bU l k)) = k * f l := by
  unfold bU
  split
  · rename_i h; rw [h]; simp [pws, lsum]
  · simp [pws, lsum]
theorem lsum_bUs {f : List Nat → Int} {B : List (List Nat)} {es : List Int} (hl : es.length = B.length) {i : Nat} (hf : ∀ j l, B[j]? = some l → f l = if i = j then 1 else 0) :
    ∀ k, k ≤ B.length → lsum f (pws (bUs (B.take k) (es.take k))) = if i < k then es.getD i 0 else 0
  | 0, _ => by simp [bUs, pws, lsum]
  | k + 1, h => by
    have e1 : B[k]? = some (B[k]'(by omega)) := List.getElem?_eq_getElem (by omega)
    have e2 : es[k]? = some (es[k]'(by omega)) := List.getElem?_eq_getElem (by omega)
    rw [bUs_snoc e1 e2, pws_app, lsum_app, lsum_bUs hl hf k (by omega), lsum_bU, hf k _ e1]
    by_cases ik : i = k
    · subst ik
      rw [if_neg (by omega), if_pos rfl, if_pos (by omega), List.getD_eq_getElem?_getD, e2]
      simp
    · rw [if_neg ik]
      by_cases w : i < k
      · rw [if_pos w, if_pos (by omega)]; omega
      · rw [if_neg w, if_neg (by omega)]; omega
/-- what the law needs to know of its units -/
structure UnK (B : List (List Nat)) (ms : List Me) : Prop where
  le : B.length ≤ 6
  bn : ∀ l ∈ B, nmOk l = true
  row : ∀ m ∈ ms, m.row.length = B.length ∧ (∀ k ∈ m.row, k.natAbs < 2 ^ 60) ∧ m.sz ≠ 0
  ba : ∀ j l, B[j]? = some l → meOf ms l = some ⟨l, unR B.length j, 1⟩
theorem UnF.unk {B : List (List Nat)} {es : List Kn} {its : List Item} (h : UnF B es its) (l : its.length ≤ 6) : UnK B (msK es) := by
  have kok := h.kok l
  refine ⟨h.le, h.bn, fun m hm => ?_, fun j x hj => ?_⟩
  · unfold msK at hm
    obtain ⟨e, he, rfl⟩ := List.mem_map.mp hm
    have hf := List.mem_filter.mp he
    have hs : e.sc = false := by simpa using hf.2
    have b := kok.bd e hf.1 hs
    exact ⟨kok.row e hf.1, fun k hk => Nat.lt_of_lt_of_le (b.1 k hk) (Nat.pow_le_pow_right (by decide) (by decide)), pos_ne b.2.1⟩
  · have jl := (List.getElem?_eq_some_iff.mp hj).1
    refine meOf_at (msK_nd h.nd) (m := ⟨x, unR B.length j, 1⟩) ?_
    rw [h.ms]
    refine gro_base B its _ ?_
    unfold baM
    exact List.mem_filterMap.mpr ⟨j, List.mem_range.mpr jl, by rw [hj]; rfl⟩
theorem UnK.ex {B : List (List Nat)} {ms : List Me} (h : UnK B ms) {es : List Int} (hl : es.length = B.length) : exV ms B.length (pws (bUs B es)) = es := by
  refine List.ext_getElem? fun i => ?_
  unfold exV
  rw [List.getElem?_map]
  by_cases hi : i < B.length
  · rw [List.getElem?_range hi]
    have z := lsum_bUs (f := fun l => (rowOf ms l).getD i 0) hl (i := i) (fun j l hj => ?_) B.length (Nat.le_refl _)
    · rw [List.take_length, ← hl, List.take_length] at z
      show some (lsum _ _) = _
      rw [z, if_pos (by omega), List.getD_eq_getElem?_getD, List.getElem?_eq_getElem (by omega)]; rfl
    · unfold rowOf
      rw [h.ba j l hj]
      show (unR B.length j).getD i 0 = _
      rw [List.getD_eq_getElem?_getD, unR_get hi]; rfl
  · rw [List.getElem?_eq_none (by rw [List.length_range]; omega), List.getElem?_eq_none (by omega)]; rfl
theorem UnK.kn {B : List (List Nat)} {ms : List Me} (h : UnK B ms) {es : List Int} (hk : ∀ k ∈ es, -99 ≤ k ∧ k ≤ 99) : KnU ms (bUs B es) := fun u hu => by
  refine ⟨bUs_ok h.bn hk u hu, ?_⟩
  obtain ⟨j, hj⟩ := List.mem_iff_getElem?.mp (bUs_mem hu)
  exact ⟨_, h.ba j _ hj⟩
theorem UnK.one {B : List (List Nat)} {ms : List Me} (h : UnK B ms) {es : List Int} : ∀ u ∈ bUs B es, szOf ms u.nm = 1 := fun u hu => by
  obtain ⟨j, hj⟩ := List.mem_iff_getElem?.mp (bUs_mem hu)
  exact szOf_of (h.ba j _ hj)
theorem UnK.sz {B : List (List Nat)} {ms : List Me} (h : UnK B ms) {es : List Int} : szV ms (pws (bUs B es)) = 1 := szV_ones ms _ fun p hp => by
  obtain ⟨u, hu, rfl⟩ := List.mem_map.mp hp
  exact h.one u hu
theorem UnK.wt {B : List (List Nat)} {ms : List Me} (h : UnK B ms) {es : List Int} (hk : ∀ k ∈ es, -99 ≤ k ∧ k ≤ 99) : wt (pws (bUs B es)) ≤ 594 := by
  have a := wt_pws (bUs_ok h.bn hk)
  have b := bUs_len B es
  have := h.le
  omega
theorem bUs_zero : ∀ (B : List (List Nat)) (n : Nat), bUs B (List.replicate n 0) = []
  | [], n => by cases n <;> rfl
  | _ :: _, 0 => rfl
  | b :: B, n + 1 => by
    rw [List.replicate_succ]
    simp only [bUs, bUs_zero B n]
    rfl
theorem UnNew.at {CU x : Addr} {H : Hp} {B : List (List Nat)} {its : List Item} {e : Bool} {ms : List Me} (h : UnNew CU H x B its e) (hm : ms = (gro B its).1) (k : UnK B ms) : UnAt CU H x B ms := by
  obtain ⟨dx, b, na, d, s, h1, h2, h3, h4⟩ := h.ex
  exact ⟨⟨dx, _, d, b, h1, by rfl, by rfl, by rfl, by rfl, by rfl, by rw [hm]; exact h4, h2⟩, k.le, k.row⟩
theorem UnAt.keep {CU x p c : Addr} {m : Nat} {H H' : Hp} {B : List (List Nat)} {ms : List Me} (h : UnAt CU H x B ms) (k : ∀ b o, H b = some o → (∀ l, o ≠ .dK l) → H' b = some o) (kd : ∀ d, MeAt H d ms → MeAt H' d ms) : UnAt CU H' x B ms := by
  obtain ⟨dx, fs, d, b, h1, h2, h3, h4, h5, h6, h7, h8⟩ := h.ex
  exact ⟨⟨dx, fs, d, b, k _ _ h1 (fun _ z => by cases z), h2, h3, h4, h5, h6, kd d h7, k _ _ h8 (fun _ z => by cases z)⟩, h.le, h.row⟩
theorem one_word {l : List Nat} (h : nmOk l = true) : TL.joinL [32] (wtx [⟨l, 1, false⟩]) = l := by
  show TL.joinL [32] [l] = l
  exact joinL_one
theorem exV_one {ms : List Me} {n : Nat} {l : List Nat} {m : Me} (h : meOf ms l = some m) (hr : m.row.length = n) : exV ms n [(l, 1)] = m.row := by
  have ro : rowOf ms l = m.row := by unfold rowOf; rw [h]
  have z := exV_snoc ms n [] (l, 1) (by show (rowOf ms l).length = n; rw [ro]; exact hr)
  rw [List.nil_append] at z
  rw [← z, exV_nil, show rowOf ms (l, (1 : Int)).1 = m.row from ro]
  refine List.ext_getElem? fun i => ?_
  rw [List.getElem?_zipWith]
  by_cases hi : i < n
  · rw [List.getElem?_replicate, if_pos hi, List.getElem?_eq_getElem (by omega)]
    simp
  · rw [List.getElem?_replicate, if_neg hi, List.getElem?_eq_none (by omega)]
theorem szV_one1 {ms : List Me} {l : List Nat} {m : Me} (h : meOf ms l = some m) : szV ms [(l, 1)] = m.sz := by
  have z := szV_snoc ms [] (l, 1)
  rw [List.nil_append] at z
  rw [z, show szOf ms (l, (1 : Int)).1 = m.sz from szOf_of h, show (l, (1 : Int)).2 = ((1 : Nat) : Int) from rfl, zpw_nat, Rat.pow_succ, Rat.pow_zero]
  show 1 * (1 * m.sz) = m.sz
  rw [Rat.one_mul, Rat.one_mul]

theorem pen_me {H : Hp} {p c d : Addr} {m : Nat} {ms : List Me} (P : Pen H p c m) (h : MeAt H d ms) (ne : 2 ≤ ms.length) : d ≠ p := fun z => by
  obtain ⟨kvs, hk, pr⟩ := h
  obtain ⟨ns, i, dd, n, f, hp, _⟩ := P.ex
  rw [z, hp] at hk
  have e : kvs = penK c i dd n f := by injection hk with w; injection w with w; exact w.symm
  subst e
  cases pr with
  | cons _ r =>
    cases r with
    | cons h2 _ =>
      obtain ⟨t, _, _, w, _⟩ := h2.2
      cases w
theorem pen_me1 {H : Hp} {p c d : Addr} {m : Nat} {ms : List Me} (P : Pen H p c m) (h : MeAt H d ms) : d ≠ p := fun z => by
  obtain ⟨kvs, hk, pr⟩ := h
  obtain ⟨ns, i, dd, n, f, hp, _⟩ := P.ex
  rw [z, hp] at hk
  have e : kvs = penK c i dd n f := by injection hk with w; injection w with w; exact w.symm
  subst e
  have l := pair_len pr
  have l5 : (penK c i dd n f).length = 5 := pen_len
  exact pen_me P ⟨_, by rw [z]; exact hp, pr⟩ (by omega) z
theorem UnAt.kp {CU x p c : Addr} {m : Nat} {H H' : Hp} {B : List (List Nat)} {ms : List Me} (h : UnAt CU H x B ms) (P : Pen H p c m) (k : Keep p H H') : UnAt CU H' x B ms :=
  h.keep (c := c) (p := p) (m := m) (fun b o e n => k.at P e n) fun d e => e.tu (fun o => k _ o (pen_me1 P e)) (k.tu P)
theorem made_same {H : Hp} {x dx : Addr} {o : HO} (h1 : H x = none) (h2 : H dx = none) : Same H (upd (upd H dx (.own x)) x o) := fun b u e => by
  rw [upd_ne (ne_of_none e h1), upd_ne (ne_of_none e h2)]; exact e
theorem txt_low {B : List (List Nat)} {its : List Item} {e : Bool} (h : ∀ L ∈ allL B its, LineOk L) : ∀ c ∈ txtU B its e, c < 1000 := fun c hc => by
  rcases Nat.lt_or_ge c 1000 with w | w
  · exact w
  · exfalso
    unfold txtU at hc
    rcases List.mem_append.mp hc with m | m
    · refine joinL_no (by omega : 10 ≠ c) (fun l hl => ?_) m
      obtain ⟨L, hL, rfl⟩ := List.mem_map.mp hl
      refine joinL_no (by omega : 32 ≠ c) fun y hy hcy => ?_
      have := ((h L hL).2.2 y hy).2.2.2 c hcy
      omega
    · split at m
      · rw [List.mem_singleton.mp m] at w; omega
      · cases m
theorem kn_me {H : Hp} {d : Addr} {es : List Kn} {ms : List Me} (h : KnAt H d es) (g : MeAt H d ms) (ne : es ≠ []) : False := by
  obtain ⟨kvs, h1, h2⟩ := h
  obtain ⟨kvs', g1, g2⟩ := g
  rw [h1] at g1
  have e : kvs = kvs' := by injection g1 with w; injection w
  subst e
  cases h2 with
  | nil => exact ne rfl
  | cons a _ =>
    cases g2 with
    | cons b _ =>
      obtain ⟨t, r, s, f, e1, k1, _⟩ := a.2
      obtain ⟨t2, r2, s2, e2, k2, _⟩ := b.2
      rw [e1] at e2
      have : t = t2 := by injection e2
      subst this
      rw [k1] at k2
      injection k2 with w
      injection w with w
      simp at w
theorem UnAt.frz {CU x d : Addr} {H : Hp} {B : List (List Nat)} {es : List Kn} {ms : List Me} {kvs : List (Key × V)} {o : HO} (h : UnAt CU H x B ms) (kn : KnAt H d es) (ne : es ≠ []) (hd : H d = some (.dK kvs)) : UnAt CU (upd H d o) x B ms :=
  h.keep (c := d) (p := d) (m := 0) (fun b o e n => by rw [upd_ne (fun z => by rw [z, hd] at e; exact n _ (Option.some.inj e).symm)]; exact e) fun d' g => g.tu (fun o w => by rw [upd_ne (fun z => kn_me kn (by rw [← z]; exact g) ne)]; exact w) (frz_tu hd)
theorem can_lst {l : List (List Nat)} (h : OkS l) : PyData.canLayAll0 (l.map dS) = true ∧ PyData.depthAll (l.map dS) = 0 := can_txt h
def d3T (T : List Nat) (B N : List (List Nat)) : PyData := .tuple [.str (S T), .tuple (B.map dS), .tuple (N.map dS)]
theorem sh3T {T : List Nat} {B N : List (List Nat)} (hT : PyData.strOk (S T) = true) (hB : OkS B) (hN : OkS N) : SeqAt.shaped (d3T T B N) = true := by
  refine shaped_of ?_ ?_
  · simp only [d3T, PyData.canLay0, PyData.canLayAll0, hT, (can_txt hB).1, (can_txt hN).1, Bool.and_self]
  · simp only [d3T, PyData.depth, PyData.depthAll, (can_txt hB).2, (can_txt hN).2]; decide
def d2I (es : List Int) (y : Rat) : PyData := .tuple [.tuple (es.map PyData.int), .tuple [.int y.num, .int (y.den : Int)]]
theorem sh2I (es : List Int) (y : Rat) : SeqAt.shaped (d2I es y) = true := by
  refine shaped_of ?_ ?_
  · simp only [d2I, PyData.canLay0, PyData.canLayAll0, (can_ints es).1, Bool.and_self]
  · simp only [d2I, PyData.depth, PyData.depthAll, (can_ints es).2]; decide
theorem shR (y : Rat) : SeqAt.shaped (.tuple [.int y.num, .int (y.den : Int)]) = true := shaped_ints [y.num, (y.den : Int)]
theorem dpR {K : PySem.W.Frag} {H : Hp} {t : Addr} {y : Rat} (h : RQ H t y) : Dp K H (.ref t) (.tuple [.int y.num, .int (y.den : Int)]) := dp_ints (es := [y.num, (y.den : Int)]) h
def d3I (es : List Int) : PyData := .tuple [.tuple (es.map PyData.int), .tuple [.int 1, .int 1], .str (S [49])]
theorem sh3I (es : List Int) : SeqAt.shaped (d3I es) = true := by
  have o : PyData.strOk (S [49]) = true := by decide +kernel
  refine shaped_of ?_ ?_
  · simp only [d3I, PyData.canLay0, PyData.canLayAll0, (can_ints es).1, o, Bool.and_self]
  · simp only [d3I, PyData.depth, PyData.depthAll, (can_ints es).2]; decide

end
end AL
set_option Elab.async false
set_option maxRecDepth 100000
set_option exponentiation.threshold 70000
set_option maxHeartbeats 1000000
namespace AL
open PySem PySem.Spec PyProof.Rows L2 RZ
section
variable {P : Program} {w : World} {K : PySem.W.Frag} {mg : Str → Option Value} {base : Heap}
abbrev stlaw : Stmt := top 68
theorem sclaw : FnScope ["_law_script", "_law_pen_here", "_law_units_here", "_law_text", "_law_many", "_law_made", "_law_lap", "_law_pairs_here", "_law_words", "_law_due", "_law_name_here", "_law_row", "_law_size_here", "_law_shift", "_law_is_scale", "_law_exponents", "_law_k"] ["_law_script"] (defScope stlaw) := ⟨rfl, rfl, rfl, by decide +kernel, rfl, by decide +kernel, by decide +kernel⟩
theorem oklaw (B : Blt mg) {CUnits : Addr} (Es : ErU K mg CUnits) {fexponents_in : Addr} {fdexponents_in : FuncData} (Dexponents_in : DefAt K mg "exponents_in" stexponents_in ["powers", "measures", "many"] fexponents_in fdexponents_in) {fis_exponent : Addr} {fdis_exponent : FuncData} (Dis_exponent : DefAt K mg "is_exponent" stis_exponent ["text"] fis_exponent fdis_exponent) {fis_name : Addr} {fdis_name : FuncData} (Dis_name : DefAt K mg "is_name" stis_name ["text"] fis_name fdis_name) {fnamed_power : Addr} {fdnamed_power : FuncData} (Dnamed_power : DefAt K mg "named_power" stnamed_power ["word"] fnamed_power fdnamed_power) {fpowers_of : Addr} {fdpowers_of : FuncData} (Dpowers_of : DefAt K mg "powers_of" stpowers_of ["words"] fpowers_of fdpowers_of) {fwrong_unit_word : Addr} {fdwrong_unit_word : FuncData} (Dwrong_unit_word : DefAt K mg "wrong_unit_word" stwrong_unit_word ["words", "measures"] fwrong_unit_word fdwrong_unit_word) {fchecked_powers : Addr} {fdchecked_powers : FuncData} (Dchecked_powers : DefAt K mg "checked_powers" stchecked_powers ["words", "measures", "ahead"] fchecked_powers fdchecked_powers) {fread_powers : Addr} {fdread_powers : FuncData} (Dread_powers : DefAt K mg "read_powers" stread_powers ["text", "measures"] fread_powers fdread_powers) {fU_exp : Addr} {fdU_exp : FuncData} (DU_exp : MetA K "exponents_of" "Units.exponents_of" stU_exp ["self", "words"] CUnits fU_exp fdU_exp) {fbase_measures : Addr} {fdbase_measures : FuncData} (Dbase_measures : DefAt K mg "base_measures" stbase_measures ["base"] fbase_measures fdbase_measures) {flines_of : Addr} {fdlines_of : FuncData} (Dlines_of : DefAt K mg "lines_of" stlines_of ["text"] flines_of fdlines_of) {fratio_product : Addr} {fdratio_product : FuncData} (Dratio_product : DefAt K mg "ratio_product" stratio_product ["one", "other"] fratio_product fdratio_product) {flowest : Addr} {fdlowest : FuncData} (Dlowest : DefAt K mg "lowest" stlowest ["top", "bottom"] flowest fdlowest) {fdigits_end : Addr} {fddigits_end : FuncData} (Ddigits_end : DefAt K mg "digits_end" stdigits_end ["text", "start"] fdigits_end fddigits_end) {fwrong_column_ratios : Addr} {fdwrong_column_ratios : FuncData} (Dwrong_column_ratios : DefAl K mg "wrong_column_ratios" "wrong_column" stwrong_column_ratios ["text"] fwrong_column_ratios fdwrong_column_ratios) {fratio_of : Addr} {fdratio_of : FuncData} (Dratio_of : DefAt K mg "ratio_of" stratio_of ["text"] fratio_of fdratio_of) {fratio_word : Addr} {fdratio_word : FuncData} (Dratio_word : DefAt K mg "ratio_word" stratio_word ["word"] fratio_word fdratio_word) {fwhole_power : Addr} {fdwhole_power : FuncData} (Dwhole_power : DefAt K mg "whole_power" stwhole_power ["base", "n"] fwhole_power fdwhole_power) {fratio_power : Addr} {fdratio_power : FuncData} (Dratio_power : DefAt K mg "ratio_power" stratio_power ["ratio", "n"] fratio_power fdratio_power) {fsize_in : Addr} {fdsize_in : FuncData} (Dsize_in : DefAt K mg "size_in" stsize_in ["powers", "measures"] fsize_in fdsize_in) {fmeasure_of : Addr} {fdmeasure_of : FuncData} (Dmeasure_of : DefAt K mg "measure_of" stmeasure_of ["word", "words", "measures", "many"] fmeasure_of fdmeasure_of) {fwrong_names_column : Addr} {fdwrong_names_column : FuncData} (Dwrong_names_column : DefAt K mg "wrong_names_column" stwrong_names_column ["words", "head", "most"] fwrong_names_column fdwrong_names_column) {fwrong_base_column : Addr} {fdwrong_base_column : FuncData} (Dwrong_base_column : DefAt K mg "wrong_base_column" stwrong_base_column ["lines"] fwrong_base_column fdwrong_base_column) {fwrong_scale_column : Addr} {fdwrong_scale_column : FuncData} (Dwrong_scale_column : DefAt K mg "wrong_scale_column" stwrong_scale_column ["words", "measures", "scales"] fwrong_scale_column fdwrong_scale_column) {fwrong_column_units : Addr} {fdwrong_column_units : FuncData} (Dwrong_column_units : DefAl K mg "wrong_column_units" "wrong_column" stwrong_column_units ["words", "measures", "scales"] fwrong_column_units fdwrong_column_units) {fU_init : Addr} {fdU_init : FuncData} (DU_init : IniA K "__init__" "Units.__init__" stU_init ["self", "text"] CUnits fU_init fdU_init) {fU_size : Addr} {fdU_size : FuncData} (DU_size : MetA K "size_of" "Units.size_of" stU_size ["self", "words"] CUnits fU_size fdU_size) {fis_whole : Addr} {fdis_whole : FuncData} (Dis_whole : DefAt K mg "is_whole" stis_whole ["value"] fis_whole fdis_whole) {fare_integers : Addr} {fdare_integers : FuncData} (Dare_integers : DefAt K mg "are_integers" stare_integers ["items"] fare_integers fdare_integers) {fU_wr : Addr} {fdU_wr : FuncData} (DU_wr : MetA K "written" "Units.written" stU_wr ["self", "exponents"] CUnits fU_wr fdU_wr) {f_law_base_words : Addr} {fd_law_base_words : FuncData} (D_law_base_words : DefAt K mg "_law_base_words" st_law_base_words ["_law_units_here", "_law_exponents"] f_law_base_words fd_law_base_words) {f_law_draw : Addr} {fd_law_draw : FuncData} (D_law_draw : DefAt K mg "_law_draw" st_law_draw ["_law_pen_here", "_law_many"] f_law_draw fd_law_draw) {f_law_gcd : Addr} {fd_law_gcd : FuncData} (D_law_gcd : DefAt K mg "_law_gcd" st_law_gcd ["_law_one", "_law_two"] f_law_gcd fd_law_gcd) {f_law_q : Addr} {fd_law_q : FuncData} (D_law_q : DefAt K mg "_law_q" st_law_q ["_law_top", "_law_bottom"] f_law_q fd_law_q) {f_law_power : Addr} {fd_law_power : FuncData} (D_law_power : DefAt K mg "_law_power" st_law_power ["_law_one", "_law_n"] f_law_power fd_law_power) {f_law_times : Addr} {fd_law_times : FuncData} (D_law_times : DefAt K mg "_law_times" st_law_times ["_law_one", "_law_two"] f_law_times fd_law_times) {f_law_measure : Addr} {fd_law_measure : FuncData} (D_law_measure : DefAt K mg "_law_measure" st_law_measure ["_law_units_here", "_law_pairs_here"] f_law_measure fd_law_measure) {f_law_pair_words : Addr} {fd_law_pair_words : FuncData} (D_law_pair_words : DefAt K mg "_law_pair_words" st_law_pair_words ["_law_pen_here", "_law_pairs_here"] f_law_pair_words fd_law_pair_words) {f_law_pick : Addr} {fd_law_pick : FuncData} (D_law_pick : DefAt K mg "_law_pick" st_law_pick ["_law_pen_here", "_law_some"] f_law_pick fd_law_pick) {f_law_pairs : Addr} {fd_law_pairs : FuncData} (D_law_pairs : DefAt K mg "_law_pairs" st_law_pairs ["_law_pen_here", "_law_units_here", "_law_most"] f_law_pairs fd_law_pairs) {f_law_pen : Addr} {fd_law_pen : FuncData} (D_law_pen : DefAt K mg "_law_pen" st_law_pen ["_law_script"] f_law_pen fd_law_pen) {f_law_name : Addr} {fd_law_name : FuncData} (D_law_name : DefAt K mg "_law_name" st_law_name ["_law_pen_here", "_law_used"] f_law_name fd_law_name) {f_law_names : Addr} {fd_law_names : FuncData} (D_law_names : DefAt K mg "_law_names" st_law_names ["_law_pen_here", "_law_many"] f_law_names fd_law_names) {f_law_base_units : Addr} {fd_law_base_units : FuncData} (D_law_base_units : DefAt K mg "_law_base_units" st_law_base_units ["_law_pen_here", "_law_many"] f_law_base_units fd_law_base_units) {f_law_written : Addr} {fd_law_written : FuncData} (D_law_written : DefAt K mg "_law_written" st_law_written ["_law_one"] f_law_written fd_law_written) {f_law_other : Addr} {fd_law_other : FuncData} (D_law_other : DefAt K mg "_law_other" st_law_other ["_law_pen_here", "_law_ratio_here"] f_law_other fd_law_other) {f_law_plus : Addr} {fd_law_plus : FuncData} (D_law_plus : DefAt K mg "_law_plus" st_law_plus ["_law_one", "_law_two"] f_law_plus fd_law_plus) {f_law_big : Addr} {fd_law_big : FuncData} (D_law_big : DefAt K mg "_law_big" st_law_big ["_law_pen_here", "_law_figures"] f_law_big fd_law_big) {f_law_ratio : Addr} {fd_law_ratio : FuncData} (D_law_ratio : DefAt K mg "_law_ratio" st_law_ratio ["_law_pen_here", "_law_figures"] f_law_ratio fd_law_ratio) {f_law_size : Addr} {fd_law_size : FuncData} (D_law_size : DefAt K mg "_law_size" st_law_size ["_law_pen_here"] f_law_size fd_law_size) {f_law_units : Addr} {fd_law_units : FuncData} (D_law_units : DefAt K mg "_law_units" st_law_units ["_law_pen_here", "_law_many", "_law_lines"] f_law_units fd_law_units) {f_law_units_text : Addr} {fd_law_units_text : FuncData} (D_law_units_text : DefAt K mg "_law_units_text" st_law_units_text ["_law_pen_here", "_law_units_here"] f_law_units_text fd_law_units_text) {flaw : Addr} {fdlaw : FuncData} (Dlaw : DefAt K mg "law" stlaw ["_law_script"] flaw fdlaw) : FnOk P w K mg base CX0 10 flaw fdlaw ["_law_script"] (spLaw K) := by
  obtain ⟨uD, hD, rD⟩ := Es.dig
  obtain ⟨uM, hM, rM⟩ := Es.most
  obtain ⟨uL, hL, rL⟩ := Es.lett
  obtain ⟨uN, hN, rN⟩ := Es.long
  obtain ⟨uB, hB, rB⟩ := Es.most6
  have OKU_exp : FnOk P w K mg base CX0 6 fU_exp fdU_exp ["self", "words"] (spUx CUnits) := okU_exp B Es Dexponents_in Dis_exponent Dis_name Dnamed_power Dpowers_of Dwrong_unit_word Dchecked_powers Dread_powers DU_exp
  have OKU_init : FnOk P w K mg base CX0 7 fU_init fdU_init ["self", "text"] (spUi CUnits) := okU_init B Es Dbase_measures Dlines_of Dexponents_in Dis_exponent Dis_name Dnamed_power Dpowers_of Dratio_product Dlowest Ddigits_end Dwrong_column_ratios Dratio_of Dratio_word Dwhole_power Dratio_power Dsize_in Dmeasure_of Dwrong_names_column Dwrong_base_column Dwrong_scale_column Dwrong_unit_word Dwrong_column_units DU_init
  have OKU_size : FnOk P w K mg base CX0 6 fU_size fdU_size ["self", "words"] (spUs CUnits) := okU_size B Es Dis_exponent Dis_name Dnamed_power Dpowers_of Dwrong_unit_word Dchecked_powers Dread_powers Dlowest Dwhole_power Dratio_power Dratio_product Dsize_in DU_size
  have OKU_wr : FnOk P w K mg base CX0 3 fU_wr fdU_wr ["self", "exponents"] (spUw CUnits) := okU_wr B Es Dis_whole Dare_integers DU_wr
  have OK_law_base_words : FnOk P w K mg base CX0 1 f_law_base_words fd_law_base_words ["_law_units_here", "_law_exponents"] spBw := ok_law_base_words B Es D_law_base_words
  have OK_law_draw : FnOk P w K mg base CX0 1 f_law_draw fd_law_draw ["_law_pen_here", "_law_many"] spDraw := ok_law_draw B  D_law_draw
  have OK_law_measure : FnOk P w K mg base CX0 4 f_law_measure fd_law_measure ["_law_units_here", "_law_pairs_here"] spMe := ok_law_measure B Es D_law_gcd D_law_q D_law_power D_law_times D_law_measure
  have OK_law_pair_words : FnOk P w K mg base CX0 2 f_law_pair_words fd_law_pair_words ["_law_pen_here", "_law_pairs_here"] spPw := ok_law_pair_words B Es D_law_draw D_law_pair_words
  have OK_law_pairs : FnOk P w K mg base CX0 3 f_law_pairs fd_law_pairs ["_law_pen_here", "_law_units_here", "_law_most"] spPr := ok_law_pairs B Es D_law_draw D_law_pick D_law_pairs
  have OK_law_pen : FnOk P w K mg base CX0 1 f_law_pen fd_law_pen ["_law_script"] (spPen K) := ok_law_pen B  D_law_pen
  have OK_law_pick : FnOk P w K mg base CX0 2 f_law_pick fd_law_pick ["_law_pen_here", "_law_some"] (spPick K) := ok_law_pick B  D_law_draw D_law_pick
  have OK_law_units : FnOk P w K mg base CX0 6 f_law_units fd_law_units ["_law_pen_here", "_law_many", "_law_lines"] spUn := ok_law_units B Es D_law_draw D_law_pick D_law_name D_law_names D_law_base_units D_law_gcd D_law_q D_law_power D_law_times D_law_measure D_law_written D_law_other D_law_pair_words D_law_pairs D_law_plus D_law_big D_law_ratio D_law_size D_law_units
  have OK_law_units_text : FnOk P w K mg base CX0 3 f_law_units_text fd_law_units_text ["_law_pen_here", "_law_units_here"] spTx := ok_law_units_text B Es D_law_draw D_law_pick D_law_units_text
  refine Dlaw.F.ok sclaw (fun vs H Q E h => ?_) (fun cdv A outer s H vs Q E hr h => ?_)
  · obtain ⟨a, ns, rfl, _⟩ := h; rfl
  · have hu := hu_of hr
    refine ⟨_, (pss_cons (ps_set (i := 1) sclaw.nd rfl (Or.inr rfl) (pe_call OK_law_pen (hr.mono (by decide)) rfl D_law_pen.m D_law_pen.F.kp D_law_pen.b .nil pass0 (pa_cons (pv 0) pa_nil)))
    (pss_cons (ps_set (i := 2) sclaw.nd rfl (Or.inl rfl) (pe_call OK_law_units (hr.mono (by decide)) rfl D_law_units.m D_law_units.F.kp D_law_units.b .nil pass0 (pa_cons (pv 1) (pa_cons pe_int (pa_cons pe_int pa_nil)))))
    (pss_cons (ps_par (i := 3) (j := 4) (by rfl) sclaw.nd rfl rfl (by decide) rfl rfl (pa_cons (pe_call OK_law_units_text (hr.mono (by decide)) rfl D_law_units_text.m D_law_units_text.F.kp D_law_units_text.b .nil pass0 (pa_cons (pv 1) (pa_cons (pv 2) pa_nil))) (pa_cons (pe_callB call_len_seq (by rfl) B.len_ (by decide +kernel) (pa_cons (pe_dget hu (pv 2) pe_str (fun _ _ => rfl)) pa_nil)) pa_nil)) (by rfl))
    (pss_cons (ps_set (i := 5) sclaw.nd rfl (Or.inl rfl) (pe_make DU_init.M OKU_init (hr.mono (by decide)) rfl Es.mU DU_init.b .nil pass0 (pa_cons (pv 3) pa_nil)))
    (pss_cons (ps_if (pt_cmpR (op_neD hr.units) (pe_tup (pa_cons (pe_fld (pv 5) rfl) (pa_cons (pe_fld (pv 5) rfl) (pa_cons (pe_fld (pv 5) rfl) pa_nil)))) (pe_tup (pa_cons (pv 3) (pa_cons (pe_callTy call_tuple_of (by rfl) B.tuple_ (by decide +kernel) (pa_cons (pe_dget hu (pv 2) pe_str (fun _ _ => rfl)) pa_nil)) (pa_cons (pe_callTy call_tuple_of (by rfl) B.tuple_ (by decide +kernel) (pa_cons (pe_callTy (call_list_dK rfl) (by rfl) B.list_ (by decide +kernel) (pa_cons (pe_dget hu (pv 2) pe_str (fun _ _ => rfl)) pa_nil)) pa_nil)) pa_nil)))) (nomark _)) (pss_one (ps_ret pe_bl)) pss_nil)
    (pss_cons (ps_for PassesOwn.never rfl (pi_range1 rfl B.range_ (pa_cons pe_int pa_nil)) (pg_name (i := 6) sclaw.nd rfl (Or.inl rfl))
      (pss_cons (ps_set (i := 7) sclaw.nd rfl (Or.inl rfl) (pe_call OK_law_pairs (hr.mono (by decide)) rfl D_law_pairs.m D_law_pairs.F.kp D_law_pairs.b .nil pass0 (pa_cons (pv 1) (pa_cons (pv 2) (pa_cons pe_int pa_nil)))))
    (pss_cons (ps_par (i := 8) (j := 9) (by rfl) sclaw.nd rfl rfl (by decide) rfl rfl (pa_cons (pe_join pe_str (pe_call OK_law_pair_words (hr.mono (by decide)) rfl D_law_pair_words.m D_law_pair_words.F.kp D_law_pair_words.b .nil pass0 (pa_cons (pv 1) (pa_cons (pv 7) pa_nil)))) (pa_cons (pe_call OK_law_measure (hr.mono (by decide)) rfl D_law_measure.m D_law_measure.F.kp D_law_measure.b .nil pass0 (pa_cons (pv 2) (pa_cons (pv 7) pa_nil))) pa_nil)) (by rfl))
    (pss_one (ps_if (PW.pt (pw_or (pt_cmpR (op_neD hr.units) (pe_meth (pv 5) Es.cl DU_exp.M OKU_exp (hr.mono (by decide)) DU_exp.b .nil pass0 (pa_cons (pv 8) pa_nil)) (pe_ix ix_tup (pv 9) pe_int (fun _ _ => rfl)) (nomark _)) (pw_or1 (pt_cmpR (op_neD hr.units) (pe_meth (pv 5) Es.cl DU_size.M OKU_size (hr.mono (by decide)) DU_size.b .nil pass0 (pa_cons (pv 8) pa_nil)) (pe_ix ix_tup (pv 9) pe_int (fun _ _ => rfl)) (nomark _))))) (pss_one (ps_ret pe_bl)) pss_nil)))))
    (pss_cons (ps_lock (ps_for PassesOwn.never rfl (pi_keys (pe_dget hu (pv 2) pe_str (fun _ _ => rfl))) (pg_name (i := 10) sclaw.nd rfl (Or.inl rfl))
      (pss_cons (ps_asg (pe_dget hu (pe_dget hu (pv 2) pe_str (fun _ _ => rfl)) (pv 10) (fun _ _ => rfl)) (pg_tup rfl (pgs_cons (pg_name (i := 11) sclaw.nd rfl (Or.inl rfl)) (pgs_cons (pg_name (i := 12) sclaw.nd rfl (Or.inl rfl)) (pgs_cons (pg_name (i := 13) sclaw.nd rfl (Or.inl rfl)) (pgs_cons (pg_name (i := 14) sclaw.nd rfl (Or.inl rfl)) pgs_nil))))))
    (pss_one (ps_if (PW.pt (pw_and (pt_not (pt_val (pv 14))) (pw_and1 (pt_cmpR (op_neD hr.units) (pe_tup (pa_cons (pe_meth (pv 5) Es.cl DU_exp.M OKU_exp (hr.mono (by decide)) DU_exp.b .nil pass0 (pa_cons (pv 10) pa_nil)) (pa_cons (pe_meth (pv 5) Es.cl DU_size.M OKU_size (hr.mono (by decide)) DU_size.b .nil pass0 (pa_cons (pv 10) pa_nil)) pa_nil))) (pe_tup (pa_cons (pv 11) (pa_cons (pv 12) pa_nil))) (nomark _))))) (pss_one (ps_ret pe_bl)) pss_nil)))))
    (pss_cons (ps_for PassesOwn.never rfl (pi_range1 rfl B.range_ (pa_cons pe_int pa_nil)) (pg_name (i := 6) sclaw.nd rfl (Or.inl rfl))
      (pss_cons (ps_set (i := 15) sclaw.nd rfl (Or.inl rfl) (pe_callTy call_tuple_of (by rfl) B.tuple_ (by decide +kernel) (pa_cons (pe_lc (own := [("_law_k", 16)]) (g := gName 16) (tt := tYes) rfl sclaw.nd (pi_range1 rfl B.range_ (pa_cons (pv 4) pa_nil)) (blkOk_by (own := [("_law_k", 16)]) (N := ["_law_script", "_law_pen_here", "_law_units_here", "_law_text", "_law_many", "_law_made", "_law_lap", "_law_pairs_here", "_law_words", "_law_due", "_law_name_here", "_law_row", "_law_size_here", "_law_shift", "_law_is_scale", "_law_exponents", "_law_k"]) (sc := defScope stlaw) (by decide +kernel)) (fun _ _ _ _ _ => pg_name (i := 16) sclaw.nd rfl (Or.inl rfl)) (fun _ _ _ _ _ => pts_nil) (fun _ _ _ _ _ => (pe_call OK_law_pick (hr.mono (by decide)) rfl D_law_pick.m D_law_pick.F.kp D_law_pick.b .nil pass0 (pa_cons (pv 1) (pa_cons (pe_lst (pa_cons pe_int (pa_cons pe_int (pa_cons pe_int (pa_cons (pe_un un_neg pe_int) (pa_cons pe_int (pa_cons (pe_op op_sub (pe_call OK_law_draw (hr.mono (by decide)) rfl D_law_draw.m D_law_draw.F.kp D_law_draw.b .nil pass0 (pa_cons (pv 1) (pa_cons pe_int pa_nil))) pe_int) pa_nil))))))) pa_nil))))) pa_nil)))
    (pss_cons (ps_set (i := 8) sclaw.nd rfl (Or.inl rfl) (pe_meth (pv 5) Es.cl DU_wr.M OKU_wr (hr.mono (by decide)) DU_wr.b .nil pass0 (pa_cons (pv 15) pa_nil)))
    (pss_cons (ps_if (PW.pt (pw_or (pt_cmpR op_ne (pv 8) (pe_join pe_str (pe_call OK_law_base_words (hr.mono (by decide)) rfl D_law_base_words.m D_law_base_words.F.kp D_law_base_words.b .nil pass0 (pa_cons (pv 2) (pa_cons (pv 15) pa_nil)))) (nomark _)) (pw_or1 (pt_cmpR (op_neD hr.units) (pe_meth (pv 5) Es.cl DU_exp.M OKU_exp (hr.mono (by decide)) DU_exp.b .nil pass0 (pa_cons (pv 8) pa_nil)) (pv 15) (nomark _))))) (pss_one (ps_ret pe_bl)) pss_nil)
    (pss_one (ps_if (pt_cmpR (op_neD hr.units) (pe_meth (pv 5) Es.cl DU_size.M OKU_size (hr.mono (by decide)) DU_size.b .nil pass0 (pa_cons (pv 8) pa_nil)) (pe_tup (pa_cons pe_int (pa_cons pe_int pa_nil))) (nomark _)) (pss_one (ps_ret pe_bl)) pss_nil))))))
    (pss_one (ps_ret (pe_cmpR (op_eqD hr.units) (pe_tup (pa_cons (pe_meth (pv 5) Es.cl DU_exp.M OKU_exp (hr.mono (by decide)) DU_exp.b .nil pass0 (pa_cons pe_str pa_nil)) (pa_cons (pe_meth (pv 5) Es.cl DU_size.M OKU_size (hr.mono (by decide)) DU_size.b .nil pass0 (pa_cons pe_str pa_nil)) (pa_cons (pe_meth (pv 5) Es.cl DU_wr.M OKU_wr (hr.mono (by decide)) DU_wr.b .nil pass0 (pa_cons (pe_op op_repU (pe_tup (pa_cons pe_int pa_nil)) (pv 4)) pa_nil)) pa_nil)))) (pe_tup (pa_cons (pe_op op_repU (pe_tup (pa_cons pe_int pa_nil)) (pv 4)) (pa_cons (pe_tup (pa_cons pe_int (pa_cons pe_int pa_nil))) (pa_cons pe_str pa_nil)))) (nomark _)))))))))))), ?_⟩
    obtain ⟨a, ns, rfl, hS, hns, q⟩ := h
    refine ⟨_, rfl, a, ns, rfl, hS, fun p c H1 _ _ _ P1 s1 => ?_⟩
    refine ⟨_, rfl, p, c, 0, rfl, P1, by decide, fun u b d ln as H2 B es its U2 F li => ?_⟩
    have kok := F.kok li
    have uk := F.unk li
    have el := F.len
    have Ble := F.le
    have l7 : (allL B its).length ≤ 10 := by
      show (its.map Item.words).length + 1 ≤ 10
      rw [List.length_map]; omega
    refine ⟨_, rfl, _, rfl, p, c, u, b, d, ln, _, as, allL B its, rfl, U2.P, by omega, U2.lu, U2.hl, paired_imp (fun _ _ z => z.2) U2.pr, fun L hL => ⟨fun w hw => ((F.li L hL).2.2 w hw).2.1, (F.li L hL).2.1⟩, l7, fun e H3 P3 k3 => ?_⟩
    have U3 := U2.keep k3 P3
    rw [show (TL.joinL [10] ((allL B its).map (TL.joinL [32])) ++ (if e = true then [10] else [])) = txtU B its e from rfl]
    clear k3 P3 U2
    refine ⟨_, rfl, _, _, rfl, U3.lu.bas, b, _, rfl, .inl (SqL.of U3.hb), ?_⟩
    rw [List.length_map]
    refine ⟨_, _, rfl, ?_⟩
    refine ⟨_, rfl, fun x dx hx hdx hxd => ?_⟩
    have s4 : Same H3 (upd (upd H3 dx (.own x)) x (.ins CUnits dx [])) := made_same hx hdx
    refine ⟨x, dx, B, its, e, rfl, upd_same, F.ne, F.le, F.bn, F.bd, li, F.it, F.li, fun H5 k5 un => ⟨rfl, ?_⟩⟩
    have s5 : Same H3 H5 := fun b o h => k5 b o (fun z => by rw [z, hx] at h; cases h) (s4 b o h)
    have U5 := U3.same s5
    clear s4 k5 hx hdx hxd s5 U3
    have ua := un.at F.ms uk
    obtain ⟨dx, bb, na, dd, sc, e1, e2, e3, e4⟩ := un.ex
    have hT : PyData.strOk (S (txtU B its e)) = true := strOk_of (txt_low F.li)
    have hBo : OkS B := fun l hl => strOk_of (nm_low (F.bn l hl))
    have hNo : OkS (es.map (·.nm)) := fun l hl => by
      obtain ⟨e, he, rfl⟩ := List.mem_map.mp hl
      exact strOk_of (nm_low (F.nm e he))
    -- text, base, names
    refine ⟨_, rfl, x, _, dx, _, _, rfl, e1, Es.cl, Es.nT, rfl, _, rfl, x, _, dx, _, _, rfl, e1, Es.cl, Es.nB, rfl, _, rfl, x, _, dx, _, _, rfl, e1, Es.cl, Es.nN, rfl, (by show 3 ≤ sizeLine; decide), fun t1 ht1 => ?_⟩
    have n1 := AL.Same.new (o := .tup [.str (S (txtU B its e)), .ref bb, .ref na]) ht1
    have U6 := U5.same n1
    have ua6 := ua.same n1
    have g1 : upd H5 t1 (.tup [.str (S (txtU B its e)), .ref bb, .ref na]) t1 = some (.tup [.str (S (txtU B its e)), .ref bb, .ref na]) := upd_same
    have g2 := n1 _ _ e2
    have g3 := n1 _ _ e3
    generalize upd H5 t1 (.tup [.str (S (txtU B its e)), .ref bb, .ref na]) = H6 at U6 ua6 g1 g2 g3 ⊢
    clear n1 ht1 e1 e2 e3 e4 U5 ua un
    refine ⟨_, rfl, _, rfl, _, _, rfl, U6.lu.bas, b, _, rfl, .inl ⟨SqL.of U6.hb, fun l1 hl1 => ?_⟩⟩
    have n2 := AL.Same.new (o := .tup (B.map vS)) hl1
    have U7 := U6.same n2
    obtain ⟨kvs, hd, pr⟩ := id U7.kn
    refine ⟨_, rfl, _, _, rfl, U7.lu.known, d, kvs, rfl, hd, fun l2 hl2 => ?_⟩
    rw [kn_keys pr]
    have n3 := AL.Same.new (o := .lst ((es.map (·.nm)).map vS)) hl2
    refine ⟨l2, _, rfl, .inl ⟨SqL.of upd_same, fun l3 hl3 => ?_⟩⟩
    have n4 := AL.Same.new (o := .tup ((es.map (·.nm)).map vS)) hl3
    refine ⟨(by show 3 ≤ sizeLine; decide), fun t2 ht2 => ?_⟩
    have n5 := AL.Same.new (o := .tup [.str (S (txtU B its e)), .ref l1, .ref l3]) ht2
    have s65 := (n2.trans n3).trans (n4.trans n5)
    have q1 := n5 _ _ (n4 _ _ (n3 _ _ (upd_same (H := H6) (a := l1) (o := .tup (B.map vS)))))
    have q2 := n5 _ _ (upd_same (H := upd (upd H6 l1 (.tup (B.map vS))) l2 (.lst ((es.map (·.nm)).map vS))) (a := l3) (o := .tup ((es.map (·.nm)).map vS)))
    have U8 := U6.same s65
    have ua8 := ua6.same s65
    refine ⟨d3T (txtU B its e) B (es.map (·.nm)), d3T (txtU B its e) B (es.map (·.nm)), .tup (SqT.of (s65 _ _ g1)) (.cons (.str _) (.cons (dp_txtT (s65 _ _ g2)) (.cons (dp_txtT (by rw [s65 _ _ g3, F.nms])) .nil))), .tup (SqT.of upd_same) (.cons (.str _) (.cons (dp_txtT q1) (.cons (dp_txtT q2) .nil))), sh3T hT hBo hNo, sh3T hT hBo hNo, _, rfl, ?_⟩
    rw [eqv_sh (sh3T hT hBo hNo)]
    refine iteF ?_
    generalize upd (upd (upd (upd H6 l1 (.tup (B.map vS))) l2 (.lst ((es.map (·.nm)).map vS))) l3 (.tup ((es.map (·.nm)).map vS))) t2 (.tup [.str (S (txtU B its e)), .ref l1, .ref l3]) = H8 at U8 ua8 ⊢
    clear n2 n3 n4 n5 s65 q1 q2 g1 g2 g3 hl1 hl2 hl3 ht2 U7 hd pr U6 ua6
    -- five lots of pairs
    refine ⟨_, rfl, by decide, by decide, for_range (lo := 0) (n := 5) (fun i σ H' => ∃ v6 v7 v8 v9 v10 v11 v12 v13 v14 v15 v16 : Option V, σ = [some (.ref a), some (.ref p), some (.ref u), some (.str (S (txtU B its e))), some (.int (B.length : Int)), some (.ref x), v6, v7, v8, v9, v10, v11, v12, v13, v14, v15, v16] ∧ UnH H' p c u b d ln (30000 + 100 * i) B es as (allL B its) ∧ UnAt CUnits H' x B (msK es)) ⟨none, none, none, none, none, none, none, none, none, none, none, rfl, U8.keep (Keep.refl _ _) (U8.P.mono (by omega)), ua8⟩ ?_ ?_⟩
    · rintro i σ H9 hi ⟨v6, v7, v8, v9, v10, v11, v12, v13, v14, v15, v16, rfl, U9, ua9⟩
      refine ⟨_, rfl, _, rfl, p, c, u, b, d, ln, _, B.length, 4, es, rfl, U9.P, by omega, by decide, U9.lu, U9.kn, kok, by omega, U9.up, U9.dp, U9.ud, F.un, fun ap HA ps PA kA hpr pok pl => ?_⟩
      have UA := U9.keep kA PA
      have uaA := ua9.kp U9.P kA
      clear kA PA U9 ua9
      refine ⟨⟨_, rfl⟩, _, rfl, _, rfl, p, c, ap, _, ps, rfl, UA.P, by omega, hpr, by omega, fun q hq => ?_, fun wa HB us PB kB tw pe uok => ?_⟩
      · obtain ⟨e, he, en, _, lo, hi⟩ := pok q hq
        exact ⟨by rw [← en]; exact F.nm e he, lo, hi⟩
      subst pe
      have UB := UA.keep kB PB
      have uaB := uaA.kp UA.P kB
      replace hpr := hpr.kp (kB.p UA.P)
      clear kB PB UA uaA
      have ul : us.length ≤ 4 := by have z := pl; unfold pws at z; rwa [List.length_map] at z
      have wc := wtx_count us
      have wl : ∀ w ∈ wtx us, w.length ≤ 2100 := fun w hw => (wtx_word uok w hw).2.1
      refine ⟨_, wa, (wtx us).map S, rfl, rfl, .inl (SqL.of (by rw [tw, vS_S])), ?_, ?_⟩
      · have := sum_le2 wl
        have w2 := Nat.mul_le_mul_right 2100 wc
        rw [List.length_map, show (" " : Str).length = 1 by decide +kernel]
        omega
      rw [spaceS, join_S]
      refine ⟨_, rfl, _, rfl, u, b, d, ln, ap, B, es, pws us, rfl, UB.lu, UB.hb, F.ne, F.le, UB.kn, kok, hpr, pok, by unfold pws; rw [List.length_map]; exact ul, fun td rd sd HC sC htd hrd hsd => ?_⟩
      have UC := UB.same sC
      have uaC := uaB.same sC
      clear sC UB uaB hpr
      refine ⟨_, _, rfl, ?_⟩
      have kn : KnU (msK es) us := fun u hu => by
        refine ⟨uok u hu, ?_⟩
        obtain ⟨e, he, en, hs, _⟩ := pok (u.nm, u.k) (List.mem_map.mpr ⟨u, hu, rfl⟩)
        exact ⟨_, by rw [← (show e.nm = u.nm from en)]; exact meOf_msK kok.nd he hs⟩
      obtain ⟨dxC, fsC, dC, bC, c1, c2, c3, c4, c5, c6, c7, c8⟩ := uaC.ex
      refine ⟨_, rfl, x, dxC, fsC, rfl, c1, c4, _, rfl, x, B, us, msK es, rfl, uaC, by omega, kn, fun te HD sD hte => ?_⟩
      refine ⟨_, rfl, td, _, _, _, rfl, rfl, SqT.of (sD _ _ htd), rfl, ?_⟩
      refine ⟨_, _, dp_ints hte, dp_ints (sD _ _ hrd), shaped_ints _, shaped_ints _, _, rfl, ?_⟩
      rw [eqv_sh (shaped_ints _)]
      refine iteF ?_
      have spw := szOf_pw kok pok
      have um : ∀ u ∈ us, (u.nm, u.k) ∈ pws us := fun u hu => List.mem_map.mpr ⟨u, hu, rfl⟩
      have wt9 : wt (pws us) ≤ 12 := Nat.le_trans (wt_pw pok) (by unfold pws; rw [List.length_map]; omega)
      refine ⟨_, rfl, x, dxC, fsC, rfl, sD _ _ c1, c5, _, rfl, x, B, us, msK es, 300, rfl, uaC.same sD, by omega, kn, fun u hu => (spw _ (um u hu)).2, by omega, by decide, fun ts HE sE hts => ?_⟩
      refine ⟨_, rfl, td, _, _, _, rfl, rfl, SqT.of (sE _ _ (sD _ _ htd)), rfl, ?_⟩
      refine ⟨_, _, dpR hts, dpR (sE _ _ (sD _ _ hsd)), shR _, shR _, _, rfl, ?_⟩
      rw [eqv_sh (shR _)]
      refine iteF ?_
      have sCE := sD.trans sE
      exact ⟨_, _, _, _, _, _, _, _, _, _, _, rfl, (UC.same sCE).keep (Keep.refl _ _) ((UC.same sCE).P.mono (by omega)), uaC.same sCE⟩
    rintro σ9 H9 ⟨v6, v7, v8, v9, v10, v11, v12, v13, v14, v15, v16, rfl, U9, ua9⟩
    clear U8 ua8
    -- each name
    have ene : es ≠ [] := fun z => by obtain ⟨e, he, _⟩ := F.un; rw [z] at he; cases he
    obtain ⟨kvs, hd, pr⟩ := id U9.kn
    have lk := pair_len pr
    refine ⟨d, _, hd, trivial, fun od => ?_⟩
    have uaF : UnAt CUnits (upd H9 d (.frz od (.dK kvs))) x B (msK es) := ua9.frz U9.kn ene hd
    have prF : Paired (KnR (upd H9 d (.frz od (.dK kvs)))) kvs es := paired_imp (fun _ _ z => ⟨z.1, z.2.tu (frz_tu hd)⟩) pr
    have fz : upd H9 d (.frz od (.dK kvs)) d = some (.frz od (.dK kvs)) := upd_same
    have uF : LUn (upd H9 d (.frz od (.dK kvs))) u b d ln := Eq.trans (upd_ne U9.ud) U9.lu
    have hof : ∀ b o, b ≠ d → H9 b = some o → upd H9 d (.frz od (.dK kvs)) b = some o := fun b o ne w => by rw [upd_ne ne]; exact w
    generalize upd H9 d (.frz od (.dK kvs)) = HF at prF fz uF hof uaF ⊢
    refine ⟨_, rfl, _, _, rfl, uF.known, d, od, rfl, .inl ⟨_, fz, for_it (walk_keys (d := d) (o := od) (kvs := kvs)) (fun i σ H' => ∃ v6 v7 v8 v9 v10 v11 v12 v13 v14 v15 v16 : Option V, σ = [some (.ref a), some (.ref p), some (.ref u), some (.str (S (txtU B its e))), some (.int (B.length : Int)), some (.ref x), v6, v7, v8, v9, v10, v11, v12, v13, v14, v15, v16] ∧ Same HF H') ⟨v6, v7, v8, v9, v10, v11, v12, v13, v14, v15, v16, rfl, Same.refl _⟩ (fun i σ H' _ hh => ?_) ?_ ?_⟩⟩
    · obtain ⟨_, _, _, _, _, _, _, _, _, _, _, _, s⟩ := hh
      exact s _ _ fz
    · rintro i y σ H4 H4' hi ⟨v6, v7, v8, v9, v10, v11, v12, v13, v14, v15, v16, rfl, s4⟩ ⟨rfl, kk, v, hkv, rfl⟩
      obtain ⟨en, he, hkn, hv⟩ := prd_ix prF hkv
      dsimp only at hkn hv
      subst hkn
      have hem := List.mem_of_getElem? he
      have ke : knOf es en.nm = some en := knOf_at kok.nd hem
      have pr4 : Paired (KnR H4') kvs es := paired_imp (fun _ _ z => ⟨z.1, z.2.tu (fun b ys w => s4 _ _ w)⟩) prF
      obtain ⟨v2, hg, t, r, z, f, rfl, h1, h2, h3, _⟩ := kn_get (.inr ⟨od, s4 _ _ fz⟩) pr4 ke
      refine ⟨_, rfl, _, _, rfl, LUn.known (s4 _ _ uF), _, rfl, _, _, rfl, hg, t, _, rfl, SqT.of h1, rfl, _, _, rfl, _, _, rfl, _, _, rfl, _, _, rfl, rfl, ?_⟩
      refine ⟨_, rfl, _, rfl, ?_⟩
      cases hs : en.sc with
      | true =>
        refine iteF ?_
        refine iteF ?_
        exact ⟨_, _, _, _, _, _, _, _, _, _, _, rfl, s4⟩
      | false =>
        refine iteT ?_
        have mo := meOf_msK kok.nd hem hs
        have okn := F.nm en hem
        have ua4 := uaF.same s4
        obtain ⟨dxC, fsC, dC, bC, c1, c2, c3, c4, c5, c6, c7, c8⟩ := ua4.ex
        have kn1 : KnU (msK es) [⟨en.nm, 1, false⟩] := fun u hu => by
          rw [List.mem_singleton.mp hu]
          exact ⟨⟨okn, (by show (-99 : Int) ≤ 1; decide), (by show (1 : Int) ≤ 99; decide), fun _ => rfl⟩, _, mo⟩
        have one : (V.str (S en.nm)) = V.str (S (TL.joinL [32] (wtx [⟨en.nm, 1, false⟩]))) := by rw [one_word okn]
        refine ⟨_, rfl, x, dxC, fsC, rfl, c1, c4, _, rfl, x, B, [⟨en.nm, 1, false⟩], msK es, ?_, ua4, (by show 1 ≤ 1000; decide), kn1, fun te HD sD hte => ?_⟩
        · rw [← one]; rfl
        refine ⟨_, rfl, x, dxC, fsC, rfl, sD _ _ c1, c5, _, rfl, x, B, [⟨en.nm, 1, false⟩], msK es, 300, ?_, ua4.same sD, (by show 1 ≤ 1000; decide), kn1, fun u hu => ?_, (by show 301 * 1 ≤ 5900; decide), by decide, fun ts HE sE hts => ?_⟩
        · rw [← one]; rfl
        · rw [List.mem_singleton.mp hu]
          show Lim _ (szOf (msK es) en.nm)
          rw [szOf_of mo]; exact (kok.bd en hem hs).2.2
        rw [show pws [⟨en.nm, 1, false⟩] = [(en.nm, (1 : Int))] from rfl, exV_one mo (kok.row en hem)] at hte
        rw [show pws [⟨en.nm, 1, false⟩] = [(en.nm, (1 : Int))] from rfl, szV_one1 mo] at hts
        have sDE := sD.trans sE
        refine ⟨(by show 2 ≤ sizeLine; decide), fun w1 hw1 => ?_⟩
        have n1 := AL.Same.new (o := .tup [.ref te, .ref ts]) hw1
        refine ⟨_, rfl, _, rfl, (by show 2 ≤ sizeLine; decide), fun w2 hw2 => ?_⟩
        have n2 := AL.Same.new (o := .tup [.ref r, .ref z]) hw2
        have sE2 := n1.trans n2
        refine ⟨d2I en.row en.sz, d2I en.row en.sz, .tup (SqT.of (n2 _ _ upd_same)) (.cons (dp_ints (sE2 _ _ (sE _ _ hte))) (.cons (dpR (sE2 _ _ hts)) .nil)), .tup (SqT.of upd_same) (.cons (dp_ints (sE2 _ _ (sDE _ _ h2))) (.cons (dpR (sE2 _ _ (sDE _ _ h3))) .nil)), sh2I _ _, sh2I _ _, _, rfl, ?_⟩
        rw [eqv_sh (sh2I _ _)]
        refine iteF ?_
        exact ⟨_, _, _, _, _, _, _, _, _, _, _, rfl, s4.trans (sDE.trans sE2)⟩
    rintro σ4 H4 ⟨v6, v7, v8, v9, v10, v11, v12, v13, v14, v15, v16, rfl, s4⟩
    refine ⟨s4 _ _ fz, ?_⟩
    have s10 : Same H9 (upd H4 d (.dK kvs)) := fun b o w => by
      by_cases z : b = d
      · subst z; rw [hd] at w; rw [upd_same, w]
      · rw [upd_ne z]; exact s4 _ _ (hof _ _ z w)
    have U10 := U9.same s10
    have ua10 := ua9.same s10
    generalize upd H4 d (.dK kvs) = H10 at U10 ua10 ⊢
    clear s10 s4 hof uF fz prF uaF pr hd U9 ua9
    -- powers of base units
    refine ⟨_, rfl, by decide, by decide, for_range (lo := 0) (n := 3) (fun i σ H' => ∃ v6 v7 v8 v9 v10 v11 v12 v13 v14 v15 v16 : Option V, σ = [some (.ref a), some (.ref p), some (.ref u), some (.str (S (txtU B its e))), some (.int (B.length : Int)), some (.ref x), v6, v7, v8, v9, v10, v11, v12, v13, v14, v15, v16] ∧ UnH H' p c u b d ln (40000 + 100 * i) B es as (allL B its) ∧ UnAt CUnits H' x B (msK es)) ⟨v6, v7, v8, v9, v10, v11, v12, v13, v14, v15, v16, rfl, U10.keep (Keep.refl _ _) (U10.P.mono (by omega)), ua10⟩ ?_ ?_⟩
    · rintro i σ HA hi ⟨v6, v7, v8, v9, v10, v11, v12, v13, v14, v15, v16, rfl, UA, uaA⟩
      refine ⟨_, rfl, _, rfl, by omega, by omega, fun D hD => ?_⟩
      have Dp : D ≠ p := fun z => by obtain ⟨kk, hk⟩ := UA.P.dict; rw [← z, hD] at hk; cases hk
      have Dc : D ≠ c := fun z => by obtain ⟨ns, _, _, _, _, _, hc, _⟩ := UA.P.ex; rw [← z, hD] at hc; cases hc
      have nD := AL.Same.new (o := .lst []) hD
      refine lc_it (walk_range (lo := 0) (n := ((B.length : Int)).toNat)) (fun j H' => ∃ xs : List Int, H' D = some (.lst (xs.map V.int)) ∧ xs.length = j ∧ (∀ k ∈ xs, -99 ≤ k ∧ k ≤ 99) ∧ Pen H' p c (40000 + 100 * i + 2 * j) ∧ Keep p HA H') ⟨[], upd_same, rfl, (fun _ h => nomatch h), UA.P.same nD, Same.k nD⟩ (fun _ _ _ _ => trivial) ?_ ?_
      · rintro j y H4 H4' hj ⟨xs, hD4, lx, bx, P4, k4⟩ ⟨rfl, rfl⟩
        refine ⟨rfl, ?_⟩
        refine ⟨_, rfl, _, rfl, _, rfl, p, c, _, 199, rfl, P4, by omega, by decide, by decide, fun r H5 r0 r1 P5 k5 => ?_⟩
        refine ⟨_, _, rfl, rfl, (by show 6 ≤ sizeLine; decide), fun l hl => ?_⟩
        have n6 := AL.Same.new (o := .lst [.int 0, .int 0, .int 1, .int (-1), .int 2, .int (r - 99)]) hl
        refine ⟨p, c, l, _, _, rfl, P5.same n6, by omega, SqL.of upd_same, (by show 0 < 6; decide), (by show 6 < 1000000000; decide), fun j2 x2 H7 hx2 P7 k7 => ?_⟩
        obtain ⟨k, rfl, lo, hi2⟩ : ∃ k : Int, x2 = V.int k ∧ -99 ≤ k ∧ k ≤ 99 := by
          refine pick_of (P := fun x => ∃ k : Int, x = V.int k ∧ -99 ≤ k ∧ k ≤ 99) (fun y hy => ?_) hx2
          simp only [List.mem_cons, List.not_mem_nil, or_false] at hy
          rcases hy with rfl | rfl | rfl | rfl | rfl | rfl
          · exact ⟨0, rfl, by decide, by decide⟩
          · exact ⟨0, rfl, by decide, by decide⟩
          · exact ⟨1, rfl, by decide, by decide⟩
          · exact ⟨-1, rfl, by decide, by decide⟩
          · exact ⟨2, rfl, by decide, by decide⟩
          · exact ⟨r - 99, rfl, by omega, by omega⟩
        have kk : Keep p H4' H7 := (k5.trans (Same.k n6)).trans k7
        refine ⟨_, kk.at P4 hD4 (fun _ z => by cases z), ?_, xs ++ [k], by rw [upd_same, List.map_append]; rfl, by rw [List.length_append, lx]; rfl, ?_, ?_, ?_⟩
        · rw [List.length_map]; exact Nat.lt_of_le_of_lt (by omega : _ ≤ 100) (by decide)
        · intro z hz
          rcases mem_snoc hz with w | rfl
          · exact bx z w
          · exact ⟨lo, hi2⟩
        · exact (P7.keep (fun o h => by rw [upd_ne (Ne.symm Dp)]; exact h) fun o h => by rw [upd_ne (Ne.symm Dc)]; exact h).mono (by omega)
        · intro b o nb h
          have h4 := k4 b o nb h
          rw [upd_ne (fun z => by rw [z, hD] at h; cases h)]
          exact kk b o nb h4
      rintro H4 ⟨xs, hD4, lx, bx, P4, k4⟩
      have U4 := UA.keep k4 P4
      have ua4 := uaA.kp UA.P k4
      have lx' : xs.length = B.length := by omega
      clear k4 P4 UA uaA nD hD Dp Dc lx
      refine ⟨D, _, rfl, .inl ⟨SqL.of hD4, fun ex hex => ?_⟩⟩
      have nE := AL.Same.new (o := .tup (xs.map V.int)) hex
      have UE := U4.same nE
      have uaE := ua4.same nE
      have hxE : upd H4 ex (.tup (xs.map V.int)) ex = some (.tup (xs.map V.int)) := upd_same
      generalize upd H4 ex (.tup (xs.map V.int)) = HE at UE uaE hxE ⊢
      clear nE hex U4 ua4 hD4
      obtain ⟨dxC, fsC, dC, bC, c1, c2, c3, c4, c5, c6, c7, c8⟩ := uaE.ex
      have knx : KnU (msK es) (bUs B xs) := uk.kn bx
      have bl := bUs_len B xs
      refine ⟨_, rfl, x, dxC, fsC, rfl, c1, c6, _, rfl, x, ex, B, msK es, xs, rfl, uaE, hxE, lx', bx, F.bn, fun HF sF => ?_⟩
      have UF := UE.same sF
      refine ⟨_, rfl, ⟨_, rfl⟩, _, rfl, _, rfl, u, b, d, ln, ex, B, xs, rfl, UF.lu, UF.hb, sF _ _ hxE, lx', F.le, bx, F.bn, fun w HG sG tw => ?_⟩
      have wl : ∀ y ∈ wtx (bUs B xs), y.length ≤ 2100 := fun y hy => (wtx_word (fun u hu => (knx u hu).1) y hy).2.1
      have wc := wtx_count (bUs B xs)
      refine ⟨_, w, (wtx (bUs B xs)).map S, rfl, rfl, .inl (SqL.of (by rw [tw, vS_S])), ?_, ?_⟩
      · have := sum_le2 wl
        have w2 := Nat.mul_le_mul_right 2100 wc
        rw [List.length_map, show (" " : Str).length = 1 by decide +kernel]
        omega
      rw [spaceS, join_S]
      refine ⟨rfl, _, rfl, ?_⟩
      rw [str_eq]
      refine iteF ?_
      have sEG := sF.trans sG
      refine ⟨_, rfl, x, dxC, fsC, rfl, sEG _ _ c1, c4, _, rfl, x, B, bUs B xs, msK es, rfl, uaE.same sEG, by omega, knx, fun te HH sH hte => ?_⟩
      rw [uk.ex lx'] at hte
      refine ⟨_, rfl, _, _, dp_ints hte, dp_ints (sH _ _ (sEG _ _ hxE)), shaped_ints _, shaped_ints _, _, rfl, ?_⟩
      rw [eqv_sh (shaped_ints _)]
      refine iteF ?_
      have sEH := sEG.trans sH
      have wt6 := uk.wt bx
      refine ⟨_, rfl, x, dxC, fsC, rfl, sEH _ _ c1, c5, _, rfl, x, B, bUs B xs, msK es, 0, rfl, uaE.same sEH, by omega, knx, fun u hu => by rw [uk.one u hu]; exact ⟨by decide, by decide⟩, by omega, by decide, fun ts HI sI hts => ?_⟩
      rw [uk.sz] at hts
      refine ⟨(by show 2 ≤ sizeLine; decide), fun o1 ho1 => ?_⟩
      have nJ := AL.Same.new (o := .tup [.int 1, .int 1]) ho1
      refine ⟨.tuple [.int 1, .int 1], .tuple [.int 1, .int 1], dpR (y := 1) (nJ _ _ hts), dp_ints (es := [1, 1]) upd_same, shaped_ints [1, 1], shaped_ints [1, 1], _, rfl, ?_⟩
      rw [show PyData.eqv (.tuple [.int 1, .int 1]) (.tuple [.int 1, .int 1]) = true from eqv_sh (shaped_ints [1, 1])]
      refine iteF ?_
      have sEJ := (sEH.trans sI).trans nJ
      exact ⟨_, _, _, _, _, _, _, _, _, _, _, rfl, (UE.same sEJ).keep (Keep.refl _ _) ((UE.same sEJ).P.mono (by omega)), uaE.same sEJ⟩
    rintro σA HA ⟨v6, v7, v8, v9, v10, v11, v12, v13, v14, v15, v16, rfl, UA, uaA⟩
    clear U10 ua10
    -- 1 alone
    have B0 : 1 ≤ B.length := List.length_pos_iff.mpr F.ne
    obtain ⟨dxC, fsC, dC, bC, c1, c2, c3, c4, c5, c6, c7, c8⟩ := uaA.ex
    have w1 : (S (TL.joinL [32] (wtx [])) : Str) = "1" := by rw [oneS]; rfl
    have kn0 : KnU (msK es) [] := fun _ h => nomatch h
    refine ⟨_, rfl, x, dxC, fsC, rfl, c1, c4, x, B, [], msK es, ?_, uaA, by decide, kn0, fun te HD sD hte => ?_⟩
    · rw [w1]; rfl
    refine ⟨_, rfl, x, dxC, fsC, rfl, sD _ _ c1, c5, x, B, [], msK es, 0, ?_, uaA.same sD, by decide, kn0, (fun _ h => nomatch h), by decide, by decide, fun ts HE sE hts => ?_⟩
    · rw [w1]; rfl
    have sDE := sD.trans sE
    refine ⟨_, rfl, x, dxC, fsC, rfl, sDE _ _ c1, c6, (by show 1 ≤ sizeLine; decide), fun z0 hz0 => ?_⟩
    have n1 := AL.Same.new (o := .tup [.int 0]) hz0
    refine ⟨_, rfl, ?_⟩
    refine repU_one upd_same B0 (by omega) fun rr HF sF hrr => ?_
    have sEF := n1.trans sF
    rw [← List.map_replicate] at hrr
    refine ⟨x, rr, B, msK es, List.replicate B.length 0, rfl, (uaA.same sDE).same sEF, hrr, List.length_replicate, fun k hk => by rw [(List.mem_replicate.mp hk).2]; exact ⟨by decide, by decide⟩, F.bn, fun HG sG => ?_⟩
    rw [bUs_zero]
    refine ⟨(by show 3 ≤ sizeLine; decide), fun t1 ht1 => ?_⟩
    have n2 := AL.Same.new (o := .tup [.ref te, .ref ts, .str (S (TL.joinL [32] (wtx [])))]) ht1
    refine ⟨(by show 1 ≤ sizeLine; decide), fun z1 hz1 => ?_⟩
    have n3 := AL.Same.new (o := .tup [.int 0]) hz1
    refine ⟨_, rfl, ?_⟩
    refine repU_one upd_same B0 (by omega) fun r2 HH sH hr2 => ?_
    refine ⟨(by show 2 ≤ sizeLine; decide), fun o1 ho1 => ?_⟩
    have n4 := AL.Same.new (o := .tup [.int 1, .int 1]) ho1
    refine ⟨(by show 3 ≤ sizeLine; decide), fun t2 ht2 => ?_⟩
    have n5 := AL.Same.new (o := .tup [.ref r2, .ref o1, .str "1"]) ht2
    rw [← List.map_replicate] at hr2
    have sT := (n3.trans sH).trans (n4.trans n5)
    have s2T := n2.trans sT
    have sET := (sEF.trans sG).trans s2T
    rw [show pws [] = ([] : Pw) from rfl, exV_nil] at hte
    refine ⟨d3I (List.replicate B.length 0), d3I (List.replicate B.length 0), .tup (SqT.of (sT _ _ upd_same)) (.cons (dp_ints (sET _ _ (sE _ _ hte))) (.cons (dpR (y := 1) (sET _ _ hts)) (.cons ?_ .nil))), .tup (SqT.of upd_same) (.cons (dp_ints (n5 _ _ (n4 _ _ hr2))) (.cons (dp_ints (es := [1, 1]) (n5 _ _ upd_same)) (.cons ?_ .nil))), sh3I _, sh3I _, ?_⟩
    · rw [w1, ← oneS]; exact .str _
    · rw [← oneS]; exact .str _
    rw [eqv_sh (sh3I _)]
    exact q _
end
end AL
set_option Elab.async false
set_option maxRecDepth 100000
set_option maxHeartbeats 2000000
/-! The end of a law that makes lambdas, and whose defs ask repr. -/
namespace AL
open PySem PySem.Spec PyProof.Rows L2 LamX
/-- the heap at the entry: the script, locked, and the empty tables of the defs that make lambdas -/
def tabH (K : PySem.W.Frag) (a : Addr) (us : List Value) (ns : List Int) (Ts : List Addr) : Hp := fun b => if b ∈ Ts then some (.tbl #[]) else scrH K a us ns b
theorem tabH_in {K : PySem.W.Frag} {a b : Addr} {us : List Value} {ns : List Int} {Ts : List Addr} (h : b ∈ Ts) : tabH K a us ns Ts b = some (.tbl #[]) := if_pos h
theorem tabH_out {K : PySem.W.Frag} {a b : Addr} {us : List Value} {ns : List Int} {Ts : List Addr} (h : b ∉ Ts) : tabH K a us ns Ts b = scrH K a us ns b := if_neg h
theorem lawGT {P : Program} {w : World} {K : PySem.W.Frag} {mg mb : Str → Option Value} {CX : CXT} {k : Nat} {fa a : Addr} {cs : List (Addr × Addr)} {fd : FuncData} {x : Str} {sp : Sp} {t : Shared} {us : List Value} {ns : List Int}
    (kin : K.In t.heap) (glb : t.heap.Ns mainGlobals mg) (blt : t.heap.Ns builtinsNs mb) (boot : ∀ y : Str, y ≠ "__name__" → mb y = bootBuiltins y) (free : t.heap.NoLimit) (noG : t.gens = #[])
    (tb : ∀ p ∈ cs, t.heap.get? p.2 = some (PySem.W.tabObj #[])) (nk : ∀ p ∈ cs, K.lookup p.2 = none) (ch : ∀ p ∈ cs, PySem.W.CodeHd t.heap p.1 p.2)
    (bmn : ∃ (bm : Addr) (ob : Obj), mg "__builtins__" = some (.ref bm) ∧ bm ≠ builtinsNs ∧ t.heap.get? bm = some ob ∧ ob.cls = .type "module" ∧ ob.dict = some builtinsNs ∧ ob.data = .plain)
    (at_a : t.heap.get? a = some (scrO us)) (isI : IntsAre us ns) (short : ns.length ≤ sizeLine) (room : Room k callerA)
    (F : ∀ base : Heap, K.In base → base.Ns mainGlobals mg → (∀ p ∈ cs, TabB base mg p.1 p.2) → FnG P w K mg base CX k fa fd [x] sp) (bind : ∀ (s : Shared) (u : Value), BindsTo s fd ⟨[u], []⟩ [(x, u)])
    (wish : ∀ H : Hp, (∀ p ∈ cs, H p.2 = some (.tbl #[])) → SqL K H a (ns.map V.int) → sp [.ref a] H (fun v _ => v = .bl true) fun _ _ _ => False)
    (noX : ∀ H e s', CX [] H t (fun _ _ _ => False) e s' → False) :
    codeAny (model P w) callerA (.call (.ref fa) ⟨[.ref a], []⟩) (fun r s' => r = .ok (.ret (.bool true)) ∧ OldK t.heap s'.heap ∧ s'.os = t.os ∧ AllBare s'.gens) t := by
  have vals := vals_ints isI
  have many := isI.length
  have tabs : ∀ b : Addr, b ∈ cs.map Prod.snd → t.heap.get? b = some (PySem.W.tabObj #[]) ∧ K.lookup b = none := fun b hb => by
    obtain ⟨p, hp, rfl⟩ := List.mem_map.mp hb
    exact ⟨tb p hp, nk p hp⟩
  have here : ∀ p ∈ cs, p.2 ∈ cs.map Prod.snd := fun p hp => List.mem_map.mpr ⟨p, hp, rfl⟩
  have aOut : a ∉ cs.map Prod.snd := fun z => by
    have e := (tabs a z).1
    rw [at_a] at e
    have e2 := congrArg Obj.cls (Option.some.inj e)
    cases e2
  have isA : ∀ {b : Addr}, b = a → b ∉ cs.map Prod.snd := fun e => by rw [e]; exact aOut
  have inT : ∀ p ∈ cs, tabH K a us ns (cs.map Prod.snd) p.2 = some (.tbl #[]) := fun p hp => tabH_in (here p hp)
  have seq : SqL K (tabH K a us ns (cs.map Prod.snd)) a (ns.map V.int) := by
    cases e : K.lookup a with
    | none => exact .inl (.inr ⟨scrO us, (tabH_out aOut).trans (if_pos ⟨rfl, e⟩)⟩)
    | some o =>
      have z := kin a o e
      rw [at_a] at z
      cases z
      exact .inr ⟨_, us.toArray, _, e, rfl, rfl, rfl, by rw [List.size_toArray, many]; exact short, vals⟩
  have held : HOk P w (tabH K a us ns (cs.map Prod.snd)) t.heap := fun b u e => by
    by_cases m : b ∈ cs.map Prod.snd
    · rw [tabH_in m] at e
      cases e
      exact (tabs b m).1
    · rw [tabH_out m] at e
      obtain ⟨rfl, _, rfl⟩ := scrH_some e
      exact ⟨at_a, by rw [List.length_map]; exact short, us, _, vals, at_a⟩
  -- what is neither the script nor a table is not tracked
  have bare0 : ∀ {b : Addr} {o : Obj}, t.heap.get? b = some o → (∀ vs n, o.data ≠ .seq vs n) → o.data ≠ .fields #[] → tabH K a us ns (cs.map Prod.snd) b = none := by
    intro b o e1 e2 e3
    by_cases m : b ∈ cs.map Prod.snd
    · rw [(tabs b m).1] at e1
      cases e1
      exact (e3 rfl).elim
    · rw [tabH_out m]
      cases e : scrH K a us ns b with
      | none => rfl
      | some u =>
        obtain ⟨rfl, _, _⟩ := scrH_some e
        rw [at_a] at e1
        cases e1
        exact (e2 _ _ rfl).elim
  have dict0 : ∀ {b : Addr} {o : Obj} {es : Array DictEntry} {n : Nat}, t.heap.get? b = some o → o.data = .dict es n → tabH K a us ns (cs.map Prod.snd) b = none := fun {b o es n} e1 e2 =>
    bare0 e1 (fun vs m z => by rw [e2] at z; cases z) fun z => by rw [e2] at z; cases z
  have ns_of : ∀ {b : Addr} {m : Str → Option Value}, t.heap.Ns b m → (hidT t.heap (tabH K a us ns (cs.map Prod.snd))).Ns b m := by
    rintro b m ⟨o, es, n, e1, e2, r⟩
    exact ⟨o, es, n, hidT_get e1 (dict0 e1 e2), e2, r⟩
  have kin' : K.In (hidT t.heap (tabH K a us ns (cs.map Prod.snd))) := fun b o e => hidT_get (kin b o e) (by
    by_cases m : b ∈ cs.map Prod.snd
    · rw [(tabs b m).2] at e; cases e
    · rw [tabH_out m]
      cases z : scrH K a us ns b with
      | none => rfl
      | some u =>
        obtain ⟨rfl, n, _⟩ := scrH_some z
        rw [n] at e
        cases e)
  have modl : Mod K mg (hidT t.heap (tabH K a us ns (cs.map Prod.snd))) := by
    obtain ⟨mc, f1, f2⟩ := free
    exact ⟨kin', ns_of glb, ⟨mb, ns_of blt, boot⟩, ⟨mc, ns_of f1, f2⟩⟩
  have apart : ∀ p ∈ cs, ∀ {b : Addr} {o : Obj}, t.heap.get? b = some o → o.cls ≠ .none → b ≠ p.2 := fun p hp b o e c z => by
    rw [z, tb p hp] at e
    cases e
    exact c rfl
  have tabB : ∀ p ∈ cs, TabB (hidT t.heap (tabH K a us ns (cs.map Prod.snd))) mg p.1 p.2 := fun p hp => by
    refine ⟨?_, ?_, ?_⟩
    · obtain ⟨o, vs, file, tf, flags, tg, inF, text, tt, g1, g2, g3, g4, g5⟩ := ch p hp
      refine ⟨o, vs, file, tf, flags, tg, inF, text, tt, hidT_get g1 (bare0 g1 (fun w n z => by rw [g3] at z; cases z) fun z => ?_), g2, g3, g4, g5⟩
      rw [g3] at z
      injection z with z
      rw [z] at g4
      simp at g4
    · obtain ⟨bm, ob, m1, m2, m3, m4, m5, m6⟩ := bmn
      refine ⟨bm, ob, m1, m2, fun z => ?_, apart p hp m3 (by rw [m4]; intro z; cases z), hidT_get m3 (bare0 m3 (fun w n z => by rw [m6] at z; cases z) fun z => by rw [m6] at z; cases z), m4, m5, m6⟩
      obtain ⟨o, es, n, e1, e2, _⟩ := glb
      rw [z, e1] at m3
      cases m3
      rw [e2] at m6
      cases m6
    · obtain ⟨o, es, n, e1, e2, _⟩ := glb
      intro z
      rw [z, tb p hp] at e1
      cases e1
      cases e2
  have env0 : Env0 P w K mg (hidT t.heap (tabH K a us ns (cs.map Prod.snd))) callerA [] t (tabH K a us ns (cs.map Prod.snd)) :=
    ⟨rfl, modl, fun b o z => of_hidT z, Nat.le_of_eq (hidT_size _ _), trivial, fun b z => absurd (show b ∈ ([] : List Addr) from z) (by simp), held, .of_eq noG⟩
  refine codeAny_mono ((F _ kin' (ns_of glb) tabB).run callerA [] t _ ⟨[.ref a], []⟩ [.ref a] [.ref a] _ _ rfl room env0 (bind t (.ref a)) (.cons rfl .nil) (wish _ inT seq)) fun r s' z => ?_
  cases r with
  | error e => exact (noX _ e s' z).elim
  | ok fl =>
    cases fl with
    | next => exact z.elim
    | brk => exact z.elim
    | cont => exact z.elim
    | ret u =>
      obtain ⟨v, H', os, bare, un, held', rv, q⟩ := z
      cases (show v = .bl true from q)
      cases (show u = Value.bool true from rv)
      have kept : ∀ b o, b ∉ cs.map Prod.snd → t.heap.get? b = some o → s'.heap.get? b = some o := fun b o nb e => by
        cases c : scrH K a us ns b with
        | none => exact un.keep b o e ((tabH_out nb).trans c) (fun z => absurd (show b ∈ ([] : List Addr) from z) (by simp)) (by simp)
        | some u2 =>
          obtain ⟨rfl, _, rfl⟩ := scrH_some c
          obtain ⟨e2, _⟩ := held' _ _ (un.frzs _ _ _ ((tabH_out nb).trans c))
          rw [at_a] at e
          cases e
          exact e2
      have more : ∀ p ∈ cs, ∃ ps : Array Value, s'.heap.get? p.2 = some (PySem.W.tabObj (#[] ++ ps)) := fun p hp => by
        obtain ⟨ps, z⟩ := un.tbls p.2 #[] (inT p hp)
        exact ⟨ps, held' p.2 _ z⟩
      refine ⟨rfl, ⟨fun b o e => ?_, fun b o e => ?_⟩, os, bare⟩
      · by_cases m : b ∈ cs.map Prod.snd
        · obtain ⟨p, hp, rfl⟩ := List.mem_map.mp m
          obtain ⟨ps, hps⟩ := more p hp
          rw [tb p hp] at e
          cases e
          exact .inr (.inl ⟨((ch p hp).tab (tb p hp)).isCodeTable, rfl, #[], ps, rfl, hps⟩)
        · exact .inl (kept b o m e)
      · by_cases m : b ∈ cs.map Prod.snd
        · obtain ⟨p, hp, rfl⟩ := List.mem_map.mp m
          obtain ⟨ps, hps⟩ := more p hp
          exact ⟨_, hps⟩
        · exact ⟨o, kept b o m e⟩
/-- a law's promise, its code objects and tables told by numbers -/
theorem walkGT {l : PySem.W.OpenLaw} {n k : Nat} {q : Program} {loose : List Str} {XP : (Str → Option Value) → Heap → Prop} {YP : World → Heap → Prop} {d : DefRec} {K : Params → PySem.W.Frag} {sp : PySem.W.Frag → List (Addr × Addr) → Sp} {x : Str}
    (most : l.most = some n) (few : n ≤ sizeLine) (plain : d.params.defaults = []) (room : Room k callerA) (ky : ∀ (w : World) (h : Heap), YP w h → (K w.params).In h)
    (F : ∀ (w : World) (mg : Str → Option Value) (fa : Addr) (h : Heap), YP w h → (K w.params).In h → h.Ns mainGlobals mg → mg d.name = some (.ref fa) → ∃ (fd : FuncData) (cs : List (Addr × Addr)), (∀ p ∈ cs, h.get? p.2 = some (PySem.W.tabObj #[])) ∧ (∀ p ∈ cs, (K w.params).lookup p.2 = none) ∧ (∀ p ∈ cs, PySem.W.CodeHd h p.1 p.2) ∧ (∀ (s : Shared) (u : Value), BindsTo s fd ⟨[u], []⟩ [(x, u)]) ∧
      ∀ base : Heap, (K w.params).In base → base.Ns mainGlobals mg → (∀ p ∈ cs, TabB base mg p.1 p.2) → FnG l.prog w (K w.params) mg base CX0 k fa fd [x] (sp (K w.params) cs))
    (wish : ∀ (K : PySem.W.Frag) (cs : List (Addr × Addr)) (H : Hp) (a : Addr) (ns : List Int), ns.length ≤ n → (∀ p ∈ cs, H p.2 = some (.tbl #[])) → SqL K H a (ns.map V.int) → sp K cs [.ref a] H (fun v _ => v = .bl true) fun _ _ _ => False) :
    PySem.W.WalkO q loose XP YP l.row.toRowW d [] (fun f vs => PySem.call f vs) := by
  refine Att.attach_callB most plain ?_
  intro w s0 t mg mb fa o pm cd doc a us ns G Y ho hd hcd hmg at_a isI many _ noG
  obtain ⟨fd, cs, t1, t2, t3, bind, ok⟩ := F w mg fa _ Y (ky w _ Y) G.T.g hmg
  exact lawGT (ky w _ Y) G.T.g G.T.b G.T.builtins G.T.nolimit noG t1 t2 t3 G.T.bmain at_a isI (Nat.le_trans many few) room ok bind (fun H o1 o2 => wish (K w.params) cs H a ns many o1 o2) fun _ _ _ z => z.elim
end AL
set_option Elab.async false
set_option maxRecDepth 100000
set_option exponentiation.threshold 70000
set_option maxHeartbeats 2000000
namespace AL
open PySem PySem.Spec PyProof.Rows L2 RZ
theorem all_mk {l : PySem.W.OpenLaw} {w : World} {K : PySem.W.Frag} {h : Heap} {mg : Str → Option Value} {CUnits f_law_pen f_law_draw f_law_pick f_law_big fis_whole fare_integers flowest fratio_product fwhole_power fratio_power fdigits_end fwrong_column_ratios fratio_of fis_name fis_exponent fnamed_power flines_of fratio_word fwrong_unit_word fpowers_of fsize_in fexponents_in fchecked_powers fread_powers fU_exp fU_size fU_wr fwrong_names_column fmeasure_of fbase_measures fwrong_scale_column fwrong_column_units fwrong_base_column f_law_gcd f_law_q f_law_plus f_law_times f_law_power f_law_ratio f_law_written f_law_other f_law_size f_law_base_words f_law_units_text fU_init f_law_name f_law_names f_law_base_units f_law_measure f_law_pairs f_law_pair_words f_law_units flaw fa : Addr} (X : K.In h) (G : h.Ns mainGlobals mg) (hfa : mg "law" = some (.ref fa))
    {oc_law_pen kV_law_pen dc_law_pen pm_law_pen cd_law_pen ct_law_pen : Value} {od_law_pen an_law_pen : Option Addr} {sl_law_pen : Array (Option Value)}
    {oc_law_draw kV_law_draw dc_law_draw pm_law_draw cd_law_draw ct_law_draw : Value} {od_law_draw an_law_draw : Option Addr} {sl_law_draw : Array (Option Value)}
    {oc_law_pick kV_law_pick dc_law_pick pm_law_pick cd_law_pick ct_law_pick : Value} {od_law_pick an_law_pick : Option Addr} {sl_law_pick : Array (Option Value)}
    {oc_law_big kV_law_big dc_law_big pm_law_big cd_law_big ct_law_big : Value} {od_law_big an_law_big : Option Addr} {sl_law_big : Array (Option Value)}
    {ocis_whole kVis_whole dcis_whole pmis_whole cdis_whole ctis_whole : Value} {odis_whole anis_whole : Option Addr} {slis_whole : Array (Option Value)}
    {ocare_integers kVare_integers dcare_integers pmare_integers cdare_integers ctare_integers : Value} {odare_integers anare_integers : Option Addr} {slare_integers : Array (Option Value)}
    {oclowest kVlowest dclowest pmlowest cdlowest ctlowest : Value} {odlowest anlowest : Option Addr} {sllowest : Array (Option Value)}
    {ocratio_product kVratio_product dcratio_product pmratio_product cdratio_product ctratio_product : Value} {odratio_product anratio_product : Option Addr} {slratio_product : Array (Option Value)}
    {ocwhole_power kVwhole_power dcwhole_power pmwhole_power cdwhole_power ctwhole_power : Value} {odwhole_power anwhole_power : Option Addr} {slwhole_power : Array (Option Value)}
    {ocratio_power kVratio_power dcratio_power pmratio_power cdratio_power ctratio_power : Value} {odratio_power anratio_power : Option Addr} {slratio_power : Array (Option Value)}
    {ocdigits_end kVdigits_end dcdigits_end pmdigits_end cddigits_end ctdigits_end : Value} {oddigits_end andigits_end : Option Addr} {sldigits_end : Array (Option Value)}
    {ocwrong_column_ratios kVwrong_column_ratios dcwrong_column_ratios pmwrong_column_ratios cdwrong_column_ratios ctwrong_column_ratios : Value} {odwrong_column_ratios anwrong_column_ratios : Option Addr} {slwrong_column_ratios : Array (Option Value)}
    {ocratio_of kVratio_of dcratio_of pmratio_of cdratio_of ctratio_of : Value} {odratio_of anratio_of : Option Addr} {slratio_of : Array (Option Value)}
    {ocis_name kVis_name dcis_name pmis_name cdis_name ctis_name : Value} {odis_name anis_name : Option Addr} {slis_name : Array (Option Value)}
    {ocis_exponent kVis_exponent dcis_exponent pmis_exponent cdis_exponent ctis_exponent : Value} {odis_exponent anis_exponent : Option Addr} {slis_exponent : Array (Option Value)}
    {ocnamed_power kVnamed_power dcnamed_power pmnamed_power cdnamed_power ctnamed_power : Value} {odnamed_power annamed_power : Option Addr} {slnamed_power : Array (Option Value)}
    {oclines_of kVlines_of dclines_of pmlines_of cdlines_of ctlines_of : Value} {odlines_of anlines_of : Option Addr} {sllines_of : Array (Option Value)}
    {ocratio_word kVratio_word dcratio_word pmratio_word cdratio_word ctratio_word : Value} {odratio_word anratio_word : Option Addr} {slratio_word : Array (Option Value)}
    {ocwrong_unit_word kVwrong_unit_word dcwrong_unit_word pmwrong_unit_word cdwrong_unit_word ctwrong_unit_word : Value} {odwrong_unit_word anwrong_unit_word : Option Addr} {slwrong_unit_word : Array (Option Value)}
    {ocpowers_of kVpowers_of dcpowers_of pmpowers_of cdpowers_of ctpowers_of : Value} {odpowers_of anpowers_of : Option Addr} {slpowers_of : Array (Option Value)}
    {ocsize_in kVsize_in dcsize_in pmsize_in cdsize_in ctsize_in : Value} {odsize_in ansize_in : Option Addr} {slsize_in : Array (Option Value)}
    {ocexponents_in kVexponents_in dcexponents_in pmexponents_in cdexponents_in ctexponents_in : Value} {odexponents_in anexponents_in : Option Addr} {slexponents_in : Array (Option Value)}
    {occhecked_powers kVchecked_powers dcchecked_powers pmchecked_powers cdchecked_powers ctchecked_powers : Value} {odchecked_powers anchecked_powers : Option Addr} {slchecked_powers : Array (Option Value)}
    {ocread_powers kVread_powers dcread_powers pmread_powers cdread_powers ctread_powers : Value} {odread_powers anread_powers : Option Addr} {slread_powers : Array (Option Value)}
    {ocU_exp kVU_exp dcU_exp pmU_exp cdU_exp ctU_exp : Value} {odU_exp anU_exp : Option Addr} {slU_exp : Array (Option Value)}
    {ocU_size kVU_size dcU_size pmU_size cdU_size ctU_size : Value} {odU_size anU_size : Option Addr} {slU_size : Array (Option Value)}
    {ocU_wr kVU_wr dcU_wr pmU_wr cdU_wr ctU_wr : Value} {odU_wr anU_wr : Option Addr} {slU_wr : Array (Option Value)}
    {ocwrong_names_column kVwrong_names_column dcwrong_names_column pmwrong_names_column cdwrong_names_column ctwrong_names_column : Value} {odwrong_names_column anwrong_names_column : Option Addr} {slwrong_names_column : Array (Option Value)}
    {ocmeasure_of kVmeasure_of dcmeasure_of pmmeasure_of cdmeasure_of ctmeasure_of : Value} {odmeasure_of anmeasure_of : Option Addr} {slmeasure_of : Array (Option Value)}
    {ocbase_measures kVbase_measures dcbase_measures pmbase_measures cdbase_measures ctbase_measures : Value} {odbase_measures anbase_measures : Option Addr} {slbase_measures : Array (Option Value)}
    {ocwrong_scale_column kVwrong_scale_column dcwrong_scale_column pmwrong_scale_column cdwrong_scale_column ctwrong_scale_column : Value} {odwrong_scale_column anwrong_scale_column : Option Addr} {slwrong_scale_column : Array (Option Value)}
    {ocwrong_column_units kVwrong_column_units dcwrong_column_units pmwrong_column_units cdwrong_column_units ctwrong_column_units : Value} {odwrong_column_units anwrong_column_units : Option Addr} {slwrong_column_units : Array (Option Value)}
    {ocwrong_base_column kVwrong_base_column dcwrong_base_column pmwrong_base_column cdwrong_base_column ctwrong_base_column : Value} {odwrong_base_column anwrong_base_column : Option Addr} {slwrong_base_column : Array (Option Value)}
    {oc_law_gcd kV_law_gcd dc_law_gcd pm_law_gcd cd_law_gcd ct_law_gcd : Value} {od_law_gcd an_law_gcd : Option Addr} {sl_law_gcd : Array (Option Value)}
    {oc_law_q kV_law_q dc_law_q pm_law_q cd_law_q ct_law_q : Value} {od_law_q an_law_q : Option Addr} {sl_law_q : Array (Option Value)}
    {oc_law_plus kV_law_plus dc_law_plus pm_law_plus cd_law_plus ct_law_plus : Value} {od_law_plus an_law_plus : Option Addr} {sl_law_plus : Array (Option Value)}
    {oc_law_times kV_law_times dc_law_times pm_law_times cd_law_times ct_law_times : Value} {od_law_times an_law_times : Option Addr} {sl_law_times : Array (Option Value)}
    {oc_law_power kV_law_power dc_law_power pm_law_power cd_law_power ct_law_power : Value} {od_law_power an_law_power : Option Addr} {sl_law_power : Array (Option Value)}
    {oc_law_ratio kV_law_ratio dc_law_ratio pm_law_ratio cd_law_ratio ct_law_ratio : Value} {od_law_ratio an_law_ratio : Option Addr} {sl_law_ratio : Array (Option Value)}
    {oc_law_written kV_law_written dc_law_written pm_law_written cd_law_written ct_law_written : Value} {od_law_written an_law_written : Option Addr} {sl_law_written : Array (Option Value)}
    {oc_law_other kV_law_other dc_law_other pm_law_other cd_law_other ct_law_other : Value} {od_law_other an_law_other : Option Addr} {sl_law_other : Array (Option Value)}
    {oc_law_size kV_law_size dc_law_size pm_law_size cd_law_size ct_law_size : Value} {od_law_size an_law_size : Option Addr} {sl_law_size : Array (Option Value)}
    {oc_law_base_words kV_law_base_words dc_law_base_words pm_law_base_words cd_law_base_words ct_law_base_words : Value} {od_law_base_words an_law_base_words : Option Addr} {sl_law_base_words : Array (Option Value)}
    {oc_law_units_text kV_law_units_text dc_law_units_text pm_law_units_text cd_law_units_text ct_law_units_text : Value} {od_law_units_text an_law_units_text : Option Addr} {sl_law_units_text : Array (Option Value)}
    {ocU_init kVU_init dcU_init pmU_init cdU_init ctU_init : Value} {odU_init anU_init : Option Addr} {slU_init : Array (Option Value)}
    {oc_law_name kV_law_name dc_law_name pm_law_name cd_law_name ct_law_name : Value} {od_law_name an_law_name : Option Addr} {sl_law_name : Array (Option Value)}
    {oc_law_names kV_law_names dc_law_names pm_law_names cd_law_names ct_law_names : Value} {od_law_names an_law_names : Option Addr} {sl_law_names : Array (Option Value)}
    {oc_law_base_units kV_law_base_units dc_law_base_units pm_law_base_units cd_law_base_units ct_law_base_units : Value} {od_law_base_units an_law_base_units : Option Addr} {sl_law_base_units : Array (Option Value)}
    {oc_law_measure kV_law_measure dc_law_measure pm_law_measure cd_law_measure ct_law_measure : Value} {od_law_measure an_law_measure : Option Addr} {sl_law_measure : Array (Option Value)}
    {oc_law_pairs kV_law_pairs dc_law_pairs pm_law_pairs cd_law_pairs ct_law_pairs : Value} {od_law_pairs an_law_pairs : Option Addr} {sl_law_pairs : Array (Option Value)}
    {oc_law_pair_words kV_law_pair_words dc_law_pair_words pm_law_pair_words cd_law_pair_words ct_law_pair_words : Value} {od_law_pair_words an_law_pair_words : Option Addr} {sl_law_pair_words : Array (Option Value)}
    {oc_law_units kV_law_units dc_law_units pm_law_units cd_law_units ct_law_units : Value} {od_law_units an_law_units : Option Addr} {sl_law_units : Array (Option Value)}
    {oclaw kVlaw dclaw pmlaw cdlaw ctlaw : Value} {odlaw anlaw : Option Addr} {sllaw : Array (Option Value)}
    {tkD tkM tkL tkN tkB : Tok}
    (aCUnits : PySem.W.nsIn K mainGlobals "Units" = some (some (.ref CUnits)))
    (pgUnits : PySem.W.plainGet K CUnits Str.empty = true)
    (hdUnits : PySem.W.hasDictIn K CUnits = true)
    (poUnits : PySem.W.plainOver K CUnits = true)
    (saUnits : PySem.W.findIn K (.ref CUnits) "__setattr__" = some (some (.builtin "object.__setattr__")))
    (mkUnits : PySem.W.makesIn K CUnits = true)
    (kcUnits : PySem.W.keepIn K (.ref CUnits) = true)
    (sfUnits : PySem.W.selfFirst K CUnits = true)
    (q1Units : PySem.W.findIn K (.ref CUnits) "__class__" = some (some (.builtin "object.__class__")))
    (q2Units : PySem.W.specialIn K (.builtin "object.__class__") "__get__" = some (some (.builtin "getset_descriptor.__get__")))
    (q3Units : PySem.W.takesIn K (.builtin "object.__class__") = some true)
    (q4Units : PySem.W.mroIn K CUnits (.type "object") = some true)
    (nUnitstext : PySem.W.findIn K (.ref CUnits) "text" = some none)
    (nUnitsbase : PySem.W.findIn K (.ref CUnits) "base" = some none)
    (nUnitsnames : PySem.W.findIn K (.ref CUnits) "names" = some none)
    (nUnitsmeasures : PySem.W.findIn K (.ref CUnits) "measures" = some none)
    (nUnitsscales : PySem.W.findIn K (.ref CUnits) "scales" = some none)
    (a_law_pen : PySem.W.nsIn K mainGlobals "_law_pen" = some (some (.ref f_law_pen)))
    (l_law_pen : K.lookup f_law_pen = some ⟨oc_law_pen, od_law_pen, .func (PySem.W.fnOf "_law_pen" "_law_pen" (defArgs st_law_pen) (defBody st_law_pen) (defScope st_law_pen) .none kV_law_pen dc_law_pen pm_law_pen an_law_pen cd_law_pen ct_law_pen), sl_law_pen⟩)
    (c_law_pen : PySem.W.codeIn K cd_law_pen "_law_pen" = true)
    (k_law_pen : PySem.W.keepIn K (.ref f_law_pen) = true)
    (a_law_draw : PySem.W.nsIn K mainGlobals "_law_draw" = some (some (.ref f_law_draw)))
    (l_law_draw : K.lookup f_law_draw = some ⟨oc_law_draw, od_law_draw, .func (PySem.W.fnOf "_law_draw" "_law_draw" (defArgs st_law_draw) (defBody st_law_draw) (defScope st_law_draw) .none kV_law_draw dc_law_draw pm_law_draw an_law_draw cd_law_draw ct_law_draw), sl_law_draw⟩)
    (c_law_draw : PySem.W.codeIn K cd_law_draw "_law_draw" = true)
    (k_law_draw : PySem.W.keepIn K (.ref f_law_draw) = true)
    (a_law_pick : PySem.W.nsIn K mainGlobals "_law_pick" = some (some (.ref f_law_pick)))
    (l_law_pick : K.lookup f_law_pick = some ⟨oc_law_pick, od_law_pick, .func (PySem.W.fnOf "_law_pick" "_law_pick" (defArgs st_law_pick) (defBody st_law_pick) (defScope st_law_pick) .none kV_law_pick dc_law_pick pm_law_pick an_law_pick cd_law_pick ct_law_pick), sl_law_pick⟩)
    (c_law_pick : PySem.W.codeIn K cd_law_pick "_law_pick" = true)
    (k_law_pick : PySem.W.keepIn K (.ref f_law_pick) = true)
    (a_law_big : PySem.W.nsIn K mainGlobals "_law_big" = some (some (.ref f_law_big)))
    (l_law_big : K.lookup f_law_big = some ⟨oc_law_big, od_law_big, .func (PySem.W.fnOf "_law_big" "_law_big" (defArgs st_law_big) (defBody st_law_big) (defScope st_law_big) .none kV_law_big dc_law_big pm_law_big an_law_big cd_law_big ct_law_big), sl_law_big⟩)
    (c_law_big : PySem.W.codeIn K cd_law_big "_law_big" = true)
    (k_law_big : PySem.W.keepIn K (.ref f_law_big) = true)
    (ais_whole : PySem.W.nsIn K mainGlobals "is_whole" = some (some (.ref fis_whole)))
    (lis_whole : K.lookup fis_whole = some ⟨ocis_whole, odis_whole, .func (PySem.W.fnOf "is_whole" "is_whole" (defArgs stis_whole) (defBody stis_whole) (defScope stis_whole) .none kVis_whole dcis_whole pmis_whole anis_whole cdis_whole ctis_whole), slis_whole⟩)
    (cis_whole : PySem.W.codeIn K cdis_whole "is_whole" = true)
    (kis_whole : PySem.W.keepIn K (.ref fis_whole) = true)
    (aare_integers : PySem.W.nsIn K mainGlobals "are_integers" = some (some (.ref fare_integers)))
    (lare_integers : K.lookup fare_integers = some ⟨ocare_integers, odare_integers, .func (PySem.W.fnOf "are_integers" "are_integers" (defArgs stare_integers) (defBody stare_integers) (defScope stare_integers) .none kVare_integers dcare_integers pmare_integers anare_integers cdare_integers ctare_integers), slare_integers⟩)
    (care_integers : PySem.W.codeIn K cdare_integers "are_integers" = true)
    (kare_integers : PySem.W.keepIn K (.ref fare_integers) = true)
    (alowest : PySem.W.nsIn K mainGlobals "lowest" = some (some (.ref flowest)))
    (llowest : K.lookup flowest = some ⟨oclowest, odlowest, .func (PySem.W.fnOf "lowest" "lowest" (defArgs stlowest) (defBody stlowest) (defScope stlowest) .none kVlowest dclowest pmlowest anlowest cdlowest ctlowest), sllowest⟩)
    (clowest : PySem.W.codeIn K cdlowest "lowest" = true)
    (klowest : PySem.W.keepIn K (.ref flowest) = true)
    (aratio_product : PySem.W.nsIn K mainGlobals "ratio_product" = some (some (.ref fratio_product)))
    (lratio_product : K.lookup fratio_product = some ⟨ocratio_product, odratio_product, .func (PySem.W.fnOf "ratio_product" "ratio_product" (defArgs stratio_product) (defBody stratio_product) (defScope stratio_product) .none kVratio_product dcratio_product pmratio_product anratio_product cdratio_product ctratio_product), slratio_product⟩)
    (cratio_product : PySem.W.codeIn K cdratio_product "ratio_product" = true)
    (kratio_product : PySem.W.keepIn K (.ref fratio_product) = true)
    (awhole_power : PySem.W.nsIn K mainGlobals "whole_power" = some (some (.ref fwhole_power)))
    (lwhole_power : K.lookup fwhole_power = some ⟨ocwhole_power, odwhole_power, .func (PySem.W.fnOf "whole_power" "whole_power" (defArgs stwhole_power) (defBody stwhole_power) (defScope stwhole_power) .none kVwhole_power dcwhole_power pmwhole_power anwhole_power cdwhole_power ctwhole_power), slwhole_power⟩)
    (cwhole_power : PySem.W.codeIn K cdwhole_power "whole_power" = true)
    (kwhole_power : PySem.W.keepIn K (.ref fwhole_power) = true)
    (aratio_power : PySem.W.nsIn K mainGlobals "ratio_power" = some (some (.ref fratio_power)))
    (lratio_power : K.lookup fratio_power = some ⟨ocratio_power, odratio_power, .func (PySem.W.fnOf "ratio_power" "ratio_power" (defArgs stratio_power) (defBody stratio_power) (defScope stratio_power) .none kVratio_power dcratio_power pmratio_power anratio_power cdratio_power ctratio_power), slratio_power⟩)
    (cratio_power : PySem.W.codeIn K cdratio_power "ratio_power" = true)
    (kratio_power : PySem.W.keepIn K (.ref fratio_power) = true)
    (adigits_end : PySem.W.nsIn K mainGlobals "digits_end" = some (some (.ref fdigits_end)))
    (ldigits_end : K.lookup fdigits_end = some ⟨ocdigits_end, oddigits_end, .func (PySem.W.fnOf "digits_end" "digits_end" (defArgs stdigits_end) (defBody stdigits_end) (defScope stdigits_end) .none kVdigits_end dcdigits_end pmdigits_end andigits_end cddigits_end ctdigits_end), sldigits_end⟩)
    (cdigits_end : PySem.W.codeIn K cddigits_end "digits_end" = true)
    (kdigits_end : PySem.W.keepIn K (.ref fdigits_end) = true)
    (awrong_column_ratios : PySem.W.nsIn K mainGlobals "wrong_column_ratios" = some (some (.ref fwrong_column_ratios)))
    (lwrong_column_ratios : K.lookup fwrong_column_ratios = some ⟨ocwrong_column_ratios, odwrong_column_ratios, .func (PySem.W.fnOf "wrong_column" "wrong_column" (defArgs stwrong_column_ratios) (defBody stwrong_column_ratios) (defScope stwrong_column_ratios) .none kVwrong_column_ratios dcwrong_column_ratios pmwrong_column_ratios anwrong_column_ratios cdwrong_column_ratios ctwrong_column_ratios), slwrong_column_ratios⟩)
    (cwrong_column_ratios : PySem.W.codeIn K cdwrong_column_ratios "wrong_column" = true)
    (kwrong_column_ratios : PySem.W.keepIn K (.ref fwrong_column_ratios) = true)
    (aratio_of : PySem.W.nsIn K mainGlobals "ratio_of" = some (some (.ref fratio_of)))
    (lratio_of : K.lookup fratio_of = some ⟨ocratio_of, odratio_of, .func (PySem.W.fnOf "ratio_of" "ratio_of" (defArgs stratio_of) (defBody stratio_of) (defScope stratio_of) .none kVratio_of dcratio_of pmratio_of anratio_of cdratio_of ctratio_of), slratio_of⟩)
    (cratio_of : PySem.W.codeIn K cdratio_of "ratio_of" = true)
    (kratio_of : PySem.W.keepIn K (.ref fratio_of) = true)
    (ais_name : PySem.W.nsIn K mainGlobals "is_name" = some (some (.ref fis_name)))
    (lis_name : K.lookup fis_name = some ⟨ocis_name, odis_name, .func (PySem.W.fnOf "is_name" "is_name" (defArgs stis_name) (defBody stis_name) (defScope stis_name) .none kVis_name dcis_name pmis_name anis_name cdis_name ctis_name), slis_name⟩)
    (cis_name : PySem.W.codeIn K cdis_name "is_name" = true)
    (kis_name : PySem.W.keepIn K (.ref fis_name) = true)
    (ais_exponent : PySem.W.nsIn K mainGlobals "is_exponent" = some (some (.ref fis_exponent)))
    (lis_exponent : K.lookup fis_exponent = some ⟨ocis_exponent, odis_exponent, .func (PySem.W.fnOf "is_exponent" "is_exponent" (defArgs stis_exponent) (defBody stis_exponent) (defScope stis_exponent) .none kVis_exponent dcis_exponent pmis_exponent anis_exponent cdis_exponent ctis_exponent), slis_exponent⟩)
    (cis_exponent : PySem.W.codeIn K cdis_exponent "is_exponent" = true)
    (kis_exponent : PySem.W.keepIn K (.ref fis_exponent) = true)
    (anamed_power : PySem.W.nsIn K mainGlobals "named_power" = some (some (.ref fnamed_power)))
    (lnamed_power : K.lookup fnamed_power = some ⟨ocnamed_power, odnamed_power, .func (PySem.W.fnOf "named_power" "named_power" (defArgs stnamed_power) (defBody stnamed_power) (defScope stnamed_power) .none kVnamed_power dcnamed_power pmnamed_power annamed_power cdnamed_power ctnamed_power), slnamed_power⟩)
    (cnamed_power : PySem.W.codeIn K cdnamed_power "named_power" = true)
    (knamed_power : PySem.W.keepIn K (.ref fnamed_power) = true)
    (alines_of : PySem.W.nsIn K mainGlobals "lines_of" = some (some (.ref flines_of)))
    (llines_of : K.lookup flines_of = some ⟨oclines_of, odlines_of, .func (PySem.W.fnOf "lines_of" "lines_of" (defArgs stlines_of) (defBody stlines_of) (defScope stlines_of) .none kVlines_of dclines_of pmlines_of anlines_of cdlines_of ctlines_of), sllines_of⟩)
    (clines_of : PySem.W.codeIn K cdlines_of "lines_of" = true)
    (klines_of : PySem.W.keepIn K (.ref flines_of) = true)
    (aratio_word : PySem.W.nsIn K mainGlobals "ratio_word" = some (some (.ref fratio_word)))
    (lratio_word : K.lookup fratio_word = some ⟨ocratio_word, odratio_word, .func (PySem.W.fnOf "ratio_word" "ratio_word" (defArgs stratio_word) (defBody stratio_word) (defScope stratio_word) .none kVratio_word dcratio_word pmratio_word anratio_word cdratio_word ctratio_word), slratio_word⟩)
    (cratio_word : PySem.W.codeIn K cdratio_word "ratio_word" = true)
    (kratio_word : PySem.W.keepIn K (.ref fratio_word) = true)
    (awrong_unit_word : PySem.W.nsIn K mainGlobals "wrong_unit_word" = some (some (.ref fwrong_unit_word)))
    (lwrong_unit_word : K.lookup fwrong_unit_word = some ⟨ocwrong_unit_word, odwrong_unit_word, .func (PySem.W.fnOf "wrong_unit_word" "wrong_unit_word" (defArgs stwrong_unit_word) (defBody stwrong_unit_word) (defScope stwrong_unit_word) .none kVwrong_unit_word dcwrong_unit_word pmwrong_unit_word anwrong_unit_word cdwrong_unit_word ctwrong_unit_word), slwrong_unit_word⟩)
    (cwrong_unit_word : PySem.W.codeIn K cdwrong_unit_word "wrong_unit_word" = true)
    (kwrong_unit_word : PySem.W.keepIn K (.ref fwrong_unit_word) = true)
    (apowers_of : PySem.W.nsIn K mainGlobals "powers_of" = some (some (.ref fpowers_of)))
    (lpowers_of : K.lookup fpowers_of = some ⟨ocpowers_of, odpowers_of, .func (PySem.W.fnOf "powers_of" "powers_of" (defArgs stpowers_of) (defBody stpowers_of) (defScope stpowers_of) .none kVpowers_of dcpowers_of pmpowers_of anpowers_of cdpowers_of ctpowers_of), slpowers_of⟩)
    (cpowers_of : PySem.W.codeIn K cdpowers_of "powers_of" = true)
    (kpowers_of : PySem.W.keepIn K (.ref fpowers_of) = true)
    (asize_in : PySem.W.nsIn K mainGlobals "size_in" = some (some (.ref fsize_in)))
    (lsize_in : K.lookup fsize_in = some ⟨ocsize_in, odsize_in, .func (PySem.W.fnOf "size_in" "size_in" (defArgs stsize_in) (defBody stsize_in) (defScope stsize_in) .none kVsize_in dcsize_in pmsize_in ansize_in cdsize_in ctsize_in), slsize_in⟩)
    (csize_in : PySem.W.codeIn K cdsize_in "size_in" = true)
    (ksize_in : PySem.W.keepIn K (.ref fsize_in) = true)
    (aexponents_in : PySem.W.nsIn K mainGlobals "exponents_in" = some (some (.ref fexponents_in)))
    (lexponents_in : K.lookup fexponents_in = some ⟨ocexponents_in, odexponents_in, .func (PySem.W.fnOf "exponents_in" "exponents_in" (defArgs stexponents_in) (defBody stexponents_in) (defScope stexponents_in) .none kVexponents_in dcexponents_in pmexponents_in anexponents_in cdexponents_in ctexponents_in), slexponents_in⟩)
    (cexponents_in : PySem.W.codeIn K cdexponents_in "exponents_in" = true)
    (kexponents_in : PySem.W.keepIn K (.ref fexponents_in) = true)
    (achecked_powers : PySem.W.nsIn K mainGlobals "checked_powers" = some (some (.ref fchecked_powers)))
    (lchecked_powers : K.lookup fchecked_powers = some ⟨occhecked_powers, odchecked_powers, .func (PySem.W.fnOf "checked_powers" "checked_powers" (defArgs stchecked_powers) (defBody stchecked_powers) (defScope stchecked_powers) .none kVchecked_powers dcchecked_powers pmchecked_powers anchecked_powers cdchecked_powers ctchecked_powers), slchecked_powers⟩)
    (cchecked_powers : PySem.W.codeIn K cdchecked_powers "checked_powers" = true)
    (kchecked_powers : PySem.W.keepIn K (.ref fchecked_powers) = true)
    (aread_powers : PySem.W.nsIn K mainGlobals "read_powers" = some (some (.ref fread_powers)))
    (lread_powers : K.lookup fread_powers = some ⟨ocread_powers, odread_powers, .func (PySem.W.fnOf "read_powers" "read_powers" (defArgs stread_powers) (defBody stread_powers) (defScope stread_powers) .none kVread_powers dcread_powers pmread_powers anread_powers cdread_powers ctread_powers), slread_powers⟩)
    (cread_powers : PySem.W.codeIn K cdread_powers "read_powers" = true)
    (kread_powers : PySem.W.keepIn K (.ref fread_powers) = true)
    (aU_exp : PySem.W.findIn K (.ref CUnits) "exponents_of" = some (some (.ref fU_exp)))
    (lU_exp : K.lookup fU_exp = some ⟨ocU_exp, odU_exp, .func (PySem.W.fnOf "exponents_of" "Units.exponents_of" (defArgs stU_exp) (defBody stU_exp) (defScope stU_exp) .none kVU_exp dcU_exp pmU_exp anU_exp cdU_exp ctU_exp), slU_exp⟩)
    (cU_exp : PySem.W.codeIn K cdU_exp "Units.exponents_of" = true)
    (kU_exp : PySem.W.keepIn K (.ref fU_exp) = true)
    (iU_exp : PySem.W.isFn K (.ref fU_exp) = true)
    (aU_size : PySem.W.findIn K (.ref CUnits) "size_of" = some (some (.ref fU_size)))
    (lU_size : K.lookup fU_size = some ⟨ocU_size, odU_size, .func (PySem.W.fnOf "size_of" "Units.size_of" (defArgs stU_size) (defBody stU_size) (defScope stU_size) .none kVU_size dcU_size pmU_size anU_size cdU_size ctU_size), slU_size⟩)
    (cU_size : PySem.W.codeIn K cdU_size "Units.size_of" = true)
    (kU_size : PySem.W.keepIn K (.ref fU_size) = true)
    (iU_size : PySem.W.isFn K (.ref fU_size) = true)
    (aU_wr : PySem.W.findIn K (.ref CUnits) "written" = some (some (.ref fU_wr)))
    (lU_wr : K.lookup fU_wr = some ⟨ocU_wr, odU_wr, .func (PySem.W.fnOf "written" "Units.written" (defArgs stU_wr) (defBody stU_wr) (defScope stU_wr) .none kVU_wr dcU_wr pmU_wr anU_wr cdU_wr ctU_wr), slU_wr⟩)
    (cU_wr : PySem.W.codeIn K cdU_wr "Units.written" = true)
    (kU_wr : PySem.W.keepIn K (.ref fU_wr) = true)
    (iU_wr : PySem.W.isFn K (.ref fU_wr) = true)
    (awrong_names_column : PySem.W.nsIn K mainGlobals "wrong_names_column" = some (some (.ref fwrong_names_column)))
    (lwrong_names_column : K.lookup fwrong_names_column = some ⟨ocwrong_names_column, odwrong_names_column, .func (PySem.W.fnOf "wrong_names_column" "wrong_names_column" (defArgs stwrong_names_column) (defBody stwrong_names_column) (defScope stwrong_names_column) .none kVwrong_names_column dcwrong_names_column pmwrong_names_column anwrong_names_column cdwrong_names_column ctwrong_names_column), slwrong_names_column⟩)
    (cwrong_names_column : PySem.W.codeIn K cdwrong_names_column "wrong_names_column" = true)
    (kwrong_names_column : PySem.W.keepIn K (.ref fwrong_names_column) = true)
    (ameasure_of : PySem.W.nsIn K mainGlobals "measure_of" = some (some (.ref fmeasure_of)))
    (lmeasure_of : K.lookup fmeasure_of = some ⟨ocmeasure_of, odmeasure_of, .func (PySem.W.fnOf "measure_of" "measure_of" (defArgs stmeasure_of) (defBody stmeasure_of) (defScope stmeasure_of) .none kVmeasure_of dcmeasure_of pmmeasure_of anmeasure_of cdmeasure_of ctmeasure_of), slmeasure_of⟩)
    (cmeasure_of : PySem.W.codeIn K cdmeasure_of "measure_of" = true)
    (kmeasure_of : PySem.W.keepIn K (.ref fmeasure_of) = true)
    (abase_measures : PySem.W.nsIn K mainGlobals "base_measures" = some (some (.ref fbase_measures)))
    (lbase_measures : K.lookup fbase_measures = some ⟨ocbase_measures, odbase_measures, .func (PySem.W.fnOf "base_measures" "base_measures" (defArgs stbase_measures) (defBody stbase_measures) (defScope stbase_measures) .none kVbase_measures dcbase_measures pmbase_measures anbase_measures cdbase_measures ctbase_measures), slbase_measures⟩)
    (cbase_measures : PySem.W.codeIn K cdbase_measures "base_measures" = true)
    (kbase_measures : PySem.W.keepIn K (.ref fbase_measures) = true)
    (awrong_scale_column : PySem.W.nsIn K mainGlobals "wrong_scale_column" = some (some (.ref fwrong_scale_column)))
    (lwrong_scale_column : K.lookup fwrong_scale_column = some ⟨ocwrong_scale_column, odwrong_scale_column, .func (PySem.W.fnOf "wrong_scale_column" "wrong_scale_column" (defArgs stwrong_scale_column) (defBody stwrong_scale_column) (defScope stwrong_scale_column) .none kVwrong_scale_column dcwrong_scale_column pmwrong_scale_column anwrong_scale_column cdwrong_scale_column ctwrong_scale_column), slwrong_scale_column⟩)
    (cwrong_scale_column : PySem.W.codeIn K cdwrong_scale_column "wrong_scale_column" = true)
    (kwrong_scale_column : PySem.W.keepIn K (.ref fwrong_scale_column) = true)
    (awrong_column_units : PySem.W.nsIn K mainGlobals "wrong_column_units" = some (some (.ref fwrong_column_units)))
    (lwrong_column_units : K.lookup fwrong_column_units = some ⟨ocwrong_column_units, odwrong_column_units, .func (PySem.W.fnOf "wrong_column" "wrong_column" (defArgs stwrong_column_units) (defBody stwrong_column_units) (defScope stwrong_column_units) .none kVwrong_column_units dcwrong_column_units pmwrong_column_units anwrong_column_units cdwrong_column_units ctwrong_column_units), slwrong_column_units⟩)
    (cwrong_column_units : PySem.W.codeIn K cdwrong_column_units "wrong_column" = true)
    (kwrong_column_units : PySem.W.keepIn K (.ref fwrong_column_units) = true)
    (awrong_base_column : PySem.W.nsIn K mainGlobals "wrong_base_column" = some (some (.ref fwrong_base_column)))
    (lwrong_base_column : K.lookup fwrong_base_column = some ⟨ocwrong_base_column, odwrong_base_column, .func (PySem.W.fnOf "wrong_base_column" "wrong_base_column" (defArgs stwrong_base_column) (defBody stwrong_base_column) (defScope stwrong_base_column) .none kVwrong_base_column dcwrong_base_column pmwrong_base_column anwrong_base_column cdwrong_base_column ctwrong_base_column), slwrong_base_column⟩)
    (cwrong_base_column : PySem.W.codeIn K cdwrong_base_column "wrong_base_column" = true)
    (kwrong_base_column : PySem.W.keepIn K (.ref fwrong_base_column) = true)
    (a_law_gcd : PySem.W.nsIn K mainGlobals "_law_gcd" = some (some (.ref f_law_gcd)))
    (l_law_gcd : K.lookup f_law_gcd = some ⟨oc_law_gcd, od_law_gcd, .func (PySem.W.fnOf "_law_gcd" "_law_gcd" (defArgs st_law_gcd) (defBody st_law_gcd) (defScope st_law_gcd) .none kV_law_gcd dc_law_gcd pm_law_gcd an_law_gcd cd_law_gcd ct_law_gcd), sl_law_gcd⟩)
    (c_law_gcd : PySem.W.codeIn K cd_law_gcd "_law_gcd" = true)
    (k_law_gcd : PySem.W.keepIn K (.ref f_law_gcd) = true)
    (a_law_q : PySem.W.nsIn K mainGlobals "_law_q" = some (some (.ref f_law_q)))
    (l_law_q : K.lookup f_law_q = some ⟨oc_law_q, od_law_q, .func (PySem.W.fnOf "_law_q" "_law_q" (defArgs st_law_q) (defBody st_law_q) (defScope st_law_q) .none kV_law_q dc_law_q pm_law_q an_law_q cd_law_q ct_law_q), sl_law_q⟩)
    (c_law_q : PySem.W.codeIn K cd_law_q "_law_q" = true)
    (k_law_q : PySem.W.keepIn K (.ref f_law_q) = true)
    (a_law_plus : PySem.W.nsIn K mainGlobals "_law_plus" = some (some (.ref f_law_plus)))
    (l_law_plus : K.lookup f_law_plus = some ⟨oc_law_plus, od_law_plus, .func (PySem.W.fnOf "_law_plus" "_law_plus" (defArgs st_law_plus) (defBody st_law_plus) (defScope st_law_plus) .none kV_law_plus dc_law_plus pm_law_plus an_law_plus cd_law_plus ct_law_plus), sl_law_plus⟩)
    (c_law_plus : PySem.W.codeIn K cd_law_plus "_law_plus" = true)
    (k_law_plus : PySem.W.keepIn K (.ref f_law_plus) = true)
    (a_law_times : PySem.W.nsIn K mainGlobals "_law_times" = some (some (.ref f_law_times)))
    (l_law_times : K.lookup f_law_times = some ⟨oc_law_times, od_law_times, .func (PySem.W.fnOf "_law_times" "_law_times" (defArgs st_law_times) (defBody st_law_times) (defScope st_law_times) .none kV_law_times dc_law_times pm_law_times an_law_times cd_law_times ct_law_times), sl_law_times⟩)
    (c_law_times : PySem.W.codeIn K cd_law_times "_law_times" = true)
    (k_law_times : PySem.W.keepIn K (.ref f_law_times) = true)
    (a_law_power : PySem.W.nsIn K mainGlobals "_law_power" = some (some (.ref f_law_power)))
    (l_law_power : K.lookup f_law_power = some ⟨oc_law_power, od_law_power, .func (PySem.W.fnOf "_law_power" "_law_power" (defArgs st_law_power) (defBody st_law_power) (defScope st_law_power) .none kV_law_power dc_law_power pm_law_power an_law_power cd_law_power ct_law_power), sl_law_power⟩)
    (c_law_power : PySem.W.codeIn K cd_law_power "_law_power" = true)
    (k_law_power : PySem.W.keepIn K (.ref f_law_power) = true)
    (a_law_ratio : PySem.W.nsIn K mainGlobals "_law_ratio" = some (some (.ref f_law_ratio)))
    (l_law_ratio : K.lookup f_law_ratio = some ⟨oc_law_ratio, od_law_ratio, .func (PySem.W.fnOf "_law_ratio" "_law_ratio" (defArgs st_law_ratio) (defBody st_law_ratio) (defScope st_law_ratio) .none kV_law_ratio dc_law_ratio pm_law_ratio an_law_ratio cd_law_ratio ct_law_ratio), sl_law_ratio⟩)
    (c_law_ratio : PySem.W.codeIn K cd_law_ratio "_law_ratio" = true)
    (k_law_ratio : PySem.W.keepIn K (.ref f_law_ratio) = true)
    (a_law_written : PySem.W.nsIn K mainGlobals "_law_written" = some (some (.ref f_law_written)))
    (l_law_written : K.lookup f_law_written = some ⟨oc_law_written, od_law_written, .func (PySem.W.fnOf "_law_written" "_law_written" (defArgs st_law_written) (defBody st_law_written) (defScope st_law_written) .none kV_law_written dc_law_written pm_law_written an_law_written cd_law_written ct_law_written), sl_law_written⟩)
    (c_law_written : PySem.W.codeIn K cd_law_written "_law_written" = true)
    (k_law_written : PySem.W.keepIn K (.ref f_law_written) = true)
    (a_law_other : PySem.W.nsIn K mainGlobals "_law_other" = some (some (.ref f_law_other)))
    (l_law_other : K.lookup f_law_other = some ⟨oc_law_other, od_law_other, .func (PySem.W.fnOf "_law_other" "_law_other" (defArgs st_law_other) (defBody st_law_other) (defScope st_law_other) .none kV_law_other dc_law_other pm_law_other an_law_other cd_law_other ct_law_other), sl_law_other⟩)
    (c_law_other : PySem.W.codeIn K cd_law_other "_law_other" = true)
    (k_law_other : PySem.W.keepIn K (.ref f_law_other) = true)
    (a_law_size : PySem.W.nsIn K mainGlobals "_law_size" = some (some (.ref f_law_size)))
    (l_law_size : K.lookup f_law_size = some ⟨oc_law_size, od_law_size, .func (PySem.W.fnOf "_law_size" "_law_size" (defArgs st_law_size) (defBody st_law_size) (defScope st_law_size) .none kV_law_size dc_law_size pm_law_size an_law_size cd_law_size ct_law_size), sl_law_size⟩)
    (c_law_size : PySem.W.codeIn K cd_law_size "_law_size" = true)
    (k_law_size : PySem.W.keepIn K (.ref f_law_size) = true)
    (a_law_base_words : PySem.W.nsIn K mainGlobals "_law_base_words" = some (some (.ref f_law_base_words)))
    (l_law_base_words : K.lookup f_law_base_words = some ⟨oc_law_base_words, od_law_base_words, .func (PySem.W.fnOf "_law_base_words" "_law_base_words" (defArgs st_law_base_words) (defBody st_law_base_words) (defScope st_law_base_words) .none kV_law_base_words dc_law_base_words pm_law_base_words an_law_base_words cd_law_base_words ct_law_base_words), sl_law_base_words⟩)
    (c_law_base_words : PySem.W.codeIn K cd_law_base_words "_law_base_words" = true)
    (k_law_base_words : PySem.W.keepIn K (.ref f_law_base_words) = true)
    (a_law_units_text : PySem.W.nsIn K mainGlobals "_law_units_text" = some (some (.ref f_law_units_text)))
    (l_law_units_text : K.lookup f_law_units_text = some ⟨oc_law_units_text, od_law_units_text, .func (PySem.W.fnOf "_law_units_text" "_law_units_text" (defArgs st_law_units_text) (defBody st_law_units_text) (defScope st_law_units_text) .none kV_law_units_text dc_law_units_text pm_law_units_text an_law_units_text cd_law_units_text ct_law_units_text), sl_law_units_text⟩)
    (c_law_units_text : PySem.W.codeIn K cd_law_units_text "_law_units_text" = true)
    (k_law_units_text : PySem.W.keepIn K (.ref f_law_units_text) = true)
    (aU_init : PySem.W.findIn K (.ref CUnits) "__init__" = some (some (.ref fU_init)))
    (lU_init : K.lookup fU_init = some ⟨ocU_init, odU_init, .func (PySem.W.fnOf "__init__" "Units.__init__" (defArgs stU_init) (defBody stU_init) (defScope stU_init) .none kVU_init dcU_init pmU_init anU_init cdU_init ctU_init), slU_init⟩)
    (cU_init : PySem.W.codeIn K cdU_init "Units.__init__" = true)
    (kU_init : PySem.W.keepIn K (.ref fU_init) = true)
    (iU_init : PySem.W.isFn K (.ref fU_init) = true)
    (a_law_name : PySem.W.nsIn K mainGlobals "_law_name" = some (some (.ref f_law_name)))
    (l_law_name : K.lookup f_law_name = some ⟨oc_law_name, od_law_name, .func (PySem.W.fnOf "_law_name" "_law_name" (defArgs st_law_name) (defBody st_law_name) (defScope st_law_name) .none kV_law_name dc_law_name pm_law_name an_law_name cd_law_name ct_law_name), sl_law_name⟩)
    (c_law_name : PySem.W.codeIn K cd_law_name "_law_name" = true)
    (k_law_name : PySem.W.keepIn K (.ref f_law_name) = true)
    (a_law_names : PySem.W.nsIn K mainGlobals "_law_names" = some (some (.ref f_law_names)))
    (l_law_names : K.lookup f_law_names = some ⟨oc_law_names, od_law_names, .func (PySem.W.fnOf "_law_names" "_law_names" (defArgs st_law_names) (defBody st_law_names) (defScope st_law_names) .none kV_law_names dc_law_names pm_law_names an_law_names cd_law_names ct_law_names), sl_law_names⟩)
    (c_law_names : PySem.W.codeIn K cd_law_names "_law_names" = true)
    (k_law_names : PySem.W.keepIn K (.ref f_law_names) = true)
    (a_law_base_units : PySem.W.nsIn K mainGlobals "_law_base_units" = some (some (.ref f_law_base_units)))
    (l_law_base_units : K.lookup f_law_base_units = some ⟨oc_law_base_units, od_law_base_units, .func (PySem.W.fnOf "_law_base_units" "_law_base_units" (defArgs st_law_base_units) (defBody st_law_base_units) (defScope st_law_base_units) .none kV_law_base_units dc_law_base_units pm_law_base_units an_law_base_units cd_law_base_units ct_law_base_units), sl_law_base_units⟩)
    (c_law_base_units : PySem.W.codeIn K cd_law_base_units "_law_base_units" = true)
    (k_law_base_units : PySem.W.keepIn K (.ref f_law_base_units) = true)
    (a_law_measure : PySem.W.nsIn K mainGlobals "_law_measure" = some (some (.ref f_law_measure)))
    (l_law_measure : K.lookup f_law_measure = some ⟨oc_law_measure, od_law_measure, .func (PySem.W.fnOf "_law_measure" "_law_measure" (defArgs st_law_measure) (defBody st_law_measure) (defScope st_law_measure) .none kV_law_measure dc_law_measure pm_law_measure an_law_measure cd_law_measure ct_law_measure), sl_law_measure⟩)
    (c_law_measure : PySem.W.codeIn K cd_law_measure "_law_measure" = true)
    (k_law_measure : PySem.W.keepIn K (.ref f_law_measure) = true)
    (a_law_pairs : PySem.W.nsIn K mainGlobals "_law_pairs" = some (some (.ref f_law_pairs)))
    (l_law_pairs : K.lookup f_law_pairs = some ⟨oc_law_pairs, od_law_pairs, .func (PySem.W.fnOf "_law_pairs" "_law_pairs" (defArgs st_law_pairs) (defBody st_law_pairs) (defScope st_law_pairs) .none kV_law_pairs dc_law_pairs pm_law_pairs an_law_pairs cd_law_pairs ct_law_pairs), sl_law_pairs⟩)
    (c_law_pairs : PySem.W.codeIn K cd_law_pairs "_law_pairs" = true)
    (k_law_pairs : PySem.W.keepIn K (.ref f_law_pairs) = true)
    (a_law_pair_words : PySem.W.nsIn K mainGlobals "_law_pair_words" = some (some (.ref f_law_pair_words)))
    (l_law_pair_words : K.lookup f_law_pair_words = some ⟨oc_law_pair_words, od_law_pair_words, .func (PySem.W.fnOf "_law_pair_words" "_law_pair_words" (defArgs st_law_pair_words) (defBody st_law_pair_words) (defScope st_law_pair_words) .none kV_law_pair_words dc_law_pair_words pm_law_pair_words an_law_pair_words cd_law_pair_words ct_law_pair_words), sl_law_pair_words⟩)
    (c_law_pair_words : PySem.W.codeIn K cd_law_pair_words "_law_pair_words" = true)
    (k_law_pair_words : PySem.W.keepIn K (.ref f_law_pair_words) = true)
    (a_law_units : PySem.W.nsIn K mainGlobals "_law_units" = some (some (.ref f_law_units)))
    (l_law_units : K.lookup f_law_units = some ⟨oc_law_units, od_law_units, .func (PySem.W.fnOf "_law_units" "_law_units" (defArgs st_law_units) (defBody st_law_units) (defScope st_law_units) .none kV_law_units dc_law_units pm_law_units an_law_units cd_law_units ct_law_units), sl_law_units⟩)
    (c_law_units : PySem.W.codeIn K cd_law_units "_law_units" = true)
    (k_law_units : PySem.W.keepIn K (.ref f_law_units) = true)
    (alaw : PySem.W.nsIn K mainGlobals "law" = some (some (.ref flaw)))
    (llaw : K.lookup flaw = some ⟨oclaw, odlaw, .func (PySem.W.fnOf "law" "law" (defArgs stlaw) (defBody stlaw) (defScope stlaw) .none kVlaw dclaw pmlaw anlaw cdlaw ctlaw), sllaw⟩)
    (claw : PySem.W.codeIn K cdlaw "law" = true)
    (klaw : PySem.W.keepIn K (.ref flaw) = true)
    (GGg : PySem.W.nsIn K mainGlobals "gcd" = some (some (.builtin "math.gcd")))
    (GD : PySem.W.nsIn K mainGlobals "DIGITS" = some (some (.str "0123456789" tkD)))
    (GM : PySem.W.nsIn K mainGlobals "MOST_DIGITS" = some (some (.int 4000 tkM)))
    (GL : PySem.W.nsIn K mainGlobals "LETTERS" = some (some (.str "abcdefghijklmnopqrstuvwxyz" tkL)))
    (GN : PySem.W.nsIn K mainGlobals "LONGEST_NAME" = some (some (.int 12 tkN)))
    (GB : PySem.W.nsIn K mainGlobals "MOST_BASE" = some (some (.int 6 tkB)))
    (ND : digB K = true)
    (BT0 : bltB K = true) :
    ∃ fd : FuncData, (∀ (s : Shared) (v : Value), BindsTo s fd ⟨[v], []⟩ [("_law_script", v)]) ∧ ∀ base : Heap, K.In base → base.Ns mainGlobals mg → FnG l.prog w K mg base CX0 10 fa fd ["_law_script"] (spLaw K) := by
  have e := hfa.symm.trans (PySem.W.mg_of X G alaw)
  cases e
  have F_law_pen := fun_mk (st := st_law_pen) l_law_pen c_law_pen k_law_pen
  have D_law_pen : DefAt K mg "_law_pen" st_law_pen ["_law_script"] f_law_pen _ := ⟨F_law_pen, PySem.W.mg_of X G a_law_pen, F_law_pen.binds (ps := ["_law_script"]) fun _ _ _ _ _ _ us hl => match us, hl with | [_], _ => rfl⟩
  have F_law_draw := fun_mk (st := st_law_draw) l_law_draw c_law_draw k_law_draw
  have D_law_draw : DefAt K mg "_law_draw" st_law_draw ["_law_pen_here", "_law_many"] f_law_draw _ := ⟨F_law_draw, PySem.W.mg_of X G a_law_draw, F_law_draw.binds (ps := ["_law_pen_here", "_law_many"]) fun _ _ _ _ _ _ us hl => match us, hl with | [_, _], _ => rfl⟩
  have F_law_pick := fun_mk (st := st_law_pick) l_law_pick c_law_pick k_law_pick
  have D_law_pick : DefAt K mg "_law_pick" st_law_pick ["_law_pen_here", "_law_some"] f_law_pick _ := ⟨F_law_pick, PySem.W.mg_of X G a_law_pick, F_law_pick.binds (ps := ["_law_pen_here", "_law_some"]) fun _ _ _ _ _ _ us hl => match us, hl with | [_, _], _ => rfl⟩
  have F_law_big := fun_mk (st := st_law_big) l_law_big c_law_big k_law_big
  have D_law_big : DefAt K mg "_law_big" st_law_big ["_law_pen_here", "_law_figures"] f_law_big _ := ⟨F_law_big, PySem.W.mg_of X G a_law_big, F_law_big.binds (ps := ["_law_pen_here", "_law_figures"]) fun _ _ _ _ _ _ us hl => match us, hl with | [_, _], _ => rfl⟩
  have Fis_whole := fun_mk (st := stis_whole) lis_whole cis_whole kis_whole
  have Dis_whole : DefAt K mg "is_whole" stis_whole ["value"] fis_whole _ := ⟨Fis_whole, PySem.W.mg_of X G ais_whole, Fis_whole.binds (ps := ["value"]) fun _ _ _ _ _ _ us hl => match us, hl with | [_], _ => rfl⟩
  have Fare_integers := fun_mk (st := stare_integers) lare_integers care_integers kare_integers
  have Dare_integers : DefAt K mg "are_integers" stare_integers ["items"] fare_integers _ := ⟨Fare_integers, PySem.W.mg_of X G aare_integers, Fare_integers.binds (ps := ["items"]) fun _ _ _ _ _ _ us hl => match us, hl with | [_], _ => rfl⟩
  have Flowest := fun_mk (st := stlowest) llowest clowest klowest
  have Dlowest : DefAt K mg "lowest" stlowest ["top", "bottom"] flowest _ := ⟨Flowest, PySem.W.mg_of X G alowest, Flowest.binds (ps := ["top", "bottom"]) fun _ _ _ _ _ _ us hl => match us, hl with | [_, _], _ => rfl⟩
  have Fratio_product := fun_mk (st := stratio_product) lratio_product cratio_product kratio_product
  have Dratio_product : DefAt K mg "ratio_product" stratio_product ["one", "other"] fratio_product _ := ⟨Fratio_product, PySem.W.mg_of X G aratio_product, Fratio_product.binds (ps := ["one", "other"]) fun _ _ _ _ _ _ us hl => match us, hl with | [_, _], _ => rfl⟩
  have Fwhole_power := fun_mk (st := stwhole_power) lwhole_power cwhole_power kwhole_power
  have Dwhole_power : DefAt K mg "whole_power" stwhole_power ["base", "n"] fwhole_power _ := ⟨Fwhole_power, PySem.W.mg_of X G awhole_power, Fwhole_power.binds (ps := ["base", "n"]) fun _ _ _ _ _ _ us hl => match us, hl with | [_, _], _ => rfl⟩
  have Fratio_power := fun_mk (st := stratio_power) lratio_power cratio_power kratio_power
  have Dratio_power : DefAt K mg "ratio_power" stratio_power ["ratio", "n"] fratio_power _ := ⟨Fratio_power, PySem.W.mg_of X G aratio_power, Fratio_power.binds (ps := ["ratio", "n"]) fun _ _ _ _ _ _ us hl => match us, hl with | [_, _], _ => rfl⟩
  have Fdigits_end := fun_mk (st := stdigits_end) ldigits_end cdigits_end kdigits_end
  have Ddigits_end : DefAt K mg "digits_end" stdigits_end ["text", "start"] fdigits_end _ := ⟨Fdigits_end, PySem.W.mg_of X G adigits_end, Fdigits_end.binds (ps := ["text", "start"]) fun _ _ _ _ _ _ us hl => match us, hl with | [_, _], _ => rfl⟩
  have Fwrong_column_ratios := fun_mk (st := stwrong_column_ratios) lwrong_column_ratios cwrong_column_ratios kwrong_column_ratios
  have Dwrong_column_ratios : DefAl K mg "wrong_column_ratios" "wrong_column" stwrong_column_ratios ["text"] fwrong_column_ratios _ := ⟨Fwrong_column_ratios, PySem.W.mg_of X G awrong_column_ratios, Fwrong_column_ratios.binds (ps := ["text"]) fun _ _ _ _ _ _ us hl => match us, hl with | [_], _ => rfl⟩
  have Fratio_of := fun_mk (st := stratio_of) lratio_of cratio_of kratio_of
  have Dratio_of : DefAt K mg "ratio_of" stratio_of ["text"] fratio_of _ := ⟨Fratio_of, PySem.W.mg_of X G aratio_of, Fratio_of.binds (ps := ["text"]) fun _ _ _ _ _ _ us hl => match us, hl with | [_], _ => rfl⟩
  have Fis_name := fun_mk (st := stis_name) lis_name cis_name kis_name
  have Dis_name : DefAt K mg "is_name" stis_name ["text"] fis_name _ := ⟨Fis_name, PySem.W.mg_of X G ais_name, Fis_name.binds (ps := ["text"]) fun _ _ _ _ _ _ us hl => match us, hl with | [_], _ => rfl⟩
  have Fis_exponent := fun_mk (st := stis_exponent) lis_exponent cis_exponent kis_exponent
  have Dis_exponent : DefAt K mg "is_exponent" stis_exponent ["text"] fis_exponent _ := ⟨Fis_exponent, PySem.W.mg_of X G ais_exponent, Fis_exponent.binds (ps := ["text"]) fun _ _ _ _ _ _ us hl => match us, hl with | [_], _ => rfl⟩
  have Fnamed_power := fun_mk (st := stnamed_power) lnamed_power cnamed_power knamed_power
  have Dnamed_power : DefAt K mg "named_power" stnamed_power ["word"] fnamed_power _ := ⟨Fnamed_power, PySem.W.mg_of X G anamed_power, Fnamed_power.binds (ps := ["word"]) fun _ _ _ _ _ _ us hl => match us, hl with | [_], _ => rfl⟩
  have Flines_of := fun_mk (st := stlines_of) llines_of clines_of klines_of
  have Dlines_of : DefAt K mg "lines_of" stlines_of ["text"] flines_of _ := ⟨Flines_of, PySem.W.mg_of X G alines_of, Flines_of.binds (ps := ["text"]) fun _ _ _ _ _ _ us hl => match us, hl with | [_], _ => rfl⟩
  have Fratio_word := fun_mk (st := stratio_word) lratio_word cratio_word kratio_word
  have Dratio_word : DefAt K mg "ratio_word" stratio_word ["word"] fratio_word _ := ⟨Fratio_word, PySem.W.mg_of X G aratio_word, Fratio_word.binds (ps := ["word"]) fun _ _ _ _ _ _ us hl => match us, hl with | [_], _ => rfl⟩
  have Fwrong_unit_word := fun_mk (st := stwrong_unit_word) lwrong_unit_word cwrong_unit_word kwrong_unit_word
  have Dwrong_unit_word : DefAt K mg "wrong_unit_word" stwrong_unit_word ["words", "measures"] fwrong_unit_word _ := ⟨Fwrong_unit_word, PySem.W.mg_of X G awrong_unit_word, Fwrong_unit_word.binds (ps := ["words", "measures"]) fun _ _ _ _ _ _ us hl => match us, hl with | [_, _], _ => rfl⟩
  have Fpowers_of := fun_mk (st := stpowers_of) lpowers_of cpowers_of kpowers_of
  have Dpowers_of : DefAt K mg "powers_of" stpowers_of ["words"] fpowers_of _ := ⟨Fpowers_of, PySem.W.mg_of X G apowers_of, Fpowers_of.binds (ps := ["words"]) fun _ _ _ _ _ _ us hl => match us, hl with | [_], _ => rfl⟩
  have Fsize_in := fun_mk (st := stsize_in) lsize_in csize_in ksize_in
  have Dsize_in : DefAt K mg "size_in" stsize_in ["powers", "measures"] fsize_in _ := ⟨Fsize_in, PySem.W.mg_of X G asize_in, Fsize_in.binds (ps := ["powers", "measures"]) fun _ _ _ _ _ _ us hl => match us, hl with | [_, _], _ => rfl⟩
  have Fexponents_in := fun_mk (st := stexponents_in) lexponents_in cexponents_in kexponents_in
  have Dexponents_in : DefAt K mg "exponents_in" stexponents_in ["powers", "measures", "many"] fexponents_in _ := ⟨Fexponents_in, PySem.W.mg_of X G aexponents_in, Fexponents_in.binds (ps := ["powers", "measures", "many"]) fun _ _ _ _ _ _ us hl => match us, hl with | [_, _, _], _ => rfl⟩
  have Fchecked_powers := fun_mk (st := stchecked_powers) lchecked_powers cchecked_powers kchecked_powers
  have Dchecked_powers : DefAt K mg "checked_powers" stchecked_powers ["words", "measures", "ahead"] fchecked_powers _ := ⟨Fchecked_powers, PySem.W.mg_of X G achecked_powers, Fchecked_powers.binds (ps := ["words", "measures", "ahead"]) fun _ _ _ _ _ _ us hl => match us, hl with | [_, _, _], _ => rfl⟩
  have Fread_powers := fun_mk (st := stread_powers) lread_powers cread_powers kread_powers
  have Dread_powers : DefAt K mg "read_powers" stread_powers ["text", "measures"] fread_powers _ := ⟨Fread_powers, PySem.W.mg_of X G aread_powers, Fread_powers.binds (ps := ["text", "measures"]) fun _ _ _ _ _ _ us hl => match us, hl with | [_, _], _ => rfl⟩
  have FU_exp := fun_mk (st := stU_exp) lU_exp cU_exp kU_exp
  have DU_exp : MetA K "exponents_of" "Units.exponents_of" stU_exp ["self", "words"] CUnits fU_exp _ := ⟨FU_exp, FU_exp.binds (ps := ["self", "words"]) fun _ _ _ _ _ _ us hl => match us, hl with | [_, _], _ => rfl, ⟨aU_exp, iU_exp, kU_exp⟩⟩
  have FU_size := fun_mk (st := stU_size) lU_size cU_size kU_size
  have DU_size : MetA K "size_of" "Units.size_of" stU_size ["self", "words"] CUnits fU_size _ := ⟨FU_size, FU_size.binds (ps := ["self", "words"]) fun _ _ _ _ _ _ us hl => match us, hl with | [_, _], _ => rfl, ⟨aU_size, iU_size, kU_size⟩⟩
  have FU_wr := fun_mk (st := stU_wr) lU_wr cU_wr kU_wr
  have DU_wr : MetA K "written" "Units.written" stU_wr ["self", "exponents"] CUnits fU_wr _ := ⟨FU_wr, FU_wr.binds (ps := ["self", "exponents"]) fun _ _ _ _ _ _ us hl => match us, hl with | [_, _], _ => rfl, ⟨aU_wr, iU_wr, kU_wr⟩⟩
  have Fwrong_names_column := fun_mk (st := stwrong_names_column) lwrong_names_column cwrong_names_column kwrong_names_column
  have Dwrong_names_column : DefAt K mg "wrong_names_column" stwrong_names_column ["words", "head", "most"] fwrong_names_column _ := ⟨Fwrong_names_column, PySem.W.mg_of X G awrong_names_column, Fwrong_names_column.binds (ps := ["words", "head", "most"]) fun _ _ _ _ _ _ us hl => match us, hl with | [_, _, _], _ => rfl⟩
  have Fmeasure_of := fun_mk (st := stmeasure_of) lmeasure_of cmeasure_of kmeasure_of
  have Dmeasure_of : DefAt K mg "measure_of" stmeasure_of ["word", "words", "measures", "many"] fmeasure_of _ := ⟨Fmeasure_of, PySem.W.mg_of X G ameasure_of, Fmeasure_of.binds (ps := ["word", "words", "measures", "many"]) fun _ _ _ _ _ _ us hl => match us, hl with | [_, _, _, _], _ => rfl⟩
  have Fbase_measures := fun_mk (st := stbase_measures) lbase_measures cbase_measures kbase_measures
  have Dbase_measures : DefAt K mg "base_measures" stbase_measures ["base"] fbase_measures _ := ⟨Fbase_measures, PySem.W.mg_of X G abase_measures, Fbase_measures.binds (ps := ["base"]) fun _ _ _ _ _ _ us hl => match us, hl with | [_], _ => rfl⟩
  have Fwrong_scale_column := fun_mk (st := stwrong_scale_column) lwrong_scale_column cwrong_scale_column kwrong_scale_column
  have Dwrong_scale_column : DefAt K mg "wrong_scale_column" stwrong_scale_column ["words", "measures", "scales"] fwrong_scale_column _ := ⟨Fwrong_scale_column, PySem.W.mg_of X G awrong_scale_column, Fwrong_scale_column.binds (ps := ["words", "measures", "scales"]) fun _ _ _ _ _ _ us hl => match us, hl with | [_, _, _], _ => rfl⟩
  have Fwrong_column_units := fun_mk (st := stwrong_column_units) lwrong_column_units cwrong_column_units kwrong_column_units
  have Dwrong_column_units : DefAl K mg "wrong_column_units" "wrong_column" stwrong_column_units ["words", "measures", "scales"] fwrong_column_units _ := ⟨Fwrong_column_units, PySem.W.mg_of X G awrong_column_units, Fwrong_column_units.binds (ps := ["words", "measures", "scales"]) fun _ _ _ _ _ _ us hl => match us, hl with | [_, _, _], _ => rfl⟩
  have Fwrong_base_column := fun_mk (st := stwrong_base_column) lwrong_base_column cwrong_base_column kwrong_base_column
  have Dwrong_base_column : DefAt K mg "wrong_base_column" stwrong_base_column ["lines"] fwrong_base_column _ := ⟨Fwrong_base_column, PySem.W.mg_of X G awrong_base_column, Fwrong_base_column.binds (ps := ["lines"]) fun _ _ _ _ _ _ us hl => match us, hl with | [_], _ => rfl⟩
  have F_law_gcd := fun_mk (st := st_law_gcd) l_law_gcd c_law_gcd k_law_gcd
  have D_law_gcd : DefAt K mg "_law_gcd" st_law_gcd ["_law_one", "_law_two"] f_law_gcd _ := ⟨F_law_gcd, PySem.W.mg_of X G a_law_gcd, F_law_gcd.binds (ps := ["_law_one", "_law_two"]) fun _ _ _ _ _ _ us hl => match us, hl with | [_, _], _ => rfl⟩
  have F_law_q := fun_mk (st := st_law_q) l_law_q c_law_q k_law_q
  have D_law_q : DefAt K mg "_law_q" st_law_q ["_law_top", "_law_bottom"] f_law_q _ := ⟨F_law_q, PySem.W.mg_of X G a_law_q, F_law_q.binds (ps := ["_law_top", "_law_bottom"]) fun _ _ _ _ _ _ us hl => match us, hl with | [_, _], _ => rfl⟩
  have F_law_plus := fun_mk (st := st_law_plus) l_law_plus c_law_plus k_law_plus
  have D_law_plus : DefAt K mg "_law_plus" st_law_plus ["_law_one", "_law_two"] f_law_plus _ := ⟨F_law_plus, PySem.W.mg_of X G a_law_plus, F_law_plus.binds (ps := ["_law_one", "_law_two"]) fun _ _ _ _ _ _ us hl => match us, hl with | [_, _], _ => rfl⟩
  have F_law_times := fun_mk (st := st_law_times) l_law_times c_law_times k_law_times
  have D_law_times : DefAt K mg "_law_times" st_law_times ["_law_one", "_law_two"] f_law_times _ := ⟨F_law_times, PySem.W.mg_of X G a_law_times, F_law_times.binds (ps := ["_law_one", "_law_two"]) fun _ _ _ _ _ _ us hl => match us, hl with | [_, _], _ => rfl⟩
  have F_law_power := fun_mk (st := st_law_power) l_law_power c_law_power k_law_power
  have D_law_power : DefAt K mg "_law_power" st_law_power ["_law_one", "_law_n"] f_law_power _ := ⟨F_law_power, PySem.W.mg_of X G a_law_power, F_law_power.binds (ps := ["_law_one", "_law_n"]) fun _ _ _ _ _ _ us hl => match us, hl with | [_, _], _ => rfl⟩
  have F_law_ratio := fun_mk (st := st_law_ratio) l_law_ratio c_law_ratio k_law_ratio
  have D_law_ratio : DefAt K mg "_law_ratio" st_law_ratio ["_law_pen_here", "_law_figures"] f_law_ratio _ := ⟨F_law_ratio, PySem.W.mg_of X G a_law_ratio, F_law_ratio.binds (ps := ["_law_pen_here", "_law_figures"]) fun _ _ _ _ _ _ us hl => match us, hl with | [_, _], _ => rfl⟩
  have F_law_written := fun_mk (st := st_law_written) l_law_written c_law_written k_law_written
  have D_law_written : DefAt K mg "_law_written" st_law_written ["_law_one"] f_law_written _ := ⟨F_law_written, PySem.W.mg_of X G a_law_written, F_law_written.binds (ps := ["_law_one"]) fun _ _ _ _ _ _ us hl => match us, hl with | [_], _ => rfl⟩
  have F_law_other := fun_mk (st := st_law_other) l_law_other c_law_other k_law_other
  have D_law_other : DefAt K mg "_law_other" st_law_other ["_law_pen_here", "_law_ratio_here"] f_law_other _ := ⟨F_law_other, PySem.W.mg_of X G a_law_other, F_law_other.binds (ps := ["_law_pen_here", "_law_ratio_here"]) fun _ _ _ _ _ _ us hl => match us, hl with | [_, _], _ => rfl⟩
  have F_law_size := fun_mk (st := st_law_size) l_law_size c_law_size k_law_size
  have D_law_size : DefAt K mg "_law_size" st_law_size ["_law_pen_here"] f_law_size _ := ⟨F_law_size, PySem.W.mg_of X G a_law_size, F_law_size.binds (ps := ["_law_pen_here"]) fun _ _ _ _ _ _ us hl => match us, hl with | [_], _ => rfl⟩
  have F_law_base_words := fun_mk (st := st_law_base_words) l_law_base_words c_law_base_words k_law_base_words
  have D_law_base_words : DefAt K mg "_law_base_words" st_law_base_words ["_law_units_here", "_law_exponents"] f_law_base_words _ := ⟨F_law_base_words, PySem.W.mg_of X G a_law_base_words, F_law_base_words.binds (ps := ["_law_units_here", "_law_exponents"]) fun _ _ _ _ _ _ us hl => match us, hl with | [_, _], _ => rfl⟩
  have F_law_units_text := fun_mk (st := st_law_units_text) l_law_units_text c_law_units_text k_law_units_text
  have D_law_units_text : DefAt K mg "_law_units_text" st_law_units_text ["_law_pen_here", "_law_units_here"] f_law_units_text _ := ⟨F_law_units_text, PySem.W.mg_of X G a_law_units_text, F_law_units_text.binds (ps := ["_law_pen_here", "_law_units_here"]) fun _ _ _ _ _ _ us hl => match us, hl with | [_, _], _ => rfl⟩
  have FU_init := fun_mk (st := stU_init) lU_init cU_init kU_init
  have DU_init : IniA K "__init__" "Units.__init__" stU_init ["self", "text"] CUnits fU_init _ := ⟨FU_init, FU_init.binds (ps := ["self", "text"]) fun _ _ _ _ _ _ us hl => match us, hl with | [_, _], _ => rfl, ⟨mkUnits, aU_init, iU_init, kcUnits⟩⟩
  have F_law_name := fun_mk (st := st_law_name) l_law_name c_law_name k_law_name
  have D_law_name : DefAt K mg "_law_name" st_law_name ["_law_pen_here", "_law_used"] f_law_name _ := ⟨F_law_name, PySem.W.mg_of X G a_law_name, F_law_name.binds (ps := ["_law_pen_here", "_law_used"]) fun _ _ _ _ _ _ us hl => match us, hl with | [_, _], _ => rfl⟩
  have F_law_names := fun_mk (st := st_law_names) l_law_names c_law_names k_law_names
  have D_law_names : DefAt K mg "_law_names" st_law_names ["_law_pen_here", "_law_many"] f_law_names _ := ⟨F_law_names, PySem.W.mg_of X G a_law_names, F_law_names.binds (ps := ["_law_pen_here", "_law_many"]) fun _ _ _ _ _ _ us hl => match us, hl with | [_, _], _ => rfl⟩
  have F_law_base_units := fun_mk (st := st_law_base_units) l_law_base_units c_law_base_units k_law_base_units
  have D_law_base_units : DefAt K mg "_law_base_units" st_law_base_units ["_law_pen_here", "_law_many"] f_law_base_units _ := ⟨F_law_base_units, PySem.W.mg_of X G a_law_base_units, F_law_base_units.binds (ps := ["_law_pen_here", "_law_many"]) fun _ _ _ _ _ _ us hl => match us, hl with | [_, _], _ => rfl⟩
  have F_law_measure := fun_mk (st := st_law_measure) l_law_measure c_law_measure k_law_measure
  have D_law_measure : DefAt K mg "_law_measure" st_law_measure ["_law_units_here", "_law_pairs_here"] f_law_measure _ := ⟨F_law_measure, PySem.W.mg_of X G a_law_measure, F_law_measure.binds (ps := ["_law_units_here", "_law_pairs_here"]) fun _ _ _ _ _ _ us hl => match us, hl with | [_, _], _ => rfl⟩
  have F_law_pairs := fun_mk (st := st_law_pairs) l_law_pairs c_law_pairs k_law_pairs
  have D_law_pairs : DefAt K mg "_law_pairs" st_law_pairs ["_law_pen_here", "_law_units_here", "_law_most"] f_law_pairs _ := ⟨F_law_pairs, PySem.W.mg_of X G a_law_pairs, F_law_pairs.binds (ps := ["_law_pen_here", "_law_units_here", "_law_most"]) fun _ _ _ _ _ _ us hl => match us, hl with | [_, _, _], _ => rfl⟩
  have F_law_pair_words := fun_mk (st := st_law_pair_words) l_law_pair_words c_law_pair_words k_law_pair_words
  have D_law_pair_words : DefAt K mg "_law_pair_words" st_law_pair_words ["_law_pen_here", "_law_pairs_here"] f_law_pair_words _ := ⟨F_law_pair_words, PySem.W.mg_of X G a_law_pair_words, F_law_pair_words.binds (ps := ["_law_pen_here", "_law_pairs_here"]) fun _ _ _ _ _ _ us hl => match us, hl with | [_, _], _ => rfl⟩
  have F_law_units := fun_mk (st := st_law_units) l_law_units c_law_units k_law_units
  have D_law_units : DefAt K mg "_law_units" st_law_units ["_law_pen_here", "_law_many", "_law_lines"] f_law_units _ := ⟨F_law_units, PySem.W.mg_of X G a_law_units, F_law_units.binds (ps := ["_law_pen_here", "_law_many", "_law_lines"]) fun _ _ _ _ _ _ us hl => match us, hl with | [_, _, _], _ => rfl⟩
  have Flaw := fun_mk (st := stlaw) llaw claw klaw
  have Dlaw : DefAt K mg "law" stlaw ["_law_script"] flaw _ := ⟨Flaw, PySem.W.mg_of X G alaw, Flaw.binds (ps := ["_law_script"]) fun _ _ _ _ _ _ us hl => match us, hl with | [_], _ => rfl⟩
  have Es : ErU K mg CUnits := ⟨PySem.W.mg_of X G GGg, ⟨_, PySem.W.mg_of X G GD, _, rfl⟩, ⟨_, PySem.W.mg_of X G GM, _, rfl⟩, ⟨_, PySem.W.mg_of X G GL, _, rfl⟩, ⟨_, PySem.W.mg_of X G GN, _, rfl⟩, ⟨_, PySem.W.mg_of X G GB, _, rfl⟩, ND, ⟨pgUnits, hdUnits, poUnits, saUnits⟩, nUnitstext, nUnitsbase, nUnitsnames, nUnitsmeasures, nUnitsscales, PySem.W.mg_of X G aCUnits⟩
  exact ⟨_, fun s v => .of_eq rfl, fun base _ _ => FnG.of (oklaw (blt_of X G BT0) Es Dexponents_in Dis_exponent Dis_name Dnamed_power Dpowers_of Dwrong_unit_word Dchecked_powers Dread_powers DU_exp Dbase_measures Dlines_of Dratio_product Dlowest Ddigits_end Dwrong_column_ratios Dratio_of Dratio_word Dwhole_power Dratio_power Dsize_in Dmeasure_of Dwrong_names_column Dwrong_base_column Dwrong_scale_column Dwrong_column_units DU_init DU_size Dis_whole Dare_integers DU_wr D_law_base_words D_law_draw D_law_gcd D_law_q D_law_power D_law_times D_law_measure D_law_pair_words D_law_pick D_law_pairs D_law_pen D_law_name D_law_names D_law_base_units D_law_written D_law_other D_law_plus D_law_big D_law_ratio D_law_size D_law_units D_law_units_text Dlaw)⟩

theorem walk {l : PySem.W.OpenLaw} {q : Program} {loose : List Str} {XP : (Str → Option Value) → Heap → Prop} {YP : World → Heap → Prop} {d : DefRec} {K : Params → PySem.W.Frag} (hn : l.most = some 63) (hdf : d.params.defaults = [])
    (hY : ∀ (w : World) (h : Heap), YP w h → (K w.params).In h)
    (F : ∀ (w : World) (mg : Str → Option Value) (fa : Addr) (h : Heap), (K w.params).In h → h.Ns mainGlobals mg → mg d.name = some (.ref fa) → ∃ fd : FuncData, (∀ (s : Shared) (u : Value), BindsTo s fd ⟨[u], []⟩ [("_law_script", u)]) ∧
      ∀ base : Heap, (K w.params).In base → base.Ns mainGlobals mg → FnG l.prog w (K w.params) mg base CX0 10 fa fd ["_law_script"] (spLaw (K w.params))) : PySem.W.WalkO q loose XP YP l.row.toRowW d [] (fun f vs => PySem.call f vs) :=
  walkG (n := 63) (sp := spLaw) hn (by decide) hdf ⟨rfl, by decide, by decide⟩ hY F (fun K H a ns hl _ hS => ⟨a, ns, rfl, hS, hl, fun _ => rfl⟩)
end AL
open PySem PySem.W PyProof.Rows
set_option maxRecDepth 100000 in
set_option maxHeartbeats 0 in
theorem PySem.Challenge.cw_allscales_k17_units_known_holds : PySem.Challenge.rw_allscales_k17_units_known.Holds := by
  w_on; o_law; k_head; (case hw => w_witness2)
  k_fill
  refine AL.walk (l := PySem.Challenge.rw_allscales_k17_units_known) rfl rfl (fun w h Y => PySem.W.kIn_of Y) ?F
  case F =>
    intro w mg fa h KX G hmg
    refine' AL.all_mk KX G hmg ?aCUnits ?pgUnits ?hdUnits ?poUnits ?saUnits ?mkUnits ?kcUnits ?sfUnits ?q1Units ?q2Units ?q3Units ?q4Units ?nUnitstext ?nUnitsbase ?nUnitsnames ?nUnitsmeasures ?nUnitsscales ?a_law_pen ?l_law_pen ?c_law_pen ?k_law_pen ?a_law_draw ?l_law_draw ?c_law_draw ?k_law_draw ?a_law_pick ?l_law_pick ?c_law_pick ?k_law_pick ?a_law_big ?l_law_big ?c_law_big ?k_law_big ?ais_whole ?lis_whole ?cis_whole ?kis_whole ?aare_integers ?lare_integers ?care_integers ?kare_integers ?alowest ?llowest ?clowest ?klowest ?aratio_product ?lratio_product ?cratio_product ?kratio_product ?awhole_power ?lwhole_power ?cwhole_power ?kwhole_power ?aratio_power ?lratio_power ?cratio_power ?kratio_power ?adigits_end ?ldigits_end ?cdigits_end ?kdigits_end ?awrong_column_ratios ?lwrong_column_ratios ?cwrong_column_ratios ?kwrong_column_ratios ?aratio_of ?lratio_of ?cratio_of ?kratio_of ?ais_name ?lis_name ?cis_name ?kis_name ?ais_exponent ?lis_exponent ?cis_exponent ?kis_exponent ?anamed_power ?lnamed_power ?cnamed_power ?knamed_power ?alines_of ?llines_of ?clines_of ?klines_of ?aratio_word ?lratio_word ?cratio_word ?kratio_word ?awrong_unit_word ?lwrong_unit_word ?cwrong_unit_word ?kwrong_unit_word ?apowers_of ?lpowers_of ?cpowers_of ?kpowers_of ?asize_in ?lsize_in ?csize_in ?ksize_in ?aexponents_in ?lexponents_in ?cexponents_in ?kexponents_in ?achecked_powers ?lchecked_powers ?cchecked_powers ?kchecked_powers ?aread_powers ?lread_powers ?cread_powers ?kread_powers ?aU_exp ?lU_exp ?cU_exp ?kU_exp ?iU_exp ?aU_size ?lU_size ?cU_size ?kU_size ?iU_size ?aU_wr ?lU_wr ?cU_wr ?kU_wr ?iU_wr ?awrong_names_column ?lwrong_names_column ?cwrong_names_column ?kwrong_names_column ?ameasure_of ?lmeasure_of ?cmeasure_of ?kmeasure_of ?abase_measures ?lbase_measures ?cbase_measures ?kbase_measures ?awrong_scale_column ?lwrong_scale_column ?cwrong_scale_column ?kwrong_scale_column ?awrong_column_units ?lwrong_column_units ?cwrong_column_units ?kwrong_column_units ?awrong_base_column ?lwrong_base_column ?cwrong_base_column ?kwrong_base_column ?a_law_gcd ?l_law_gcd ?c_law_gcd ?k_law_gcd ?a_law_q ?l_law_q ?c_law_q ?k_law_q ?a_law_plus ?l_law_plus ?c_law_plus ?k_law_plus ?a_law_times ?l_law_times ?c_law_times ?k_law_times ?a_law_power ?l_law_power ?c_law_power ?k_law_power ?a_law_ratio ?l_law_ratio ?c_law_ratio ?k_law_ratio ?a_law_written ?l_law_written ?c_law_written ?k_law_written ?a_law_other ?l_law_other ?c_law_other ?k_law_other ?a_law_size ?l_law_size ?c_law_size ?k_law_size ?a_law_base_words ?l_law_base_words ?c_law_base_words ?k_law_base_words ?a_law_units_text ?l_law_units_text ?c_law_units_text ?k_law_units_text ?aU_init ?lU_init ?cU_init ?kU_init ?iU_init ?a_law_name ?l_law_name ?c_law_name ?k_law_name ?a_law_names ?l_law_names ?c_law_names ?k_law_names ?a_law_base_units ?l_law_base_units ?c_law_base_units ?k_law_base_units ?a_law_measure ?l_law_measure ?c_law_measure ?k_law_measure ?a_law_pairs ?l_law_pairs ?c_law_pairs ?k_law_pairs ?a_law_pair_words ?l_law_pair_words ?c_law_pair_words ?k_law_pair_words ?a_law_units ?l_law_units ?c_law_units ?k_law_units ?alaw ?llaw ?claw ?klaw ?GGg ?GD ?GM ?GL ?GN ?GB ?ND ?BT0
    (case aCUnits => k_is)
    (case pgUnits => k_is)
    (case hdUnits => k_is)
    (case poUnits => k_is)
    (case saUnits => k_is)
    (case mkUnits => k_is)
    (case kcUnits => k_is)
    (case sfUnits => kernel_rfl)
    (case q1Units => k_is)
    (case q2Units => k_is)
    (case q3Units => k_is)
    (case q4Units => k_is)
    (case nUnitstext => k_is)
    (case nUnitsbase => k_is)
    (case nUnitsnames => k_is)
    (case nUnitsmeasures => k_is)
    (case nUnitsscales => k_is)
    (case a_law_pen => k_is)
    (case l_law_pen => k_is)
    (case c_law_pen => k_is)
    (case k_law_pen => k_is)
    (case a_law_draw => k_is)
    (case l_law_draw => k_is)
    (case c_law_draw => k_is)
    (case k_law_draw => k_is)
    (case a_law_pick => k_is)
    (case l_law_pick => k_is)
    (case c_law_pick => k_is)
    (case k_law_pick => k_is)
    (case a_law_big => k_is)
    (case l_law_big => k_is)
    (case c_law_big => k_is)
    (case k_law_big => k_is)
    (case ais_whole => k_is)
    (case lis_whole => k_is)
    (case cis_whole => k_is)
    (case kis_whole => k_is)
    (case aare_integers => k_is)
    (case lare_integers => k_is)
    (case care_integers => k_is)
    (case kare_integers => k_is)
    (case alowest => k_is)
    (case llowest => k_is)
    (case clowest => k_is)
    (case klowest => k_is)
    (case aratio_product => k_is)
    (case lratio_product => k_is)
    (case cratio_product => k_is)
    (case kratio_product => k_is)
    (case awhole_power => k_is)
    (case lwhole_power => k_is)
    (case cwhole_power => k_is)
    (case kwhole_power => k_is)
    (case aratio_power => k_is)
    (case lratio_power => k_is)
    (case cratio_power => k_is)
    (case kratio_power => k_is)
    (case adigits_end => k_is)
    (case ldigits_end => k_is)
    (case cdigits_end => k_is)
    (case kdigits_end => k_is)
    (case awrong_column_ratios => k_is)
    (case lwrong_column_ratios => k_is)
    (case cwrong_column_ratios => k_is)
    (case kwrong_column_ratios => k_is)
    (case aratio_of => k_is)
    (case lratio_of => k_is)
    (case cratio_of => k_is)
    (case kratio_of => k_is)
    (case ais_name => k_is)
    (case lis_name => k_is)
    (case cis_name => k_is)
    (case kis_name => k_is)
    (case ais_exponent => k_is)
    (case lis_exponent => k_is)
    (case cis_exponent => k_is)
    (case kis_exponent => k_is)
    (case anamed_power => k_is)
    (case lnamed_power => k_is)
    (case cnamed_power => k_is)
    (case knamed_power => k_is)
    (case alines_of => k_is)
    (case llines_of => k_is)
    (case clines_of => k_is)
    (case klines_of => k_is)
    (case aratio_word => k_is)
    (case lratio_word => k_is)
    (case cratio_word => k_is)
    (case kratio_word => k_is)
    (case awrong_unit_word => k_is)
    (case lwrong_unit_word => k_is)
    (case cwrong_unit_word => k_is)
    (case kwrong_unit_word => k_is)
    (case apowers_of => k_is)
    (case lpowers_of => k_is)
    (case cpowers_of => k_is)
    (case kpowers_of => k_is)
    (case asize_in => k_is)
    (case lsize_in => k_is)
    (case csize_in => k_is)
    (case ksize_in => k_is)
    (case aexponents_in => k_is)
    (case lexponents_in => k_is)
    (case cexponents_in => k_is)
    (case kexponents_in => k_is)
    (case achecked_powers => k_is)
    (case lchecked_powers => k_is)
    (case cchecked_powers => k_is)
    (case kchecked_powers => k_is)
    (case aread_powers => k_is)
    (case lread_powers => k_is)
    (case cread_powers => k_is)
    (case kread_powers => k_is)
    (case aU_exp => k_is)
    (case lU_exp => k_is)
    (case cU_exp => k_is)
    (case kU_exp => k_is)
    (case iU_exp => k_is)
    (case aU_size => k_is)
    (case lU_size => k_is)
    (case cU_size => k_is)
    (case kU_size => k_is)
    (case iU_size => k_is)
    (case aU_wr => k_is)
    (case lU_wr => k_is)
    (case cU_wr => k_is)
    (case kU_wr => k_is)
    (case iU_wr => k_is)
    (case awrong_names_column => k_is)
    (case lwrong_names_column => k_is)
    (case cwrong_names_column => k_is)
    (case kwrong_names_column => k_is)
    (case ameasure_of => k_is)
    (case lmeasure_of => k_is)
    (case cmeasure_of => k_is)
    (case kmeasure_of => k_is)
    (case abase_measures => k_is)
    (case lbase_measures => k_is)
    (case cbase_measures => k_is)
    (case kbase_measures => k_is)
    (case awrong_scale_column => k_is)
    (case lwrong_scale_column => k_is)
    (case cwrong_scale_column => k_is)
    (case kwrong_scale_column => k_is)
    (case awrong_column_units => k_is)
    (case lwrong_column_units => k_is)
    (case cwrong_column_units => k_is)
    (case kwrong_column_units => k_is)
    (case awrong_base_column => k_is)
    (case lwrong_base_column => k_is)
    (case cwrong_base_column => k_is)
    (case kwrong_base_column => k_is)
    (case a_law_gcd => k_is)
    (case l_law_gcd => k_is)
    (case c_law_gcd => k_is)
    (case k_law_gcd => k_is)
    (case a_law_q => k_is)
    (case l_law_q => k_is)
    (case c_law_q => k_is)
    (case k_law_q => k_is)
    (case a_law_plus => k_is)
    (case l_law_plus => k_is)
    (case c_law_plus => k_is)
    (case k_law_plus => k_is)
    (case a_law_times => k_is)
    (case l_law_times => k_is)
    (case c_law_times => k_is)
    (case k_law_times => k_is)
    (case a_law_power => k_is)
    (case l_law_power => k_is)
    (case c_law_power => k_is)
    (case k_law_power => k_is)
    (case a_law_ratio => k_is)
    (case l_law_ratio => k_is)
    (case c_law_ratio => k_is)
    (case k_law_ratio => k_is)
    (case a_law_written => k_is)
    (case l_law_written => k_is)
    (case c_law_written => k_is)
    (case k_law_written => k_is)
    (case a_law_other => k_is)
    (case l_law_other => k_is)
    (case c_law_other => k_is)
    (case k_law_other => k_is)
    (case a_law_size => k_is)
    (case l_law_size => k_is)
    (case c_law_size => k_is)
    (case k_law_size => k_is)
    (case a_law_base_words => k_is)
    (case l_law_base_words => k_is)
    (case c_law_base_words => k_is)
    (case k_law_base_words => k_is)
    (case a_law_units_text => k_is)
    (case l_law_units_text => k_is)
    (case c_law_units_text => k_is)
    (case k_law_units_text => k_is)
    (case aU_init => k_is)
    (case lU_init => k_is)
    (case cU_init => k_is)
    (case kU_init => k_is)
    (case iU_init => k_is)
    (case a_law_name => k_is)
    (case l_law_name => k_is)
    (case c_law_name => k_is)
    (case k_law_name => k_is)
    (case a_law_names => k_is)
    (case l_law_names => k_is)
    (case c_law_names => k_is)
    (case k_law_names => k_is)
    (case a_law_base_units => k_is)
    (case l_law_base_units => k_is)
    (case c_law_base_units => k_is)
    (case k_law_base_units => k_is)
    (case a_law_measure => k_is)
    (case l_law_measure => k_is)
    (case c_law_measure => k_is)
    (case k_law_measure => k_is)
    (case a_law_pairs => k_is)
    (case l_law_pairs => k_is)
    (case c_law_pairs => k_is)
    (case k_law_pairs => k_is)
    (case a_law_pair_words => k_is)
    (case l_law_pair_words => k_is)
    (case c_law_pair_words => k_is)
    (case k_law_pair_words => k_is)
    (case a_law_units => k_is)
    (case l_law_units => k_is)
    (case c_law_units => k_is)
    (case k_law_units => k_is)
    (case alaw => k_is)
    (case llaw => k_is)
    (case claw => k_is)
    (case klaw => k_is)
    (case GGg => k_is)
    (case GD => k_is)
    (case GM => k_is)
    (case GL => k_is)
    (case GN => k_is)
    (case GB => k_is)
    (case ND => kernel_rfl)
    (case BT0 => kernel_rfl)
#print axioms PySem.Challenge.cw_allscales_k17_units_known_holds
