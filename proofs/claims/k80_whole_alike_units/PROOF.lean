import PyProof.Rows.All
import Wide.All
import OpenK.AllK
import Wide.FinOn
import HandS.ForMost
import HandS.IsInst
import HandS.ExcInit
import HandS.ExcValue
import HandS.ExcField
import HandS.ExcIs
import HandS.Evl
import HandS.ForExc
import HandS.TryMany
import HandS.Wide
import HandS.Gcd
import HandS.FStr
import HandS.WideBits
import PyProof.StrReplace2
import HandS.Codes
import HandS.StrMore
import PyProof.TupleOfStr
import HandS.Zip
import HandS.Lambda
import HandS.OwnEq
import KE.KEqDeep
import HandS.Walk
import HandS.DictTup
import HandS.TupLe
import HandS.Keys
import HandS.Conv
import KE.KDictPairs
import HandS.TupSets
import KE.GoesMore
import KE.GoesZip
import KE.GoesEnum
import HandS.Flow
import HandS.Defaults
import HandS.Iter
import HandS.Style
import HandS.EndTab
import PySem.Challenge.RW_allscales_k80_whole_alike_units
set_option Elab.async false
set_option maxRecDepth 100000
/-! The pen that the laws draw from: a dict with five entries over a copy of the script. -/
namespace AL
open PySem L2

/-- all but what stands at p stays -/
def Keep (p : Addr) (H H' : Hp) : Prop := ∀ b o, b ≠ p → H b = some o → H' b = some o
theorem Keep.refl (p : Addr) (H : Hp) : Keep p H H := fun _ _ _ h => h
theorem Keep.trans {p : Addr} {H H1 H2 : Hp} (a : Keep p H H1) (b : Keep p H1 H2) : Keep p H H2 := fun c o n h => b c o n (a c o n h)
theorem Keep.upd {p : Addr} {H : Hp} {o : HO} : Keep p H (upd H p o) := fun b u n e => by rw [upd_ne n]; exact e
theorem Keep.new {p q : Addr} {H : Hp} {o : HO} (h : H q = none) : Keep p H (L2.upd H q o) := fun b u _ e => by
  rw [upd_ne (ne_of_none e h)]; exact e

def penK (c : Addr) (i d n f : Int) : List (Key × V) :=
  [(.inr "cells", .ref c), (.inr "at", .int i), (.inr "digits", .int d), (.inr "count", .int n), (.inr "fold", .int f)]
section
variable {c : Addr} {i d n f x : Int}
theorem pen_cells : valV (penK c i d n f) (Sum.inr "cells" : Key) = some (.ref c) := by kernel_rfl
theorem pen_at : valV (penK c i d n f) (Sum.inr "at" : Key) = some (.int i) := by kernel_rfl
theorem pen_digits : valV (penK c i d n f) (Sum.inr "digits" : Key) = some (.int d) := by kernel_rfl
theorem pen_count : valV (penK c i d n f) (Sum.inr "count" : Key) = some (.int n) := by kernel_rfl
theorem pen_fold : valV (penK c i d n f) (Sum.inr "fold" : Key) = some (.int f) := by kernel_rfl
theorem put_at : putK (penK c i d n f) (Sum.inr "at" : Key) (.int x) = penK c x d n f := by kernel_rfl
theorem put_digits : putK (penK c i d n f) (Sum.inr "digits" : Key) (.int x) = penK c i x n f := by kernel_rfl
theorem put_count : putK (penK c i d n f) (Sum.inr "count" : Key) (.int x) = penK c i d x f := by kernel_rfl
theorem put_fold : putK (penK c i d n f) (Sum.inr "fold" : Key) (.int x) = penK c i d n x := by kernel_rfl
theorem pen_len : (penK c i d n f).length = 5 := rfl
end
/-- a pen stands at p, its cells at c; it has drawn at most m times -/
structure Pen (H : Hp) (p c : Addr) (m : Nat) : Prop where
  ex : ∃ (ns : List Int) (i d n f : Int), H p = some (.dK (penK c i d n f)) ∧ H c = some (.lst (ns.map V.int)) ∧ 0 ≤ i ∧ 0 ≤ d ∧ 0 ≤ n ∧ n ≤ (m : Int) ∧ 0 ≤ f ∧ f < 2147483648
theorem Pen.mono {H : Hp} {p c : Addr} {m m' : Nat} (h : Pen H p c m) (l : m ≤ m') : Pen H p c m' := by
  obtain ⟨ns, i, d, n, f, h1, h2, h3, h4, h5, h6, h7, h8⟩ := h.ex
  exact ⟨ns, i, d, n, f, h1, h2, h3, h4, h5, by omega, h7, h8⟩
theorem Pen.keep {H H' : Hp} {p c : Addr} {m : Nat} (h : Pen H p c m) (k1 : ∀ o, H p = some o → H' p = some o) (k2 : ∀ o, H c = some o → H' c = some o) : Pen H' p c m := by
  obtain ⟨ns, i, d, n, f, h1, h2, hr⟩ := h.ex
  exact ⟨ns, i, d, n, f, k1 _ h1, k2 _ h2, hr⟩
theorem Pen.same {H H' : Hp} {p c : Addr} {m : Nat} (h : Pen H p c m) (k : Same H H') : Pen H' p c m := h.keep (fun o e => k _ o e) fun o e => k _ o e
theorem Pen.dict {H : Hp} {p c : Addr} {m : Nat} (h : Pen H p c m) : ∃ kvs, H p = some (.dK kvs) := by
  obtain ⟨ns, i, d, n, f, h1, _⟩ := h.ex
  exact ⟨_, h1⟩
/-- what is no dict and stands, stays -/
theorem Keep.rd {p a : Addr} {H H' : Hp} {kvs : List (Key × V)} {u : HO} (k : Keep p H H') (hp : H p = some (.dK kvs)) (h : Rd H a u) (hu : ∀ l, u ≠ .dK l) : Rd H' a u := by
  rcases h with h | ⟨o, h⟩
  · exact .inl (k a _ (fun z => by rw [z, hp] at h; exact hu _ (Option.some.inj h).symm) h)
  · exact .inr ⟨o, k a _ (fun z => by rw [z, hp] at h; cases h) h⟩
theorem Keep.seqL {K : PySem.W.Frag} {p c a : Addr} {m : Nat} {H H' : Hp} {xs : List V} (k : Keep p H H') (hp : Pen H p c m) (h : SqL K H a xs) : SqL K H' a xs := by
  obtain ⟨kvs, hk⟩ := hp.dict
  rcases h with h | h
  · exact .inl (k.rd hk h (fun l z => by cases z))
  · exact .inr h
theorem Keep.seqT {K : PySem.W.Frag} {p c a : Addr} {m : Nat} {H H' : Hp} {xs : List V} (k : Keep p H H') (hp : Pen H p c m) (h : SqT K H a xs) : SqT K H' a xs := by
  obtain ⟨kvs, hk⟩ := hp.dict
  rcases h with h | h
  · exact .inl (k.rd hk h (fun l z => by cases z))
  · exact .inr h
theorem Keep.at {p c a : Addr} {m : Nat} {H H' : Hp} {o : HO} (k : Keep p H H') (hp : Pen H p c m) (h : H a = some o) (hu : ∀ l, o ≠ .dK l) : H' a = some o := by
  obtain ⟨kvs, hk⟩ := hp.dict
  exact k a _ (fun z => by rw [z, hk] at h; exact hu _ (Option.some.inj h).symm) h
theorem Keep.free {p c a : Addr} {m : Nat} {H H' : Hp} (k : Keep p H H') (hp : Pen H p c m) (hp' : Pen H' p c m) (h : H' a = none) : H a = none := by
  cases e : H a with
  | none => rfl
  | some o =>
    by_cases z : a = p
    · obtain ⟨kvs, hk⟩ := hp'.dict
      rw [z, hk] at h; cases h
    · rw [k a o z e] at h; cases h

/-- a def of the module's top, as it stands behind the top -/
structure DefAt (K : PySem.W.Frag) (mg : Str → Option Value) (x : Str) (st : Stmt) (ps : List Str) (f : Addr) (fd : FuncData) : Prop where
  F : Fun K x x st f fd
  m : mg x = some (.ref f)
  b : Binds K fd ps []
/-! ### the promises -/
/-- _law_pen(script) -/
def spPen (K : PySem.W.Frag) : Sp := fun vs H Q _ => ∃ (a : Addr) (ns : List Int), vs = [.ref a] ∧ SqL K H a (ns.map V.int) ∧ ∀ (p c : Addr) (H' : Hp), H p = none → H c = none → p ≠ c → Pen H' p c 0 → Same H H' → Q (.ref p) H'
/-- _law_draw(pen, many) -/
def spDraw : Sp := fun vs H Q _ => ∃ (p c : Addr) (m : Nat) (k : Int), vs = [.ref p, .int k] ∧ Pen H p c m ∧ m < 1000000000 ∧ 0 < k ∧ k < 1000000000 ∧
  ∀ (r : Int) (H' : Hp), 0 ≤ r → r < k → Pen H' p c (m + 1) → Keep p H H' → Q (.int r) H'
/-- _law_pick(pen, some), some a list -/
def spPick (K : PySem.W.Frag) : Sp := fun vs H Q _ => ∃ (p c a : Addr) (m : Nat) (xs : List V), vs = [.ref p, .ref a] ∧ Pen H p c m ∧ m < 1000000000 ∧ SqL K H a xs ∧ 0 < xs.length ∧ xs.length < 1000000000 ∧
  ∀ (j : Nat) (x : V) (H' : Hp), xs[j]? = some x → Pen H' p c (m + 1) → Keep p H H' → Q x H'
end AL
namespace AL
open PySem L2
theorem dget {H : Hp} {a : Addr} {kvs : List (Key × V)} {k : Key} {v : V} (h : H a = some (.dK kvs)) (e : valV kvs k = some v) : DGet H a (kV k) (some v) := by
  rw [← e]; exact DGet.k h
theorem dput {H : Hp} {a : Addr} {kvs kvs' : List (Key × V)} {k : Key} {v : V} (h : H a = some (.dK kvs)) (hl : kvs.length < sizeLine) (e : putK kvs k v = kvs') : DPut H a (kV k) v (upd H a (.dK kvs')) := by
  rw [← e]; exact DPut.k h hl
theorem fmod_in {a b : Int} (h : 0 < b) : 0 ≤ a.fmod b ∧ a.fmod b < b := by
  rw [Int.fmod_eq_emod_of_nonneg a (Int.le_of_lt h)]
  exact ⟨Int.emod_nonneg _ (by omega), Int.emod_lt_of_pos _ h⟩
theorem fdiv_nn {a b : Int} (ha : 0 ≤ a) (h : 0 < b) : 0 ≤ a.fdiv b := by
  rw [Int.fdiv_eq_ediv_of_nonneg a (Int.le_of_lt h)]
  exact Int.ediv_nonneg ha (Int.le_of_lt h)
theorem map_int {ns : List Int} {i : Nat} {y : V} (hi : (ns.map V.int)[i]? = some y) : ∃ z, ns[i]? = some z ∧ y = V.int z := by
  rw [List.getElem?_map] at hi
  cases e : ns[i]? with
  | none => rw [e] at hi; cases hi
  | some z => rw [e] at hi; exact ⟨z, rfl, (Option.some.inj hi).symm⟩
theorem Same.new {H : Hp} {p : Addr} {o : HO} (h : H p = none) : Same H (upd H p o) := fun b u e => by
  rw [upd_ne (ne_of_none e h)]; exact e
end AL
namespace AL
open PySem L2
/-- the built-in names that the top leaves alone -/
def bltNames : List Str := ["abs", "all", "any", "bool", "dict", "enumerate", "int", "isinstance", "len", "list", "max", "min", "range", "repr", "reversed", "set", "sorted", "str", "sum", "tuple", "zip"]
structure Blt (mg : Str → Option Value) : Prop where
  abs_ : mg "abs" = none
  all_ : mg "all" = none
  any_ : mg "any" = none
  bool_ : mg "bool" = none
  dict_ : mg "dict" = none
  enumerate_ : mg "enumerate" = none
  int_ : mg "int" = none
  isinstance_ : mg "isinstance" = none
  len_ : mg "len" = none
  list_ : mg "list" = none
  max_ : mg "max" = none
  min_ : mg "min" = none
  range_ : mg "range" = none
  repr_ : mg "repr" = none
  reversed_ : mg "reversed" = none
  set_ : mg "set" = none
  sorted_ : mg "sorted" = none
  str_ : mg "str" = none
  sum_ : mg "sum" = none
  tuple_ : mg "tuple" = none
  zip_ : mg "zip" = none
def bltB (K : PySem.W.Frag) : Bool := bltNames.all fun x => decide (PySem.W.nsIn K mainGlobals x = some none)
theorem blt_of {K : PySem.W.Frag} {h : Heap} {mg : Str → Option Value} (X : K.In h) (G : h.Ns mainGlobals mg) (b : bltB K = true) : Blt mg := by
  unfold bltB at b
  have all : ∀ x ∈ bltNames, mg x = none := fun x hx => PySem.W.mg_none_of X G (of_decide_eq_true (List.all_eq_true.mp b x hx))
  exact ⟨all _ (by simp [bltNames]), all _ (by simp [bltNames]), all _ (by simp [bltNames]), all _ (by simp [bltNames]), all _ (by simp [bltNames]), all _ (by simp [bltNames]), all _ (by simp [bltNames]), all _ (by simp [bltNames]), all _ (by simp [bltNames]), all _ (by simp [bltNames]), all _ (by simp [bltNames]), all _ (by simp [bltNames]), all _ (by simp [bltNames]), all _ (by simp [bltNames]), all _ (by simp [bltNames]), all _ (by simp [bltNames]), all _ (by simp [bltNames]), all _ (by simp [bltNames]), all _ (by simp [bltNames]), all _ (by simp [bltNames]), all _ (by simp [bltNames])⟩
end AL
set_option Elab.async false
set_option maxRecDepth 100000
namespace AL
open PySem L2 PySem.NumText
theorem digitsVal_app (a b : List Nat) : digitsVal (a ++ b) = digitsVal a * 10 ^ b.length + digitsVal b := by
  have key : ∀ (n : Nat) (b : List Nat), b.length = n → digitsVal (a ++ b) = digitsVal a * 10 ^ b.length + digitsVal b := by
    intro n
    induction n with
    | zero =>
      intro b hb
      have : b = [] := List.length_eq_zero_iff.mp hb
      subst this
      simp [digitsVal]
    | succ n ih =>
      intro b hb
      have hne : b ≠ [] := fun z => by rw [z] at hb; cases hb
      obtain ⟨i, c, rfl⟩ : ∃ i c, b = i ++ [c] := ⟨b.dropLast, b.getLast hne, (List.dropLast_concat_getLast hne).symm⟩
      have hi : i.length = n := by simpa using hb
      rw [← List.append_assoc, digitsVal_snoc, ih i hi, digitsVal_snoc, List.length_append, List.length_singleton, Nat.pow_succ, Nat.add_mul, Nat.mul_assoc]
      omega
  exact key _ b rfl
theorem digitsVal_lt : ∀ (n : Nat) (b : List Nat), b.length = n → AllDigits b → digitsVal b < 10 ^ n
  | 0, b, hl, _ => by
    have : b = [] := List.length_eq_zero_iff.mp hl
    subst this; decide
  | n + 1, b, hl, h => by
    cases b with
    | nil => simp at hl
    | cons c b =>
      have hc := h.head
      have ih := digitsVal_lt n b (by simpa using hl) h.tail
      have e := digitsVal_app [c] b
      rw [List.singleton_append] at e
      have e1 : digitsVal [c] = c - 48 := by show 0 * 10 + (c - 48) = c - 48; omega
      have hl' : b.length = n := by simpa using hl
      rw [e, e1, hl', Nat.pow_succ]
      have : (c - 48) * 10 ^ n ≤ 9 * 10 ^ n := Nat.mul_le_mul_right _ (by omega)
      omega
/-- the last k signs of a number's text -/
theorem last_digits {n k : Nat} (hk : 0 < k) (hl : (TL.numL n).length ≤ 640) :
    (cutS (Str.ofString (toString ((n : Nat) : Int))) (some (-(k : Int))) none).length ≤ 640 ∧
    intText? (cutS (Str.ofString (toString ((n : Nat) : Int))) (some (-(k : Int))) none) = some ((n % 10 ^ k : Nat) : Int) := by
  have htl : (Str.ofString (toString ((n : Nat) : Int))).cps.toList = TL.numL n := TL.tl_num n
  have hlen : (Str.ofString (toString ((n : Nat) : Int))).length = (TL.numL n).length := by rw [TL.len_tl]; exact congrArg List.length (TL.tl_num n)
  have e : (cutS (Str.ofString (toString ((n : Nat) : Int))) (some (-(k : Int))) none).cps.toList = (TL.numL n).drop ((TL.numL n).length - k) := by
    unfold cutS
    rw [htl, hlen]
    have h1 : HT.sIx (TL.numL n).length 0 (some (-(k : Int))) = (TL.numL n).length - k := by
      show (if (-(k : Int)) < 0 then ((-(k : Int)) + ((TL.numL n).length : Int)).toNat else _) = _
      rw [if_pos (by omega)]
      omega
    have h2 : HT.sIx (TL.numL n).length (TL.numL n).length none = (TL.numL n).length := by
      unfold HT.sIx
      simp
    rw [h1, h2]
    simp
    apply List.take_of_length_le
    simp
  have hd := TL.numL_digits n
  have hne := TL.numL_ne n
  have hv := TL.numL_val n
  generalize TL.numL n = l at *
  have hl0 : 0 < l.length := List.length_pos_iff.mpr hne
  have len : (cutS (Str.ofString (toString ((n : Nat) : Int))) (some (-(k : Int))) none).length = (l.drop (l.length - k)).length := by
    rw [← e]; exact Array.length_toList.symm
  have hle : (l.drop (l.length - k)).length ≤ k := by rw [List.length_drop]; omega
  have hdd : AllDigits (l.drop (l.length - k)) := fun c hc => hd c (List.mem_of_mem_drop hc)
  refine ⟨by rw [len, List.length_drop]; omega, ?_⟩
  rw [intText_digits (by rw [e]; exact hdd) (by rw [e]; intro z; have := congrArg List.length z; rw [List.length_drop] at this; simp at this; omega) (by rw [len, List.length_drop]; omega), e]
  congr 2
  have hap := digitsVal_app (l.take (l.length - k)) (l.drop (l.length - k))
  rw [List.take_append_drop, hv] at hap
  have hlt := digitsVal_lt _ _ rfl hdd
  by_cases hkl : k ≤ l.length
  · have : (l.drop (l.length - k)).length = k := by rw [List.length_drop]; omega
    rw [this] at hap hlt
    rw [hap, Nat.mul_comm, Nat.mul_add_mod, Nat.mod_eq_of_lt hlt]
  · have z : l.length - k = 0 := by omega
    rw [z] at hap hlt ⊢
    simp [digitsVal] at hap
    have : n < 10 ^ k := Nat.lt_of_lt_of_le (by rw [List.drop_zero] at hlt; rw [← hv]; exact hlt) (Nat.pow_le_pow_right (by decide) (by omega))
    rw [List.drop_zero, hv, Nat.mod_eq_of_lt this]
end AL
namespace AL
open PySem L2 PySem.NumText
theorem log2_small {n k : Nat} (hk : 0 < k) (h : n < 2 ^ k) : n.log2 < k := by
  by_cases z : n = 0
  · subst z; simpa using hk
  · exact (Nat.log2_lt z).mpr h
theorem pow402 : (10 : Nat) ^ 402 < 2 ^ 1920 := by decide +kernel
theorem thousand (i : Nat) : (1000 : Nat) ^ i = 10 ^ (3 * i) := by rw [Nat.pow_mul]
/-- _law_big(pen, figures) -/
def spBig : Sp := fun vs H Q _ => ∃ (p c : Addr) (m : Nat) (k : Nat), vs = [.ref p, .int (k : Int)] ∧ Pen H p c m ∧ m < 900000000 ∧ 0 < k ∧ k ≤ 400 ∧
  ∀ (r : Nat) (H' : Hp), r < 10 ^ k → Pen H' p c (m + 200) → Keep p H H' → Q (.int (r : Int)) H'
/-- _law_name(pen, used), used a new empty list -/
def spName0 : Sp := fun vs H Q _ => ∃ (p c a : Addr) (m : Nat), vs = [.ref p, .ref a] ∧ Pen H p c m ∧ a ≠ c ∧ m < 900000000 ∧ H a = some (.lst []) ∧
  ∀ (z : Str) (H' : Hp), z.length ≤ 8 → (∀ c ∈ z.cps.toList, c < 128) → Pen H' p c (m + 200) → Keep p (upd H a (.lst [.str z])) H' → Q (.str z) H'
theorem app_tl {z : Str} {c : Nat} : (z ++ (⟨#[c]⟩ : Str)).cps.toList = z.cps.toList ++ [c] := by
  show (z.cps ++ #[c]).toList = _
  rw [Array.toList_append]
theorem pick_of {xs : List V} {P : V → Prop} (h : ∀ x ∈ xs, P x) {j : Nat} {x : V} (e : xs[j]? = some x) : P x := h x (List.mem_of_getElem? e)
end AL
set_option Elab.async false
set_option maxRecDepth 100000
set_option maxHeartbeats 2000000
/-! Defs that ask repr: their promises hold where no repr is under way. -/
namespace AL
open PySem PySem.Spec PyProof.Rows L2

/-- a def's promise, kept wherever no guard stands around -/
structure FnG (P : Program) (w : World) (K : PySem.W.Frag) (mg : Str → Option Value) (base : Heap) (CX : CXT) (k : Nat) (f : Addr) (fd : FuncData) (ps : List Str) (sp : Sp) : Prop where
  len : ∀ xs H Q E, sp xs H Q E → xs.length = ps.length
  run : ∀ (A : Around) (ol : List Env) (s : Shared) (H : Hp) (ar : Args) (us : List Value) (xs : List V) (Q : VK) (E : XK), A.guards = some [] → Room k A → Env0 P w K mg base A ol s H →
    BindsTo s fd ar (ps.zip us) → Vals xs us → sp xs H Q E → codeAny (model P w) A (.call (.ref f) ar) (CR CX ol P w H s Q E) s

theorem FnG.of {P : Program} {w : World} {K : PySem.W.Frag} {mg : Str → Option Value} {base : Heap} {CX : CXT} {k : Nat} {f : Addr} {fd : FuncData} {ps : List Str} {sp : Sp}
    (F : FnOk P w K mg base CX k f fd ps sp) : FnG P w K mg base CX k f fd ps sp :=
  ⟨F.len, fun A ol s H ar us xs Q E _ r e b v h => F.run A ol s H ar us xs Q E r e b v h⟩

/-- a def of the text, by its body -/
theorem okGX {P : Program} {w : World} {K : PySem.W.Frag} {mg : Str → Option Value} {base : Heap} {x qual : Str} {st : Stmt} {f : Addr} {fd : FuncData} {N ps : List Str} {CX : CXT} {k : Nat} {sp : Sp}
    (F : Fun K x qual st f fd) (S : FnScope N ps (defScope st)) (len : ∀ xs H Q E, sp xs H Q E → xs.length = ps.length)
    (body : ∀ (cv : Value) (A : Around) (ol : List Env) (s : Shared) (H : Hp) (xs : List V) (Q : VK) (E : XK), A.guards = some [] → Room k (A.deeper (envOfC qual (defScope st) s.heap.objs.size f cv)) →
      sp xs H Q E → ∃ t, PSs (cxOf CX P w K mg base N qual (defScope st) f cv A ol s H E) (defBody st) t ∧ t { nx := fun _ H' => Q .non H', rt := Q } (start N xs) H) :
    FnG P w K mg base CX (k + 1) f fd ps sp := by
  obtain ⟨c0, d0, kw0, dc0, pm0, an0, cv, ct0, sl0, efd, look, code⟩ := F.ex
  subst efd
  constructor
  · exact len
  · intro A ol s H ar us xs Q E gd room e0 bd vals wish
    have here : K.In s.heap := e0.mod.kin.keeps fun b o z => (e0.bs b o z).1
    have free : s.heap.NoLimit := e0.mod.nolimit.keeps fun b o z => (e0.bs b o z).1
    have kinds : ∀ y ∈ ps.zip us, (defScope st).names.lookup y.1 = some .local ∨ ((defScope st).names.lookup y.1 = some .cell ∧ ((cellsFrom (s.heap.objs.size + 1) (defScope st).names []).lookup y.1).isSome = true) := by
      rintro ⟨n, v⟩ hy
      cases S.par n (List.of_mem_zip hy).1 with
      | inl q => exact .inl q
      | inr q => exact .inr ⟨q, PySem.W.cellsFrom_some _ _ _ (.inl q)⟩
    refine codeAny_call_function room.depth (here _ _ look) rfl S.co S.gen rfl (PySem.W.codeRec_of here code) (bd _ _ _ _ (wpAny_newFunctionEnv_cells S.kind kinds fun env hv s1 ic => ?_))
    subst hv
    refine ⟨free.keeps ic.toInCall.keep, codeAny_func ?_⟩
    obtain ⟨t, run, rd⟩ := body cv A ol s H xs Q E gd (room.deeper _) wish
    have I0 := inv_start (CX := CX) (P := P) (w := w) (cd := cv) (E := E) S room.hd e0 (len _ _ _ _ wish) vals ic
    refine wpAny_mono (run.run [] s1 _ H _ I0 rd) (fun fl s2 z => ?_) fun _ _ z => z
    cases fl with
    | brk => obtain ⟨_, _, _, no⟩ := z; exact no.elim
    | cont => obtain ⟨_, _, _, no⟩ := z; exact no.elim
    | next =>
      obtain ⟨σ2, H2, J, q⟩ := z
      exact ⟨V.non, H2, J.os, J.bare, J.base, J.hok, rfl, q⟩
    | ret u =>
      obtain ⟨v, σ2, H2, J, rv, q⟩ := z
      exact ⟨v, H2, J.os, J.bare, J.base, J.hok, rv, q⟩

/-- .. of which nothing that is raised leaves it -/
theorem okG {P : Program} {w : World} {K : PySem.W.Frag} {mg : Str → Option Value} {base : Heap} {x qual : Str} {st : Stmt} {f : Addr} {fd : FuncData} {N ps : List Str} {k : Nat} {sp : Sp}
    (F : Fun K x qual st f fd) (S : FnScope N ps (defScope st)) (len : ∀ xs H Q E, sp xs H Q E → xs.length = ps.length)
    (body : ∀ (cv : Value) (A : Around) (ol : List Env) (s : Shared) (H : Hp) (xs : List V) (Q : VK) (E : XK), A.guards = some [] → Room k (A.deeper (envOfC qual (defScope st) s.heap.objs.size f cv)) →
      sp xs H Q E → ∃ t, PSs (cxOf CX0 P w K mg base N qual (defScope st) f cv A ol s H E).nox (defBody st) t ∧ t { nx := fun _ H' => Q .non H', rt := Q } (start N xs) H) :
    FnG P w K mg base CX0 (k + 1) f fd ps sp := by
  refine okGX F S len fun cv A ol s H xs Q E gd room wish => ?_
  obtain ⟨t, run, rd⟩ := body cv A ol s H xs Q E gd room wish
  exact ⟨t, run.nox, rd⟩

section
variable {X : Cx} {CX : CXT} {k : Nat} {f : Addr} {fd : FuncData} {ps : List Str} {sp : Sp} {E : XK} {x : Str} {p pos : Pos} {e : Expr} {es : List Expr} {t : TA}
/-- f(e, ..) where no guard stands -/
theorem pe_callG (F : FnG X.prog X.w X.K X.mg X.base CX k f fd ps sp) (gd : X.A.guards = some []) (room : Room k X.A) (hg : Gl X x) (hm : X.mg x = some (.ref f)) (kp : PySem.W.keepIn X.K (.ref f) = true) (hb : Binds X.K fd ps [])
    (out : Passes CX X E) (ha : PA X (e :: es) t) (nd : (x == ("__debug__" : Str)) = false := by decide) (s1 : starEach (e :: es) X.env = (false, eval e X.env) :: starEach es X.env := by rfl)
    (s2 : (backTo pos (starEach es X.env)).any (·.1) = false := by rfl) : PE X (.Call (.Name x p) (e :: es) [] pos) (tCall sp [] E t) := by
  constructor
  intro pins s σ H Q I h
  refine wpAny_Call_Name_kw (ld_glob I hg hm (PySem.W.callWith_K (h₀ := X.base) I.ok.mod.kin kp ?_ s1 s2) nd)
  refine thn (ha.run pos pins s σ H _ I h) fun us s3 ⟨xs, H3, J, rv, q⟩ => ⟨J.kIn, ?_⟩
  have q' : sp xs H3 Q E := by
    have z : sp (xs ++ []) H3 Q E := q
    rw [List.append_nil] at z
    exact z
  have len : us.length = ps.length := by rw [← rv.length]; exact F.len _ _ _ _ q'
  have bd : BindsTo s3 fd ⟨us, []⟩ (ps.zip us) := by
    have z := hb s3 us J.kIn (by rw [List.append_nil]; exact len)
    rw [List.append_nil] at z
    exact z
  refine wpAny_call (codeAny_mono (F.run X.A X.stack s3 H3 ⟨us, []⟩ us xs Q E gd room J.env0 bd rv q') fun r s4 z => ?_)
  cases r with
  | error er => exact out pins σ H3 s3 er s4 J z
  | ok fl =>
    cases fl with
    | ret u => exact J.after z
    | next => exact z.elim
    | brk => exact z.elim
    | cont => exact z.elim
end

/-! ### repr of data -/
/-- repr(x), x a list or a tuple of data -/
def rRepr (K : PySem.W.Frag) : List V → Hp → VK → Prop := fun vs H Q => ∃ (a : Addr) (d : PyData), vs = [.ref a] ∧ Dp K H (.ref a) d ∧ d.showable = true ∧ d.hasDict = false ∧ d.depth ≤ 60 ∧ d.shown.length ≤ sizeLine ∧ Q (.str d.shown) H
theorem call_reprD {X : Cx} (gd : X.A.guards = some []) (hu : X.A.units + 64 < cLine) : CallR X (.builtin "repr") (rRepr X.K) := by
  intro pins s σ H vs us Q I r h
  obtain ⟨a, d, rfl, hd, h1, h2, h3, h4, q⟩ := h
  obtain ⟨u, rfl, ru⟩ := vals1 r
  obtain rfl : u = Value.ref a := ru
  obtain ⟨as, rd⟩ := Dp.reads I d (.ref a) (.ref a) hd rfl
  exact repr_of_reads' rd h1 (PyData.noDict_hsm h2) gd (by omega) (fun _ _ z => z) (fun h' u tk kk => ⟨.str d.shown, H, I.kept (t' := tk) kk, ⟨u, rfl⟩, q⟩) h4
end AL
set_option Elab.async false
set_option maxRecDepth 100000
set_option maxHeartbeats 4000000
/-! Own exceptions held as values: made, their fields read, asked for their class. -/
namespace PySem
open PySem.W PySem.Calls PyProof.Rows
section
variable {prog : Program} {w : World} {A : Around} {E : Value → Shared → Prop} {s : Shared} {K : Frag} {x D : Addr} {ox : Obj} {od : Option Obj}
/-- a data descriptor of the class is found ahead of the own dict -/
theorem al_findObj {C : Addr} {n : Str} {a g : Value} (hc : (clsIn K C).isSome = true) (ha : findIn K (.ref C) n = some (some a)) (hg : specialIn K a "__get__" = some (some g)) (ht : takesIn K a = some true) : findObj K C od n = some (.bind g a) := by
  obtain ⟨cd, e⟩ := Option.isSome_iff_exists.mp hc
  unfold findObj
  rw [e, Option.bind_some, ha, Option.bind_some]
  simp [hg, ht]
/-- e.__class__ of an own exception, whatever its dict holds -/
theorem al_class {Q : Option Value → Shared → Prop} (T : L2.ExcC K D) (X : K.In s.heap) (J : InstAt s.heap x ox D od) (h : Q (some (.ref D)) { s with toks := s.toks + 1 }) : wpAny (model prog w) A (getAttr? (.ref x) "__class__") Q E s := by
  have hf : findObj K D od "__class__" = some (.bind (.builtin "getset_descriptor.__get__") (.builtin "object.__class__")) := al_findObj (by
    obtain ⟨cd, e, _⟩ := any_some T.hd
    rw [e]; rfl) T.ha T.hn T.ht
  obtain ⟨hp, ge, dr, tk, os⟩ := s
  have ty := J.type (M := model prog w)
  have l1 := looks_findIn (M := model prog w) X T.hg
  have l2 := looks_findIn (M := model prog w) X T.hk
  have l3 := looks_find (M := model prog w) X J hf
  have isExc : Looks (model prog w) hp (isInstance (.ref x) (.type "BaseException")) true := ty.andThen (looks_subIn X T.hs)
  have f0 : (false && onTheHeap (Value.builtin "BaseException.__getattribute__")) = false := rfl
  have f1 : (onTheHeap (Value.ref D) && Value.builtin "BaseException.__getattribute__" == Value.builtin "object.__getattribute__") = false := by
    rw [show (Value.builtin "BaseException.__getattribute__" == Value.builtin "object.__getattribute__") = false by decide +kernel]; rfl
  unfold getAttr? getAttrBy? getAttrBy
  refine wpAny_bind (wpAny_mkText (wpAny_bind (wpAny_attempt (wpAny_holding (wpAny_bind (ty.at (wpAny_bind (l1.at ?_))))))))
  show wpAny _ _ (if (onTheHeap (Value.ref D) && Value.builtin "BaseException.__getattribute__" == Value.builtin "object.__getattribute__") = true then _ else _) _ _ _
  rw [f1, if_neg Bool.false_ne_true]
  unfold getAttrByItsOwn hookBefore
  refine wpAny_bind ?_
  have onHp : onTheHeap (Value.ref D) = true := rfl
  rw [if_pos onHp]
  refine l2.at ?_; refine wpAny_bind (wpAny_attempt (wpAny_holding ?_))
  unfold callGetattribute
  rw [f0, if_neg Bool.false_ne_true]
  unfold boundAndCalled
  rw [PySem.F.excAttr_ValueError.ga.bind (.ref x)]
  refine wpAny_bind (wpAny_pure ?_)
  show wpAny _ _ (call (.builtin "BaseException.__getattribute__") [.ref x, .str "__class__" tk]) _ _ _
  refine wpAny_call (codeAny_call_builtin PySem.F.excAttr_ValueError.ga.plain PySem.F.entry_bexc_ga (@check_slot (model prog w) _ _ ⟨hp, ge, dr, tk + 1, os⟩ "BaseException.__getattribute__" "BaseException" "__getattribute__" (.ref x) [.str "__class__" tk] [] _ (by decide +kernel) (by decide +kernel) isExc (PySem.F.args_bexc_ga (.ref x) (.str "__class__" tk)) ?_))
  unfold Builtin.«object.__getattribute__»
  refine wpAny_bind (wpAny_of_eq (a := ((Value.ref x : Value), [Value.str "__class__" tk])) (by first | rfl | (simp only [slotArgs]; rfl)) (wpAny_bind (wpAny_pure (wpAny_bind (ty.at (wpAny_bind (l3.at ?_)))))))
  show wpAny _ _ (holding [Value.builtin "object.__class__"] (call (.builtin "getset_descriptor.__get__") [.builtin "object.__class__", .ref x, .ref D]) >>= ret) _ _ _
  refine wpAny_bind (wpAny_holding (wpAny_call (class_get (s := ⟨hp, ge, dr, tk + 1, os⟩) (ox := ox) (od := od) X J T.hm (wpAny_pure ?_))))
  show wpAny _ _ (handedOut (.ref D)) _ _ _
  rw [handedOut_of (v := .ref D) rfl]
  first
    | exact wpAny_pure (wpAny_pure h)
    | exact wpAny_pure h
    | exact wpAny_pure (wpAny_bind (wpAny_pure (wpAny_pure h)))
theorem al_kitx (T : L2.ExcC K D) : KitX K (.ref x) (.ref D) (fun h => InstAt h x ox D od) := by
  obtain ⟨cd, ecd, _⟩ := any_some T.hd
  have there : ∃ o, K.lookup D = some o ∧ ∀ its n, o.data ≠ .seq its n := by
    unfold clsIn at ecd
    split at ecd
    · rename_i c' d' cd' sl' ho
      exact ⟨_, ho, fun _ _ z => by cases z⟩
    · cases ecd
  constructor
  case ty => exact fun _ _ _ J => J.type
  case it =>
    intro _ _ X _
    unfold clsIn at ecd
    split at ecd
    · rename_i c' d' cd' sl' ho
      intro A' Q' E' s' kk q
      unfold isType loadHead
      exact wpAny_bind (wpAny_loadPart (kk _ _ (X _ _ ho)) (wpAny_pure q))
    · cases ecd
  case ne =>
    intro h tp dd its n sl X htp
    refine Bool.eq_false_iff.mpr fun q => ?_
    have e : D = tp := Value.ref.inj (beq_iff_eq.mp q)
    subst e
    obtain ⟨o, ho, no⟩ := there
    have z := (X _ _ ho).symm.trans htp
    cases z
    exact no _ _ rfl
  case ca => exact fun X J kk => al_class T X J kk
end
end PySem
namespace AL
open PySem PySem.Spec PyProof.Rows L2
/-- C(e, ..), a value -/
def tMkV (C : Addr) (sp : Sp) (ta : TA) : TE := fun σ H Q => ta σ H fun vs H1 => vs.length ≤ 1000 ∧ ∀ a, H1 a = none → sp (.ref a :: vs) (upd H1 a (exo a C none)) (fun v H2 => v = .non ∧ Q (.ref a) H2) fun _ _ _ => False
/-- e.f of such a value -/
def tFv (K : PySem.W.Frag) (f : Str) (te : TE) : TE := fun σ H Q => te σ H fun x H1 => ∃ (a C dx : Addr) (fs : List (Str × V)) (v : V), x = .ref a ∧ XfC K C ∧ PySem.W.findIn K (.ref C) f = some none ∧
  H1 a = some (exo a C (some dx)) ∧ H1 dx = some (exd dx fs) ∧ fs.lookup f = some v ∧ Q v H1
/-- isinstance(e, c) of such a value -/
def rIsV (K : PySem.W.Frag) : List V → Hp → VK → Prop := fun vs H Q => ∃ (a C : Addr) (c : V) (u : Value) (b : Bool), vs = [.ref a, c] ∧ ExcC K C ∧ ((∃ dx fs, H a = some (exo a C (some dx)) ∧ H dx = some (exd dx fs)) ∨ H a = some (ExO (.ref C) a)) ∧
  ClsV c u ∧ PySem.W.kitOne K (.ref C) u = some b ∧ Q (.bl b) H
section
variable {X : Cx} {x : Str} {C fI : Addr} {k : Nat} {fd : FuncData} {ps : List Str} {sp : Sp} {e : Expr} {es : List Expr} {ta : TA} {te : TE} {p pos : Pos} {CX : CXT}
theorem pe_mkV (T : OexC X.K C) (hi : PySem.W.findIn X.K (.ref C) "__init__" = some (some (.ref fI))) (ht : PySem.W.typeIn X.K (.ref fI) = some (.type "function")) (F : FnOk X.prog X.w X.K X.mg X.base CX k fI fd ps sp)
    (room : Room (k + 1) X.A) (hb : Binds X.K fd ps []) (out : Passes CX X fun _ _ _ => False) (hg : Gl X x) (hm : X.mg x = some (.ref C)) (ha : PA X (e :: es) ta) (nd : (x == ("__debug__" : Str)) = false := by decide)
    (s1 : starEach (e :: es) X.env = (false, eval e X.env) :: starEach es X.env := by rfl) (s2 : (backTo pos (starEach es X.env)).any (·.1) = false := by rfl) : PE X (.Call (.Name x p) (e :: es) [] pos) (tMkV C sp ta) := by
  constructor
  intro pins s σ H Q I h
  obtain ⟨_, _, _, _, bm, _, _, _, _, _, _, _, _, _, _, look, isVE⟩ := T.cls
  refine wpAny_Call_Name_kw (ld_glob I hg hm (PySem.W.callWith_K (h₀ := X.base) I.ok.mod.kin T.kC (thn (ha.run pos pins s σ H _ I h) fun us sA hA => ?_) s1 s2) nd)
  obtain ⟨vs, H1, J, rv, few, wish⟩ := hA
  refine ⟨J.kIn, ?_⟩
  show wpAny _ _ (call (.ref C) us) _ _ _
  obtain ⟨hp, ge, dr, tk, os⟩ := sA
  have bound : hp.objs.size ≤ hp.objs.size + 1 := Nat.le_succ _
  have fresh : H1 (hp.objs.size + 1) = none := J.hok.fresh bound
  have goal := wish _ fresh
  have keep : ∀ b o, hp.get? b = some o → ((hp.push (PySem.W.kdv_tup us)).push (PySem.HandSPX.excO C hp.objs.size)).get? b = some o := fun b o z => Heap.get?_push_of_some _ (Heap.get?_push_of_some _ z)
  have there : ((hp.push (PySem.W.kdv_tup us)).push (PySem.HandSPX.excO C hp.objs.size)).get? (hp.objs.size + 1) = some (PySem.HandSPX.excO C hp.objs.size) := by heap_get
  have J2 : Inv X pins σ (upd H1 (hp.objs.size + 1) (exo (hp.objs.size + 1) C none)) ⟨(hp.push (PySem.W.kdv_tup us)).push (PySem.HandSPX.excO C hp.objs.size), ge, dr, tk, os⟩ := J.laid (t' := tk) keep bound (exo_ok there)
  have rv2 : Vals (V.ref (hp.objs.size + 1) :: vs) (Value.ref (hp.objs.size + 1) :: us) := .cons rfl rv
  have many : (Value.ref (hp.objs.size + 1) :: us).length = ps.length := rv2.length.symm.trans (F.len _ _ _ _ goal)
  have few' : us.length ≤ sizeLine := by
    have z := rv.length
    rw [sizeLine_eq]
    omega
  have bd : BindsTo ⟨(hp.push (PySem.W.kdv_tup us)).push (PySem.HandSPX.excO C hp.objs.size), ge, dr, tk, os⟩ fd ⟨Value.ref (hp.objs.size + 1) :: us, []⟩ (ps.zip (Value.ref (hp.objs.size + 1) :: us)) := by
    have z := hb ⟨(hp.push (PySem.W.kdv_tup us)).push (PySem.HandSPX.excO C hp.objs.size), ge, dr, tk, os⟩ (Value.ref (hp.objs.size + 1) :: us) J2.kIn (by rw [List.append_nil]; exact many)
    rw [List.append_nil] at z
    exact z
  refine wpAny_call (PySem.HandSPX.call_own PySem.F.excBase_ValueError (fun Y => PySem.HandSPX.refsVE_contains Y bm isVE) (J.kIn _ _ look) (PySem.W.looks_findIn J.kIn hi) (fun self => PySem.W.bind_fn J.kIn self ht) few' (codeAny_mono
    (F.run _ X.stack _ _ ⟨Value.ref (hp.objs.size + 1) :: us, []⟩ (Value.ref (hp.objs.size + 1) :: us) _ _ (fun _ _ _ => False) (room.make C us []) (J2.env0.make C us []) bd rv2 goal) fun r sB hB => ?_))
  cases r with
  | error er => exact out pins σ _ _ er sB J2 hB
  | ok fl =>
    cases fl with
    | next => exact hB.elim
    | brk => exact hB.elim
    | cont => exact hB.elim
    | ret u =>
      obtain ⟨v, H2, os2, bare2, un2, hok2, rw2, ev, q2⟩ := hB
      subst ev
      refine ⟨rw2, .ref (hp.objs.size + 1), H2, ?_, rfl, q2⟩
      obtain ⟨h2, g2, d2, t2, os'⟩ := sB
      have un1 : Un (frs X.stack) [] H1 H2 hp h2 := (Un.laid keep bound fresh).trans un2
      exact J.call' (ch := []) os2 un1 hok2 bare2 (fun b z => absurd z (by simp))
theorem pe_fv {n : Str} (he : PE X e te) (hb : attributeBase e n X.env (eval e X.env) = eval e X.env := by rfl) : PE X (.Attribute e n pos) (tFv X.K n te) := by
  constructor
  intro pins s σ H Q I h
  refine attr_of hb (thn (he.run pins s σ H _ I h) fun u sA hA => ?_)
  obtain ⟨y, H1, J, ry, a, C, dx, fs, v, rfl, T, no, ea, ed, l, q⟩ := hA
  cases (show u = Value.ref a from ry)
  obtain ⟨t1, oa⟩ := exo_at J.hok ea
  obtain ⟨mA, hns, rel⟩ := exd_at J.hok ed
  obtain ⟨od, ho, hl⟩ := lookIn_ns hns
  obtain ⟨u, hu, ru⟩ := RelO.some_of (v := v) (o := mA n) (by rw [← l]; exact rel n)
  exact HandSPX.exc_get J.kIn (⟨oa, rfl, rfl, ho⟩ : PySem.W.InstAt sA.heap a _ C (some od)) T.ga T.gg T.exC (PySem.W.findObj_own T.hdC no rfl (by rw [hl, hu])) (handed_of ru) ⟨v, H1, J.tok _, ru, q⟩
theorem call_isV : CallR X (.builtin "isinstance") (rIsV X.K) := by
  intro pins s σ H vs us Q I r h
  obtain ⟨a, C, c, u, b, rfl, T, what, kc, e, q⟩ := h
  obtain ⟨u1, u2, rfl, r1, r2⟩ := vals2 r
  cases (show u1 = Value.ref a from r1)
  cases kc.eq r2
  rcases what with ⟨dx, fs, ea, ed⟩ | ea
  · obtain ⟨t1, oa⟩ := exo_at I.hok ea
    obtain ⟨mA, hns, rel⟩ := exd_at I.hok ed
    obtain ⟨od, ho, hl⟩ := lookIn_ns hns
    exact PySem.W.kia_one (al_kitx T) I.kIn (⟨oa, rfl, rfl, ho⟩ : PySem.W.InstAt s.heap a _ C (some od)) e (fun z => nomatch z) fun tk => ⟨.bl b, H, I.tok tk, rfl, q⟩
  · obtain ⟨⟨oe, fv, oa, ⟨z1, z2⟩, z3, _⟩, _⟩ := I.hok a _ ea
    exact PySem.W.kia_one (al_kitx T) I.kIn (⟨oa, z1, by unfold PySem.W.notCls; rw [z3] <;> rfl, by rw [z2]; trivial⟩ : PySem.W.InstAt s.heap a oe C none) e (fun z => nomatch z) fun tk => ⟨.bl b, H, I.tok tk, rfl, q⟩
/-- C() of an own class over ValueError without __init__ -/
theorem pe_mkV0 {bmB : List Value} {B newId initId : String} (F : ExcBaseFacts B newId initId bmB) (ex : PySem.W.excIn X.K C bmB newId = true) (hm : X.mg x = some (.ref C)) (kp : PySem.W.keepIn X.K (.ref C) = true) (hg : Gl X x) (nd : (x == ("__debug__" : Str)) = false := by decide) :
    PE X (.Call (.Name x p) [] [] pos) (fun _ H Q => ∀ a, H a = none → Q (.ref a) (upd H a (ExO (.ref C) a))) := by
  constructor
  intro pins s σ H Q I h
  refine wpAny_Call_Name_kw (ld_glob I hg hm (PySem.W.callWith_K0 I.kIn kp ?_) nd)
  obtain ⟨bm, N, nm, qn, bs, hd, sn, sub, ab, col, dd, c0, c1, c2, c3, c5, mN, hC, hN, hni, T⟩ := exc_obj I.kIn ex
  obtain ⟨hp, ge, dr, tk, os⟩ := s
  refine wpAny_call_exc_subT F T hC hN hni (fun h2 a made => ?_) (Nat.zero_le _)
  have fresh : H a = none := I.hok.gone made.new
  obtain ⟨t, here, _, _⟩ := made.there
  exact ⟨.ref a, upd H a (ExO (.ref C) a), I.laidN (t' := tk) made.keeps made.new fresh (exO_ok here ⟨rfl, rfl⟩ rfl rfl rfl (show 4 < 6 by decide)), rfl, h a fresh⟩
end
end AL
set_option Elab.async false
set_option maxRecDepth 100000
set_option maxHeartbeats 2000000
/-! The end of a law whose def asks repr. -/
namespace AL
open PySem PySem.Spec PyProof.Rows L2
/-- the script's own object -/
def scrO (us : List Value) : Obj := { cls := .type "list", data := .seq us.toArray }
/-- the heap at the law's entry: the script alone, locked (or nothing, where it is the module's own) -/
def scrH (K : PySem.W.Frag) (a : Addr) (us : List Value) (ns : List Int) : Hp := fun b => if b = a ∧ K.lookup a = none then some (.frz (scrO us) (.lst (ns.map V.int))) else none
theorem scrH_some {K : PySem.W.Frag} {a b : Addr} {us : List Value} {ns : List Int} {u : HO} (h : scrH K a us ns b = some u) : b = a ∧ K.lookup a = none ∧ u = .frz (scrO us) (.lst (ns.map V.int)) := by
  unfold scrH at h
  split at h
  · rename_i c
    exact ⟨c.1, c.2, (Option.some.inj h).symm⟩
  · cases h
theorem lawG {P : Program} {w : World} {K : PySem.W.Frag} {mg mb : Str → Option Value} {CX : CXT} {k : Nat} {fa a : Addr} {fd : FuncData} {x : Str} {sp : Sp} {t : Shared} {us : List Value} {ns : List Int}
    (kin : K.In t.heap) (glb : t.heap.Ns mainGlobals mg) (blt : t.heap.Ns builtinsNs mb) (boot : ∀ y : Str, y ≠ "__name__" → mb y = bootBuiltins y) (free : t.heap.NoLimit) (noG : t.gens = #[])
    (at_a : t.heap.get? a = some (scrO us)) (isI : IntsAre us ns) (short : ns.length ≤ sizeLine) (room : Room k callerA)
    (F : ∀ base : Heap, K.In base → base.Ns mainGlobals mg → FnG P w K mg base CX k fa fd [x] sp) (bind : ∀ (s : Shared) (u : Value), BindsTo s fd ⟨[u], []⟩ [(x, u)])
    (wish : ∀ H : Hp, Only H → SqL K H a (ns.map V.int) → sp [.ref a] H (fun v _ => v = .bl true) fun _ _ _ => False)
    (noX : ∀ H e s', CX [] H t (fun _ _ _ => False) e s' → False) :
    codeAny (model P w) callerA (.call (.ref fa) ⟨[.ref a], []⟩) (fun r s' => r = .ok (.ret (.bool true)) ∧ OldK t.heap s'.heap ∧ s'.os = t.os ∧ AllBare s'.gens) t := by
  have vals := vals_ints isI
  have many := isI.length
  have only : Only (scrH K a us ns) := fun b => by
    cases e : scrH K a us ns b with
    | none => exact .inl rfl
    | some u =>
      obtain ⟨_, _, z⟩ := scrH_some e
      exact .inr ⟨_, _, congrArg some z⟩
  have seq : SqL K (scrH K a us ns) a (ns.map V.int) := by
    cases e : K.lookup a with
    | none => exact .inl (.inr ⟨scrO us, if_pos ⟨rfl, e⟩⟩)
    | some o =>
      have z := kin a o e
      rw [at_a] at z
      cases z
      exact .inr ⟨_, us.toArray, _, e, rfl, rfl, rfl, by rw [List.size_toArray, many]; exact short, vals⟩
  have held : HOk P w (scrH K a us ns) t.heap := fun b u e => by
    obtain ⟨rfl, _, rfl⟩ := scrH_some e
    exact ⟨at_a, by rw [List.length_map]; exact short, us, _, vals, at_a⟩
  have noDict : ∀ {b : Addr} {o : Obj} {es : Array DictEntry} {n : Nat}, t.heap.get? b = some o → o.data = .dict es n → scrH K a us ns b = none := by
    intro b o es n e1 e2
    cases e : scrH K a us ns b with
    | none => rfl
    | some u =>
      obtain ⟨rfl, _, _⟩ := scrH_some e
      rw [at_a] at e1
      cases e1
      cases e2
  have ns_of : ∀ {b : Addr} {m : Str → Option Value}, t.heap.Ns b m → (hidT t.heap (scrH K a us ns)).Ns b m := by
    rintro b m ⟨o, es, n, e1, e2, r⟩
    exact ⟨o, es, n, hidT_get e1 (noDict e1 e2), e2, r⟩
  have kin' : K.In (hidT t.heap (scrH K a us ns)) := fun b o e => hidT_get (kin b o e) (by
    cases z : scrH K a us ns b with
    | none => rfl
    | some u =>
      obtain ⟨rfl, n, _⟩ := scrH_some z
      rw [n] at e
      cases e)
  have modl : Mod K mg (hidT t.heap (scrH K a us ns)) := by
    obtain ⟨mc, f1, f2⟩ := free
    exact ⟨kin', ns_of glb, ⟨mb, ns_of blt, boot⟩, ⟨mc, ns_of f1, f2⟩⟩
  have env0 : Env0 P w K mg (hidT t.heap (scrH K a us ns)) callerA [] t (scrH K a us ns) :=
    ⟨rfl, modl, fun b o z => of_hidT z, Nat.le_of_eq (hidT_size _ _), trivial, fun b z => absurd (show b ∈ ([] : List Addr) from z) (by simp), held, .of_eq noG⟩
  refine codeAny_mono ((F _ kin' (ns_of glb)).run callerA [] t _ ⟨[.ref a], []⟩ [.ref a] [.ref a] _ _ rfl room env0 (bind t (.ref a)) (.cons rfl .nil) (wish _ only seq)) fun r s' z => ?_
  cases r with
  | error e => exact (noX _ e s' z).elim
  | ok fl =>
    cases fl with
    | next => exact z.elim
    | brk => exact z.elim
    | cont => exact z.elim
    | ret u =>
      obtain ⟨v, H', os, bare, un, held', rv, q⟩ := z
      cases (show v = .bl true from q)
      cases (show u = Value.bool true from rv)
      refine ⟨rfl, OldK.of_keep fun b o e => ?_, os, bare⟩
      cases c : scrH K a us ns b with
      | none => exact un.keep b o e c (fun z => absurd (show b ∈ ([] : List Addr) from z) (by simp)) (by simp)
      | some u2 =>
        obtain ⟨rfl, _, rfl⟩ := scrH_some c
        obtain ⟨e2, _⟩ := held' _ _ (un.frzs _ _ _ c)
        rw [at_a] at e
        cases e
        exact e2
theorem walkG {l : PySem.W.OpenLaw} {n k : Nat} {q : Program} {loose : List Str} {XP : (Str → Option Value) → Heap → Prop} {YP : World → Heap → Prop} {d : DefRec} {K : Params → PySem.W.Frag} {sp : PySem.W.Frag → Sp} {x : Str}
    (most : l.most = some n) (few : n ≤ sizeLine) (plain : d.params.defaults = []) (room : Room k callerA) (ky : ∀ (w : World) (h : Heap), YP w h → (K w.params).In h)
    (F : ∀ (w : World) (mg : Str → Option Value) (fa : Addr) (h : Heap), (K w.params).In h → h.Ns mainGlobals mg → mg d.name = some (.ref fa) → ∃ fd : FuncData, (∀ (s : Shared) (u : Value), BindsTo s fd ⟨[u], []⟩ [(x, u)]) ∧
      ∀ base : Heap, (K w.params).In base → base.Ns mainGlobals mg → FnG l.prog w (K w.params) mg base CX0 k fa fd [x] (sp (K w.params)))
    (wish : ∀ (K : PySem.W.Frag) (H : Hp) (a : Addr) (ns : List Int), ns.length ≤ n → Only H → SqL K H a (ns.map V.int) → sp K [.ref a] H (fun v _ => v = .bl true) fun _ _ _ => False) :
    PySem.W.WalkO q loose XP YP l.row.toRowW d [] (fun f vs => PySem.call f vs) := by
  refine Att.attach_call most plain ?_
  intro w s0 t mg mb fa o pm cd doc a us ns G Y ho hd hcd hmg at_a isI many noG
  obtain ⟨fd, bind, ok⟩ := F w mg fa _ (ky w _ Y) G.T.g hmg
  exact lawG (ky w _ Y) G.T.g G.T.b G.T.builtins G.T.nolimit noG at_a isI (Nat.le_trans many few) room ok bind (fun H o1 o2 => wish (K w.params) H a ns many o1 o2) fun _ _ _ z => z.elim
end AL
set_option Elab.async false
set_option maxRecDepth 100000
set_option maxHeartbeats 2000000
/-! Own error classes of the program: what the top writes of them, as one Bool a class. -/
namespace AL
open PySem PySem.Spec PyProof.Rows L2
/-- all that is asked of an own error class, but its row -/
def errB (K : PySem.W.Frag) (C : Addr) (fs : List Str) : Bool :=
  decide (PySem.W.findIn K (.ref C) "__setattr__" = some (some (.builtin "object.__setattr__"))) && (decide (PySem.W.subIn K (.ref C) (.type "BaseException") = some true) && (decide (PySem.W.typeIn K (.ref C) = some (.type "type")) && (PySem.W.keepIn K (.ref C) &&
  (xfB K C && (decide (PySem.W.findIn K (.ref C) "__class__" = some (some (.builtin "object.__class__"))) && (decide (PySem.W.specialIn K (.builtin "object.__class__") "__get__" = some (some (.builtin "getset_descriptor.__get__"))) &&
  (decide (PySem.W.takesIn K (.builtin "object.__class__") = some true) && (decide (PySem.W.mroIn K C (.type "object") = some true) && fs.all fun f => decide (PySem.W.findIn K (.ref C) f = some none)))))))))
structure ErrT (K : PySem.W.Frag) (mg : Str → Option Value) (x : Str) (C : Addr) (fs : List Str) : Prop where
  oex : OexC K C
  xf : XfC K C
  ex : ExcC K C
  m : mg x = some (.ref C)
  no : ∀ f ∈ fs, PySem.W.findIn K (.ref C) f = some none
theorem errT_of {K : PySem.W.Frag} {mg : Str → Option Value} {x : Str} {C : Addr} {fs : List Str} {nm q : Str} {N : Addr} {bs bm : List Value} {sn : List Str} {sub : List Value} {ab : Bool} {col : Option Bool} {dd : Option Addr} {k0 k1 k2 k3 k5 : Option Value}
    (row : K.lookup C = some (excClassObj nm q C N bs bm true sn sub ab col dd k0 k1 k2 k3 k5 "ValueError.__new__")) (bmo : PySem.HandSPX.refsVE bm = true) (m : mg x = some (.ref C)) (b : errB K C fs = true) : ErrT K mg x C fs := by
  unfold errB at b
  simp only [Bool.and_eq_true, decide_eq_true_eq, List.all_eq_true] at b
  obtain ⟨b1, b2, b3, b4, b5, b6, b7, b8, b9, b10⟩ := b
  have X := xfB_ok b5
  exact ⟨⟨⟨_, _, _, _, _, _, _, _, _, _, _, _, _, _, _, row, bmo⟩, b1, b2, b3, b4⟩, X, ⟨X.ga, X.gg, b2, X.hdC, b6, b7, b8, b9⟩, m, b10⟩
/-- its own __init__ -/
structure IniT (K : PySem.W.Frag) (qual : Str) (st : Stmt) (ps : List Str) (C fI : Addr) (fd : FuncData) : Prop where
  F : Fun K "__init__" qual st fI fd
  b : Binds K fd ps []
  fi : PySem.W.findIn K (.ref C) "__init__" = some (some (.ref fI))
  ti : PySem.W.typeIn K (.ref fI) = some (.type "function")
/-- __init__(self, f1, ..): the fields are stored -/
def spIni (C : Addr) (fs : List Str) : Sp := fun vs H Q _ => ∃ (a : Addr) (ys : List V), vs = .ref a :: ys ∧ ys.length = fs.length ∧ H a = some (exo a C none) ∧
  ∀ (dx : Addr) (H' : Hp), H dx = none → dx ≠ a → H' a = some (exo a C (some dx)) → H' dx = some (exd dx (fs.zip ys).reverse) → (∀ b, b ≠ a → b ≠ dx → H' b = H b) → Q .non H'
/-- an error of the class at C stands at e -/
def EV (H : Hp) (e C : Addr) : Prop := (∃ dx fs, H e = some (exo e C (some dx)) ∧ H dx = some (exd dx fs)) ∨ H e = some (ExO (.ref C) e)
theorem EV.same {H H' : Hp} {e C : Addr} (h : EV H e C) (s : Same H H') : EV H' e C := by
  rcases h with ⟨dx, fs, h1, h2⟩ | h
  · exact .inl ⟨dx, fs, s _ _ h1, s _ _ h2⟩
  · exact .inr (s _ _ h)
theorem vi_eq {i j : Nat} (h : decide (V.int (i : Int) = V.int (j : Int)) = true) : i = j := by
  have z := of_decide_eq_true h
  injection z with z
  omega
theorem vi_ne {i j : Nat} (h : ¬ decide (V.int (i : Int) = V.int (j : Int)) = true) : i ≠ j := fun e => h (by subst e; exact decide_eq_true rfl)
end AL
set_option Elab.async false
set_option maxRecDepth 100000
set_option maxHeartbeats 4000000
/-! Own errors raised, and caught by several clauses with a name each. -/
namespace AL
open PySem PySem.Spec PyProof.Rows L2
theorem pa_mono {X : Cx} {es : List Expr} {ta : TA} (h : PA X es ta) : PA X es (fun σ H K => ∃ K0 : List V → Hp → Prop, ta σ H K0 ∧ ∀ vs H', K0 vs H' → K vs H') :=
  ⟨fun pos pins s σ H K I ⟨K0, z, i⟩ => thn (h.run pos pins s σ H K0 I z) fun _ _ ⟨vs, H', J, r, q⟩ => ⟨vs, H', J, r, i vs H' q⟩⟩
/-- a weaker reading of what makes an exception -/
theorem pmk_imp {X : Cx} {e : Expr} {t u : L2.St → Hp → XK → Prop} (h : PMk X e t) (i : ∀ σ H Q, u σ H Q → t σ H Q) : PMk X e u := fun pins s σ H Q I z => h pins s σ H Q I (i σ H Q z)
/-- raise C(e, ..): the fields lie in the error's own dict -/
def tRaise (C : Addr) (fs : List Str) (W : WX) (ta : TA) : TS := fun _ σ H => ta σ H fun vs H1 => vs.length = fs.length ∧ ∀ d, H1 d = none → W (.ref C) (some d) σ (upd H1 d (.xd (fs.zip vs).reverse))
section
variable {X : Cx} {x : Str} {C fI : Addr} {fd : FuncData} {ps fs : List Str} {e : Expr} {es : List Expr} {ta : TA} {p pos pos2 : Pos} {k : Nat} {W : WX} {qual : Str} {st : Stmt}
theorem ps_raiseC (calm : X.calm = true) (tk : Takes X W) (T : ErrT X.K X.mg x C fs) (J : IniT X.K qual st ps C fI fd) (F : FnOk X.prog X.w X.K X.mg X.base CX0 k fI fd ps (spIni C fs)) (room : Room (k + 1) X.A) (few : fs.length ≤ 1000) (hg : Gl X x) (ha : PA X (e :: es) ta)
    (nd : (x == ("__debug__" : Str)) = false := by decide) (s1 : starEach (e :: es) X.env = (false, eval e X.env) :: starEach es X.env := by rfl) (s2 : (backTo pos (starEach es X.env)).any (·.1) = false := by rfl) :
    PS X (.Raise (some (.Call (.Name x p) (e :: es) [] pos)) none pos2) (tRaise C fs W ta) := by
  have out : Passes CX0 X fun _ _ _ => False := fun _ _ _ _ _ _ _ z => z.elim
  refine ps_raise (t := fun σ H Q => ta σ H fun vs H1 => vs.length = fs.length ∧ ∀ d, H1 d = none → Q (.ref C) (some d) (upd H1 d (.xd (fs.zip vs).reverse))) calm tk (pmk_imp (pmk_oex T.oex J.fi J.ti F room J.b .nil out hg T.m (pa_mono ha) nd s1 s2) ?_)
  intro σ H Q h
  refine ⟨_, h, ?_⟩
  rintro vs H1 ⟨many, q⟩
  refine ⟨by omega, fun a fresh => ?_⟩
  rw [List.append_nil]
  refine ⟨a, vs, rfl, many, upd_same, fun dx H' hd hne e1 e2 kp => ⟨rfl, dx, _, e1, e2, ?_, ?_⟩⟩
  · rw [upd_ne hne] at hd; exact hd
  · have hd1 : H1 dx = none := by rw [upd_ne hne] at hd; exact hd
    have same : upd (del H' a) dx (.xd (fs.zip vs).reverse) = upd H1 dx (.xd (fs.zip vs).reverse) := by
      funext b
      by_cases hb : b = dx
      · rw [hb, upd_same, upd_same]
      · rw [upd_ne hb, upd_ne hb]
        by_cases hba : b = a
        · rw [hba, del_same, fresh]
        · rw [del_ne hba, kp b hba hb, upd_ne hba]
    rw [same]
    exact q dx hd1
end
/-! ### try: .., except X as n: .., except Y as m: .. -/
/-- a clause: its class, its name's slot, its suite's reading -/
abbrev Cl := Value × Nat × (Addr → Value → Option Addr → TS)
/-- behind a suite its name is gone -/
def Ends.less (D : Ends) (i : Nat) : Ends := { nx := fun σ H => D.nx (σ.set i none) H, rt := D.rt, bk := fun σ H => D.bk (σ.set i none) H, ct := fun σ H => D.ct (σ.set i none) H }
def wNamed (K : PySem.W.Frag) (W0 : WX) (D : Ends) : List Cl → WX
  | [] => W0
  | (c, i, ts) :: r => fun cls d σ H => ∃ b, PySem.W.exmOne K cls c = some b ∧ (b = true → ∀ a, H a = none → ts a cls d (Ends.less D i) (σ.set i (some (.ref a))) H) ∧ (b = false → wNamed K W0 D r cls d σ H)
inductive Named (X : Cx) : List ExceptHandler → List Cl → Prop
  | nil : Named X [] []
  | cons {x n : Str} {c : Value} {i : Nat} {ts : Addr → Value → Option Addr → TS} {b0 : Stmt} {rest : List Stmt} {q1 q2 : Pos} {hd : List ExceptHandler} {l : List Cl} (cl : Names X x c) (sl : X.N[i]? = some n) (lo : X.env.kindOf n = some .local)
      (su : ∀ (a : Addr) (oe : Obj) (cls : Value) (d : Option Addr) (pn : List (Addr × Obj)), Zc cls d oe → (∃ vs, oe.data = .fields vs) → PSs (X.suite a ((a, oe) :: pn)) (b0 :: rest) (ts a cls d)) (r : Named X hd l) :
      Named X (.ExceptHandler (some (.Name x q1)) (some n) (b0 :: rest) q2 :: hd) ((c, i, ts) :: l)
section
variable {X : Cx} {body : List Stmt} {h0 : ExceptHandler} {hd : List ExceptHandler} {l : List Cl} {pos : Pos} {tb : WX → TS} {W0 : WX}
theorem ps_tryN (stk : X.stack = X.env :: X.outer) (frm : X.env.frame = some X.env.locals) (nd : X.N.Nodup) (tk : Takes X W0)
    (inner : ∀ (W : WX) (pn : List (Addr × Obj)) (xe : Value → Shared → Prop), Takes (X.tr pn xe) W → PassesOwn (model X.prog X.w) X.A X.env xe → PSs (X.tr pn xe) body (tb W)) (cls : Named X (h0 :: hd) l) :
    PS X (.Try body (h0 :: hd) [] [] pos) (fun D σ H => tb (wNamed X.K W0 D l) D σ H) := by
  constructor
  intro pins s σ H D I h
  have frames : X.A.frames = some (X.env :: X.outer) := by rw [I.ok.frames, stk]
  let back : Value → Shared → Prop := fun e t1 => wpAny (model X.prog X.w) X.A (noteFrame e X.env) (fun _ t2 => wpAny (model X.prog X.w) X.A (setFlight e none) (fun _ t3 => wpAny (model X.prog X.w) X.A (handleBy e X.env (h0 :: hd)) (SP X pins D) X.xe t3) X.xe t2) X.xe t1
  have caught : ∀ u t, XE (X.tr (X.pn ++ pins) back) (wNamed X.K W0 D l) u t → back u t := by
    rintro u t ⟨a, B, t0, pins0, σ1, H1, ec, ed, rfl, J0, ground, up, sky, fresh, oss, bare, wish⟩
    have J : Inv X pins σ1 H1 t0 := J0.ofTry I.ok
    have sky1 : Sky B (X.env :: X.outer) a (Zc ec ed) X.env.locals t.heap := by rw [← stk]; exact sky
    show wpAny (model X.prog X.w) X.A (noteFrame (.ref a) X.env) _ _ _
    refine Sky.land Zc.steady frames frm sky1 fun g3 fl3 up3 => ?_
    have J3 : Inv X pins σ1 H1 { t with heap := g3 } := J.landed ground fl3.1 (up.trans up3) oss bare
    obtain ⟨o3, v3, at3, z3, dat3⟩ := fl3.there
    have apart : a ∉ frs (X.env :: X.outer) := fun m => by
      obtain ⟨_, o', e', no⟩ := fl3.2.2.1.mem m
      rw [at3] at e'
      cases e'
      exact no _ dat3
    have notL : a ≠ X.env.locals := fun z => apart (List.mem_filterMap.mpr ⟨X.env, List.mem_cons_self, by rw [frm, z]⟩)
    have notF : a ∉ X.fs := fun m => by
      obtain ⟨en, hen, q⟩ := List.mem_filterMap.mp m
      exact apart (List.mem_filterMap.mpr ⟨en, List.mem_cons_of_mem _ hen, q⟩)
    have S3 := J3.suite at3 dat3 fresh notL notF
    suffices all : ∀ {hd' : List ExceptHandler} {l' : List Cl}, Named X hd' l' → wNamed X.K W0 D l' ec ed σ1 H1 → wpAny (model X.prog X.w) X.A (handleBy (.ref a) X.env hd') (SP X pins D) X.xe { t with heap := g3 } from all cls wish
    intro hd' l' nm
    induction nm with
    | nil =>
      intro w0
      refine wpAny_handleBy_nil ?_
      obtain ⟨_, _, _, oe, fv, T, oT, ts', he, hz, hdt, h1, _⟩ := id fl3
      unfold PySem.passOn
      refine wpAny_bind (wpAny_field he hdt h1 ?_)
      have notNone : ¬ ((Value.ref T == Value.none) = true) := by simp
      rw [if_neg notNone]
      have fly : wpAny (model X.prog X.w) X.A (setFlight (.ref a) X.env.frame) (fun _ t4 => wpAny (model X.prog X.w) X.A (throw (.ref a) : Sem Flow) (SP X pins D) X.xe t4) X.xe { t with heap := g3 } := by
        rw [frm]
        exact HandSPX.setFlight_upZ fl3 fun g4 held up4 => wpAny_throw (tk _ _ ⟨a, B, t0, pins, σ1, H1, ec, ed, rfl, J, ground, (up.trans up3).trans up4, .inr (.inr (by rw [stk]; exact held)), fresh, oss, bare, w0⟩)
      first
        | exact wpAny_bind (wpAny_pure (wpAny_bind fly))
        | exact wpAny_bind fly
    | @cons x n c i ts b0 rest q1 q2 hd2 l2 cl sl lo su r ih =>
      rintro ⟨b, isb, yes, no⟩
      refine wpAny_handleBy_cons (codeAny_handlers_test ?_) (by intro q; cases q)
      have LT : PySem.W.Looks (model X.prog X.w) g3 (typeOf (.ref a)) ec := fun A' Q' E' s' k' q' => wpAny_typeOf_ref (k' _ _ at3) (by rw [z3.1]; exact q')
      have LM := PySem.W.exm_one (M := model X.prog X.w) (J3.kIn) LT isb
      have asks : ∀ {Q' : Value → Shared → Prop} {E' : Value → Shared → Prop}, Q' c { t with heap := g3 } → wpAny (model X.prog X.w) (X.A.mark (some (.ref a))) (eval (.Name x q1) X.env) Q' E' { t with heap := g3 } := by
        intro Q' E' q'
        obtain ⟨gl, nodb, known⟩ := cl
        rcases known with hm | ⟨hm, hv, hnn⟩
        · exact ld_glob (X := X.suite a ((a, o3) :: (X.pn ++ pins))) S3 gl hm q' nodb
        · exact ld_blt (X := X.suite a ((a, o3) :: (X.pn ++ pins))) S3 gl hm hv q' hnn nodb
      refine asks (LM.here ?_)
      cases b with
      | false =>
        show wpAny _ X.A (handleBy (.ref a) X.env hd2) _ _ _
        exact ih (no rfl)
      | true =>
        refine codeAny_handlers_suite_as (HandSPX.lands_againZ fl3 fun g4 fl4 up4 => ?_)
        have J4 : Inv X pins σ1 H1 { t with heap := g4 } := J.landed ground fl4.1 ((up.trans up3).trans up4) oss bare
        obtain ⟨o4, v4, at4, z4, dat4⟩ := fl4.there
        have S4 := J4.suite at4 dat4 fresh notL notF
        refine store_ok (X := X.suite a ((a, o4) :: (X.pn ++ pins))) (v := .ref a) S4 nd sl (.inl lo) rfl (fun t5 S5 => ?_) (.inr lo)
        refine wpAny_mono ((su a o4 ec ed (X.pn ++ pins) z4 ⟨_, dat4⟩).run [] t5 _ H1 _ S5 (yes rfl a fresh)) (fun fl6 t6 sp6 => ?_) (fun _ _ z => False.elim z)
        have over : ∀ {σ6 : L2.St} {H6 : Hp} {Q6 : Shared → Prop}, Inv (X.suite a ((a, o4) :: (X.pn ++ pins))) [] σ6 H6 t6 → (∀ t7, Inv X pins (σ6.set i none) H6 t7 → Q6 t7) →
            wpAny (model X.prog X.w) X.A (do bindName X.env n .none; unbindBehindTheSuite X.env n q2) (fun _ t7 => Q6 t7) X.xe t6 := fun S6 q6 => gone_ok (S6.unsuite I.ok) nd sl lo q6
        cases fl6 with
        | next => obtain ⟨σ6, H6, S6, q6⟩ := sp6; exact over S6 fun t7 J7 => ⟨_, _, J7, q6⟩
        | brk => obtain ⟨σ6, H6, S6, q6⟩ := sp6; exact over S6 fun t7 J7 => ⟨_, _, J7, q6⟩
        | cont => obtain ⟨σ6, H6, S6, q6⟩ := sp6; exact over S6 fun t7 J7 => ⟨_, _, J7, q6⟩
        | ret u => obtain ⟨v6, σ6, H6, S6, r6, q6⟩ := sp6; exact over S6 fun t7 J7 => ⟨_, _, _, J7, r6, q6⟩
  refine wpAny_Try_except (wpAny_mono ((inner (wNamed X.K W0 D l) (X.pn ++ pins) back caught PassesOwn.looking).run [] s σ H D (I.toTry _) h) (fun fl t sp => ?_) (fun _ _ z => z))
  cases fl with
  | next => obtain ⟨σ', H', J', q⟩ := sp; exact wpAny_execs_nil ⟨σ', H', J'.ofTry I.ok, q⟩
  | brk => obtain ⟨σ', H', J', q⟩ := sp; exact ⟨σ', H', J'.ofTry I.ok, q⟩
  | cont => obtain ⟨σ', H', J', q⟩ := sp; exact ⟨σ', H', J'.ofTry I.ok, q⟩
  | ret u => obtain ⟨v, σ', H', J', r, q⟩ := sp; exact ⟨v, σ', H', J'.ofTry I.ok, r, q⟩
end
/-- isinstance(e, c) in the suite, e the error with its own dict -/
def rIsS (K : PySem.W.Frag) (a C dx : Addr) : List V → Hp → VK → Prop := fun vs H Q => ∃ (c : V) (u : Value) (b : Bool), vs = [.ref a, c] ∧ ClsV c u ∧ (∃ fs, H dx = some (.xd fs)) ∧ PySem.W.kitOne K (.ref C) u = some b ∧ Q (.bl b) H
theorem call_isS {X : Cx} {a C dx : Addr} {oe : Obj} {pn : List (Addr × Obj)} (T : ExcC X.K C) (hz : Zc (.ref C) (some dx) oe) (hf : ∃ vs, oe.data = .fields vs) : CallR (X.suite a ((a, oe) :: pn)) (.builtin "isinstance") (rIsS X.K a C dx) := by
  intro pins s σ H vs us Q I r h
  obtain ⟨c, u, b, rfl, kc, ⟨fs, hd⟩, e, q⟩ := h
  obtain ⟨u1, u2, rfl, r1, r2⟩ := vals2 r
  cases (show u1 = Value.ref a from r1)
  cases kc.eq r2
  obtain ⟨here, _⟩ := I.pin (a, oe) (List.mem_append.mpr (.inl List.mem_cons_self))
  obtain ⟨fv, hv⟩ := hf
  have at_d : ObjOk X.prog X.w H s.heap dx (.xd fs) := I.hok dx _ hd
  obtain ⟨mA, hns, _⟩ := at_d
  obtain ⟨od, ho, _⟩ := lookIn_ns hns
  have J : PySem.W.InstAt s.heap a oe C (some od) := ⟨here, hz.1, by unfold PySem.W.notCls; rw [hv] <;> rfl, by rw [hz.2]; exact ho⟩
  exact PySem.W.kia_one (al_kitx T) I.kIn J e (fun z => nomatch z) fun tk => ⟨.bl b, H, I.kept (t' := tk) fun _ _ z => z, rfl, q⟩
end AL
set_option Elab.async false
set_option maxRecDepth 100000
set_option maxHeartbeats 4000000
/-! isinstance of a caught own error, its class told where it is read. -/
namespace AL
open PySem PySem.Spec PyProof.Rows L2
def rIsC (K : PySem.W.Frag) (a C : Addr) (cls : Value) (d : Option Addr) : List V → Hp → VK → Prop := fun vs H Q => cls = .ref C ∧ ∃ (dx : Addr), d = some dx ∧ rIsS K a C dx vs H Q
theorem call_isC2 {X : Cx} {a C : Addr} {cls : Value} {d : Option Addr} {oe : Obj} {pn : List (Addr × Obj)} (T : ExcC X.K C) (hz : Zc cls d oe) (hf : ∃ vs, oe.data = .fields vs) : CallR (X.suite a ((a, oe) :: pn)) (.builtin "isinstance") (rIsC X.K a C cls d) := by
  intro pins s σ H vs us Q I r h
  obtain ⟨rfl, dx, rfl, h⟩ := h
  exact call_isS T hz hf pins s σ H vs us Q I r h
end AL
namespace AL
open PySem PySem.Spec PyProof.Rows L2
theorem op_eqS {X : Cx} {a : Addr} {oe : Obj} {pn : List (Addr × Obj)} (hu : X.A.units + 64 < cLine) : OpR (X.suite a ((a, oe) :: pn)) (compareOp .Eq) (rEqD X.K) := op_eqD hu
end AL
set_option Elab.async false
set_option maxRecDepth 100000
set_option exponentiation.threshold 20000
set_option maxHeartbeats 4000000
/-! int(text) and str(int) of up to 4,300 digits, // of ints of any size. -/
namespace PySem
open PySem.W PySem.Calls PySem.NumText PyProof.Rows
theorem al_wp_text {M : Model} {A : Around} {E : Value → Shared → Prop} {s : Shared} {Q : Value → Shared → Prop} {v : Value} {x : Str} {n : Int} (nd : s.heap.NoDigits)
    (rd : (int_private% "readNumeral") (numLimitOf x) 10 (numSeenOf x) = (int_private% "Numeral.value") n) (whole : ((numSeenOf x).length == (numTextOf x).length) = true) (h : Q (.int n s.toks) { s with toks := s.toks + 1 }) :
    wpAny M A ((int_private% "intFromText") v (numTextOf x) 10) Q E s := by
  by_cases short : (numSeenOf x).length ≤ 640
  · have e : numLimitOf x = 0 := if_pos short
    rw [e] at rd
    exact PySem.W.KIN.wp_text short rd whole h
  · have e : numLimitOf x = 4300 := if_neg short
    rw [e] at rd
    obtain ⟨mc, hns, hnone⟩ := nd
    obtain ⟨hp, ge, dr, tk, os⟩ := s
    have lim : ∀ {Q' : Nat → Shared → Prop}, Q' 4300 ⟨hp, ge, dr, tk, os⟩ → wpAny M A Builtin.intMaxStrDigits Q' E ⟨hp, ge, dr, tk, os⟩ := by
      intro Q' q'
      unfold Builtin.intMaxStrDigits
      refine wpAny_bind (wpAny_nsGet hns ?_)
      rw [hnone]
      exact wpAny_pure q'
    repeat (any_goals (first
      | assumption
      | (with_reducible refine wpAny_ite_false (decide_eq_false short) ?_)
      | (with_reducible refine wpAny_ite_true (decide_eq_true whole) ?_)
      | (with_reducible refine lim ?_)
      | wp_step))
    all_goals (try rw [rd])
    all_goals (try dsimp only)
    repeat (any_goals (first
      | assumption
      | (with_reducible refine wpAny_ite_true (decide_eq_true whole) ?_)
      | wp_step))

theorem al_meets_text {x : PySem.Str} {u : Tok} {n : Int} (hx : x.length ≤ sizeLine) (hn : PySem.intText? x = some n) :
    Meets (Builtin.«int.__new__» ⟨[.type "int", .str x u], []⟩) (fun _ R s => s.heap.NoDigits ∧ R (.ok (.ret (.int n s.toks))) { s with toks := s.toks + 1 }) := by
  intro prog w A R s h
  have f1 := F.conv_sub_int
  have f2 := F.madeHere_int
  have f3 := PySem.W.KIN.str_int
  have f4 := PySem.W.KIN.str_idx
  have f5 := PySem.W.KIN.str_trunc
  have f6 : typeOf (.str x u) = pure (.type "str") := rfl
  have rd : (int_private% "readNumeral") (numLimitOf x) 10 (numSeenOf x) = (int_private% "Numeral.value") n ∧ ((numSeenOf x).length == (numTextOf x).length) = true := by
    rcases readAny x hx with ⟨m, h1, h2, h3⟩ | ⟨h1, _⟩
    · rw [hn] at h1
      cases h1
      exact ⟨h3, h2⟩
    · rw [hn] at h1
      cases h1
  have kept := PySem.W.KIN.Hid.mk (And.intro rd h)
  clear rd h hn hx
  obtain ⟨hp, ge, dr, tk, os⟩ := s
  repeat (any_goals (first
    | assumption
    | ((with_reducible show wpAny _ _ ((int_private% "intFromText") _ _ _) _ _ _); refine al_wp_text kept.out.2.1 kept.out.1.1 kept.out.1.2 ?_)
    | wp_step))
  all_goals first | exact kept.out.2.2 | skip
section
variable {prog : Program} {w : World} {A : Around} {E : Value → Shared → Prop} {s : Shared} {Q : Value → Shared → Prop} {x : PySem.Str} {t : Tok} {n : Int}
theorem al_call_text (nd : s.heap.NoDigits) (hx : x.length ≤ sizeLine) (hn : PySem.intText? x = some n) (h : Q (.int n s.toks) { s with toks := s.toks + 1 }) : wpAny (model prog w) A (call (.type "int") [.str x t]) Q E s :=
  call_int_1 (al_meets_text hx hn) ⟨nd, typeIs_int _ _ _, h⟩
end
end PySem
namespace AL
open PySem PySem.Spec PyProof.Rows L2
/-- the limit on digits is as it came -/
def digB (K : PySem.W.Frag) : Bool := decide (PySem.W.nsIn K cStatics "sys.int_max_str_digits" = some none)
theorem noDigits_of {K : PySem.W.Frag} {h : Heap} (X : K.In h) (lim : h.NoLimit) (b : digB K = true) : h.NoDigits := by
  obtain ⟨mc, ns, _⟩ := lim
  refine ⟨mc, ns, ?_⟩
  have e := of_decide_eq_true b
  obtain ⟨o, es, n, ho, hd, _, look⟩ := ns
  unfold PySem.W.nsIn at e
  split at e
  · rename_i c d es' n' sl at_
    have z := (X _ _ at_).symm.trans ho
    cases z
    cases hd
    split at e
    · cases e
    · rename_i none_
      rw [← look]
      unfold nsFind findBy
      rw [← Array.find?_toList, none_]; rfl
  · cases e
section
variable {X : Cx} {k : Nat}
theorem call_int_strL (b : digB X.K = true) : CallR X (.type "int") (fun xs H Q => ∃ a n, xs = [.str a] ∧ PySem.intText? a = some n ∧ a.length ≤ sizeLine ∧ Q (.int n) H) := by
  intro pins s σ H xs us Q I r h
  obtain ⟨a, n, rfl, hn, hl, q⟩ := h
  obtain ⟨u, rfl, t, rfl⟩ := vals1 r
  exact al_call_text (noDigits_of I.kIn I.nolimit b) hl hn ⟨.int n, H, I.tok _, ⟨_, rfl⟩, q⟩
theorem call_str_intL (hd : X.A.handled = none) (b : digB X.K = true) : CallR X (.type "str") (fun xs H Q => ∃ i, xs = [.int i] ∧ i.natAbs < 10 ^ 4300 ∧ Q (.str (toString i)) H) := by
  intro pins s σ H xs us Q I r h
  obtain ⟨i, rfl, hz, q⟩ := h
  obtain ⟨u, rfl, t, rfl⟩ := vals1 r
  exact str_of_int_or hd (noDigits_of I.kIn I.nolimit b) (fun _ => ⟨.str _, H, I.tok _, ⟨_, rfl⟩, q⟩) (fun z => absurd hz (Nat.not_lt.mpr z))
/-- // of an int below 2 ^ 13500 by any divisor but 0 -/
def CDivB (i j : Int) : Prop := j ≠ 0 ∧ i.natAbs < 2 ^ 13500
theorem noPylong_big {i j : Int} (h : i.natAbs < 2 ^ 13500) : Builtin.divisionGoesByPylong i j = false := by
  have hl : i.natAbs.log2 < 13500 := log2_small (by decide) h
  have key : ((if j == 0 then 0 else j.natAbs.log2 / 30 + 1) > 300) → ¬ ((if i == 0 then 0 else i.natAbs.log2 / 30 + 1) > (if j == 0 then 0 else j.natAbs.log2 / 30 + 1) + 150) := by
    intro h1 h2
    split at h2 <;> omega
  show (decide ((if j == 0 then 0 else j.natAbs.log2 / 30 + 1) > 300) && decide ((if i == 0 then 0 else i.natAbs.log2 / 30 + 1) > (if j == 0 then 0 else j.natAbs.log2 / 30 + 1) + 150)) = false
  by_cases h1 : (if j == 0 then 0 else j.natAbs.log2 / 30 + 1) > 300
  · rw [decide_eq_false (key h1), Bool.and_false]
  · rw [decide_eq_false h1, Bool.false_and]
theorem op_fdivB : OpR X (binaryOp .FloorDiv) (rI CDivB fun i j => .int (i.fdiv j)) := by
  intro pins s σ H x y v u Q I rx ry h
  obtain ⟨i, j, rfl, rfl, ⟨hj, hi⟩, q⟩ := h
  obtain ⟨t, rfl⟩ := rx
  obtain ⟨t', rfl⟩ := ry
  exact floordiv_int hj ⟨.int _, H, I.tok _, ⟨_, rfl⟩, q⟩ (.inl (noPylong_big hi))
end
end AL
set_option Elab.async false
set_option maxRecDepth 100000
set_option exponentiation.threshold 70000
set_option maxHeartbeats 4000000
/-! {i} of an int up to 4,300 digits; // where one side is small. -/
namespace PySem
open PySem.W PySem.Calls PySem.NumText PyProof.Rows PySem.Builtin PySem.Builtin.Int
theorem al_repr_at {a : Int} {t : Tok} (h : a.natAbs < 10 ^ 4300) : GivesAt (fun s => s.heap.NoDigits) (Builtin.«int.__repr__» ⟨[.int a t], []⟩) (.str (toString a)) := by
  intro prog w A R s hn hq
  unfold Builtin.«int.__repr__»
  show wpAny _ _ (do let r ← Builtin.overDigitLimit? a; _) _ _ s
  refine wpAny_bind (overDigitLimit_any hn (fun hlt => ?_) (fun hge => absurd h (Nat.not_lt.mpr hge)))
  exact wpAny_bind (wpAny_mkStr (wpAny_pure hq.2) (int_text_fits10 hlt))
theorem al_format_at {a : Int} {t u : Tok} (h : a.natAbs < 10 ^ 4300) : GivesAt (fun s => s.heap.NoDigits) (Builtin.«int.__format__» ⟨[.int a t, .str Str.empty u], []⟩) (.str (toString a)) := by
  intro prog w A R s hn hq
  show wpAny _ _ (do let _kind ← typeNameOf (.str Str.empty u); (do rule "int.format.empty"; again (.builtin "int.__repr__" ⟨[.int a t], []⟩))) _ _ s
  refine wpAny_bind (wpAny_typeNameOf (typeIs_str s _ _) (by decide) fun n => wpAny_bind (wpAny_rule ?_))
  exact wpAny_pure ⟨plainId_quiet (by decide +kernel) _, codeAny_builtin F.entry_int_repr (by rw [Around.under_plainId (by decide +kernel)]; exact al_repr_at h prog w A R s hn hq)⟩
section
variable {w : World} {prog : Program} {s : Shared} {E Q : Value → Shared → Prop} {A : Around} {i : Int} {t : Tok}
theorem al_formatField (free : s.heap.NoDigits) (short : i.natAbs < 10 ^ 4300) (goal : Q (.str (toString i) (s.toks + 1)) { s with toks := s.toks + 1 + 1 }) : wpAny (model prog w) A (formatField (.int i t) Str.empty) Q E s := by
  have text : ∀ s' : Shared, s'.TypeIs (.int i t) "int" := fun s' => typeIs_int s' i t
  refine (wpAny_holding ?_ : wpAny (model prog w) A (holding [.int i t] (pyFormat (.int i t) Str.empty)) Q E s)
  unfold pyFormat
  refine wpAny_bind (wpAny_mkStr (wpAny_bind (m := callSpecial? (.int i t) (Str.ofString "__format__") [.str Str.empty s.toks]) (wpAny_callSpecial?_slot (name := Str.ofString "__format__") (text _) F.slot_int_format
    (call_givesAt F.slot_int_format (text _) F.entry_int_format (F.args_int_format_2 _ _) (al_format_at short) free ⟨int_text_fits10 short, ?_⟩))) (by decide))
  exact (wpAny_bind (wpAny_isInstance (typeIs_str _ _ _) isSubtype_str_str (wpAny_pure goal)) : wpAny (model prog w) A (do if ← isInstance (.str (toString i) (s.toks + 1)) (.type "str") then return (.str (toString i) (s.toks + 1)) else _) Q E _)
end
end PySem
namespace AL
open PySem PySem.Spec PyProof.Rows L2
section
variable {X : Cx}
/-- {i}, i an int -/
def tFmtL (te : TE) : TE := fun σ H Q => te σ H fun x H1 => (∃ y : Str, x = .str y ∧ y.length ≤ sizeLine ∧ Q (.str y) H1) ∨ ∃ i : Int, x = .int i ∧ i.natAbs < 10 ^ 4300 ∧ Q (.str (toString i)) H1
theorem pe_fmtL {e : Expr} {te : TE} {pos : Pos} (b : digB X.K = true) (he : PE X e te) : PE X (.FormattedValue e (-1) none pos) (tFmtL te) := by
  refine ⟨fun pins s σ H Q I h => ?_⟩
  refine wpAny_FormattedValue_plain (thn (he.run pins s σ H _ I h) fun v s1 hv => ?_)
  obtain ⟨x, H1, I1, r1, q⟩ := hv
  rcases q with ⟨y, rfl, hz, q⟩ | ⟨i, rfl, hz, q⟩
  · obtain ⟨t, rfl⟩ := r1
    exact wpAny_formatField_str ⟨.str y, H1, I1, ⟨t, rfl⟩, q⟩ ⟨.str y, H1, I1.tok _, ⟨_, rfl⟩, q⟩ hz
  · obtain ⟨t, rfl⟩ := r1
    exact al_formatField (noDigits_of I1.kIn I1.nolimit b) hz ⟨.str (toString i), H1, I1.tok _, ⟨_, rfl⟩, q⟩
/-- //: the dividend below 2 ^ 13500, or the divisor below 2 ^ 8000 -/
def CDivC (i j : Int) : Prop := j ≠ 0 ∧ (i.natAbs < 2 ^ 13500 ∨ j.natAbs < 2 ^ 8000)
theorem noPylong_low {i j : Int} (h : j.natAbs < 2 ^ 8000) : Builtin.divisionGoesByPylong i j = false := by
  have hl : j.natAbs.log2 < 8000 := log2_small (by decide) h
  have key : ¬ ((if j == 0 then 0 else j.natAbs.log2 / 30 + 1) > 300) := by
    split <;> omega
  show (decide ((if j == 0 then 0 else j.natAbs.log2 / 30 + 1) > 300) && decide ((if i == 0 then 0 else i.natAbs.log2 / 30 + 1) > (if j == 0 then 0 else j.natAbs.log2 / 30 + 1) + 150)) = false
  rw [decide_eq_false key, Bool.false_and]
theorem op_fdivC : OpR X (binaryOp .FloorDiv) (rI CDivC fun i j => .int (i.fdiv j)) := by
  intro pins s σ H x y v u Q I rx ry h
  obtain ⟨i, j, rfl, rfl, ⟨hj, hi⟩, q⟩ := h
  obtain ⟨t, rfl⟩ := rx
  obtain ⟨t', rfl⟩ := ry
  rcases hi with hi | hi
  · exact floordiv_int hj ⟨.int _, H, I.tok _, ⟨_, rfl⟩, q⟩ (.inl (noPylong_big hi))
  · exact floordiv_int hj ⟨.int _, H, I.tok _, ⟨_, rfl⟩, q⟩ (.inl (noPylong_low hi))
end
end AL
set_option Elab.async false
set_option maxRecDepth 100000
set_option exponentiation.threshold 70000
set_option maxHeartbeats 4000000
/-! Texts as rows of codes: slices, prefixes, repeated texts, tuple(text). -/
namespace AL
open PySem PySem.Spec PyProof.Rows L2
abbrev S (l : List Nat) : Str := ⟨l.toArray⟩
theorem S_of (z : Str) : ∃ l, z = S l := ⟨z.cps.toList, by cases z; rfl⟩
theorem S_len (l : List Nat) : (S l).length = l.length := by simp [S, Str.length]
theorem S_tl (l : List Nat) : (S l).cps.toList = l := rfl
theorem S_inj {a b : List Nat} : S a = S b ↔ a = b := ⟨fun h => congrArg (fun x : Str => x.cps.toList) h, fun h => by rw [h]⟩
theorem cut_mid (l : List Nat) (i j : Nat) : cutS (S l) (some (i : Int)) (some (j : Int)) = S ((l.take j).drop i) := by
  unfold cutS
  rw [HT.sIx_nat, HT.sIx_nat, S_len]
  refine S_inj.mpr ?_
  show (l.drop (min i l.length)).take (min j l.length - min i l.length) = _
  rw [← List.drop_take]
  have e1 : l.take (min j l.length) = l.take j := by
    refine (List.take_eq_take_iff).mpr ?_
    omega
  rw [e1]
  by_cases h : i ≤ l.length
  · rw [Nat.min_eq_left h]
  · rw [Nat.min_eq_right (by omega), List.drop_eq_nil_of_le (by rw [List.length_take]; omega), List.drop_eq_nil_of_le (by rw [List.length_take]; omega)]
theorem cut_to (l : List Nat) (j : Nat) : cutS (S l) none (some (j : Int)) = S (l.take j) := by
  have e := cut_mid l 0 j
  have z : HT.sIx (S l).length 0 none = HT.sIx (S l).length 0 (some ((0 : Nat) : Int)) := by rw [HT.sIx_nat]; simp [HT.sIx]
  unfold cutS at e ⊢
  rw [z, e, List.drop_zero]
theorem minusS : ("-" : Str) = S [45] := by kernel_rfl
theorem slashS : ("/" : Str) = S [47] := by kernel_rfl
theorem emptyS : ("" : Str) = S [] := by kernel_rfl
theorem digitsS : ("0123456789" : Str) = S [48, 49, 50, 51, 52, 53, 54, 55, 56, 57] := by kernel_rfl
/-- whether a row of codes begins with a minus -/
def neg (l : List Nat) : Bool := decide (l[0]? = some 45)
theorem starts_minus (l : List Nat) : Txt.startswith (S l) "-" = neg l := by
  rw [minusS]
  unfold Txt.startswith neg
  rw [StrLaws.subAt_eq, S_len, S_len, S_tl, S_tl]
  cases l with
  | nil => rfl
  | cons c l =>
    by_cases h : c = 45
    · subst h; simp
    · simp [h]
theorem strip_minus {l : List Nat} (h : ∀ c, (l.drop (neg l).toNat)[0]? = some c → c ≠ 45) : Txt.lstripChars (S l) "-" = S (l.drop (neg l).toNat) := by
  rw [minusS]
  have key : ∀ m : List Nat, (∀ c, m[0]? = some c → c ≠ 45) → m.takeWhile ((S [45]).cps.contains) = [] := by
    intro m hm
    cases m with
    | nil => rfl
    | cons c m =>
      have : c ≠ 45 := hm c rfl
      have z : ((S [45]).cps.contains c) = false := by
        show (#[45] : Array Nat).contains c = false
        simp [this]
      rw [List.takeWhile_cons, z]; rfl
  unfold Txt.lstripChars Txt.stripBy
  cases l with
  | nil => rfl
  | cons c l =>
    by_cases hc : c = 45
    · subst hc
      have hn : neg (45 :: l) = true := by simp [neg]
      rw [hn] at h ⊢
      have hk := key l (fun d e => h d e)
      have lo : stripLo ((S [45]).cps.contains) true (S (45 :: l)) = 1 := by
        show ((45 :: l).takeWhile _).length = 1
        rw [List.takeWhile_cons, show ((S [45]).cps.contains 45) = true by show (#[45] : Array Nat).contains 45 = true; simp, if_pos rfl, hk]; rfl
      have ne : stripSame ((S [45]).cps.contains) true false (S (45 :: l)) = false := by
        unfold stripSame
        rw [lo]; rfl
      rw [ne, if_neg (by decide)]
      unfold stripped
      rw [lo]
      show Builtin.Str.strSub (S (45 :: l)) 1 (S (45 :: l)).length = S l
      rw [S_len, strSub_mk]
      refine S_inj.mpr ?_
      show List.take _ ((45 :: l).drop 1) = l
      simp
    · have hn : neg (c :: l) = false := by simp [neg, hc]
      rw [hn] at h ⊢
      have hk := key (c :: l) (fun d e => by simp at e; rw [← e]; exact hc)
      have same : stripSame ((S [45]).cps.contains) true false (S (c :: l)) = true := by
        unfold stripSame
        have lo : stripLo ((S [45]).cps.contains) true (S (c :: l)) = 0 := by
          show ((c :: l).takeWhile _).length = 0
          rw [hk]; rfl
        rw [lo]
        simp [stripHi]
      rw [same, if_pos rfl]
      rfl
theorem pair_ix {α β : Type} {F : α → β → Prop} : ∀ {xs : List α} {ys : List β}, xs.length = ys.length → (∀ (j : Nat) x y, xs[j]? = some x → ys[j]? = some y → F x y) → Paired F xs ys
  | [], [], _, _ => .nil
  | [], _ :: _, h, _ => by cases h
  | _ :: _, [], h, _ => by cases h
  | x :: xs, y :: ys, h, k => .cons (k 0 x y rfl rfl) (pair_ix (Nat.succ.inj h) fun j a b e f => k (j + 1) a b e f)
/-! ### the rules -/
section
variable {X : Cx}
/-- z * k, z a short text -/
theorem op_mulS : OpR X (binaryOp .Mult) (fun x y H Q => ∃ (z : Str) (k : Nat), x = .str z ∧ y = .int (k : Int) ∧ z.length ≤ 10 ∧ k ≤ 10000 ∧ ∀ z' : Str, z'.length ≤ z.length * k → Q (.str z') H) := by
  intro pins s σ H x y v u Q I rx ry h
  obtain ⟨z, k, rfl, rfl, hz, hk, q⟩ := h
  obtain ⟨t, rfl⟩ := rx
  obtain ⟨t', rfl⟩ := ry
  have hfit : z.length * k ≤ 100000 := Nat.le_trans (Nat.mul_le_mul hz hk) (by decide)
  refine SB.mul ⟨?_, fun h1 _ => ?_, fun _ _ => ?_⟩ fun tk n => ⟨.str _, H, I.tok _, ⟨_, rfl⟩, q _ ?_⟩
  · rw [Bool.or_eq_false_iff]
    exact ⟨decide_eq_false (by omega), decide_eq_false (by omega)⟩
  · have hk0 : 0 < (k : Int) := by omega
    have : ((2 : Int) ^ 63 - 1) / (k : Int) ≥ 10 := by
      rw [ge_iff_le, Int.le_ediv_iff_mul_le hk0]
      have : (10 : Int) * k ≤ 100000 := by omega
      exact Int.le_trans this (by decide)
    omega
  · unfold Builtin.Str.tooLong
    rw [Int.toNat_natCast]
    refine decide_eq_false (Nat.not_lt.mpr (Nat.le_trans hfit (by decide)))
  · unfold Txt.mul
    split
    · exact Nat.zero_le _
    · split
      · rename_i h1 h2
        have hk1 : 1 ≤ k := by omega
        exact Nat.le_mul_of_pos_right _ hk1
      · rw [Int.toNat_natCast]
        have key : ∀ (n : Nat) (acc : Array Nat), ((List.replicate n z.cps).foldl (· ++ ·) acc).size = acc.size + n * z.cps.size := by
          intro n
          induction n with
          | zero => intro acc; simp
          | succ n ih => intro acc; rw [List.replicate_succ, List.foldl_cons, ih, Array.size_append, Nat.succ_mul]; omega
        show ((List.replicate k z.cps).foldl (· ++ ·) #[]).size ≤ z.length * k
        rw [key, Nat.mul_comm k]
        show 0 + z.cps.size * k ≤ z.cps.size * k
        omega
/-- tuple(text) -/
theorem call_tuple_text (hh : X.A.handled = none) : CallR X (.type "tuple") (fun xs H Q => ∃ l : List Nat, xs = [.str (S l)] ∧ l.length ≤ sizeLine ∧ ∀ p, H p = none → Q (.ref p) (upd H p (.tup (l.map fun c => V.str (S [c]))))) := by
  intro pins s σ H xs us Q I r h
  obtain ⟨l, rfl, hl, q⟩ := h
  obtain ⟨u, rfl, t, rfl⟩ := vals1 r
  have hsz : (S l).cps.size = l.length := by simp [S]
  refine call_tuple_str hh _ _ (fun h' tk acc kp it => ?_) (by rw [hsz]; exact hl)
  have gone : s.heap.get? h'.objs.size = none := by
    cases e : s.heap.get? h'.objs.size with
    | none => rfl
    | some o =>
      have z := kp _ _ e
      rw [Heap.get?_none_of_le (Nat.le_refl _)] at z
      cases z
  have fresh : H h'.objs.size = none := I.hok.gone gone
  have vals : Vals (l.map fun c => V.str (S [c])) acc.toList := by
    obtain ⟨i1, i2⟩ := it
    rw [hsz] at i1
    refine pair_ix (by rw [List.length_map]; exact i1.symm.trans Array.length_toList.symm) fun j x y hx hy => ?_
    rw [List.getElem?_map] at hx
    rw [Array.getElem?_toList] at hy
    obtain ⟨c, u, e1, e2⟩ := i2 j y hy
    have e1' : l[j]? = some c := by simpa [S] using e1
    rw [e1'] at hx
    cases hx
    exact ⟨u, e2⟩
  have I2 : Inv X pins σ (upd H h'.objs.size (.tup (l.map fun c => V.str (S [c])))) { s with heap := h'.push { cls := .type "tuple", data := .seq acc }, toks := tk } :=
    I.laidN (t' := tk) (fun b o e => Heap.get?_push_of_some _ (kp b o e)) gone fresh (show ObjOk X.prog X.w _ _ _ (.tup _) from ⟨by rw [List.length_map]; exact hl, acc.toList, vals, by
      rw [show acc.toList.toArray = acc by simp]; exact IsTup.new _ _⟩)
  exact ⟨.ref h'.objs.size, _, I2, rfl, q _ fresh⟩
end
end AL
set_option Elab.async false
set_option maxRecDepth 100000
set_option exponentiation.threshold 70000
/-! What a text of a ratio is read as. -/
namespace AL
open PySem L2 PySem.NumText
def isD (c : Nat) : Bool := decide (48 ≤ c) && decide (c ≤ 57)
theorem isD_mem (c : Nat) : isD c = decide (c ∈ [48, 49, 50, 51, 52, 53, 54, 55, 56, 57]) := by
  unfold isD
  by_cases h : 48 ≤ c ∧ c ≤ 57
  · have : c ∈ [48, 49, 50, 51, 52, 53, 54, 55, 56, 57] := by simp; omega
    simp [h.1, h.2, this]
  · have : ¬ c ∈ [48, 49, 50, 51, 52, 53, 54, 55, 56, 57] := by simp; omega
    simp [this]; omega
/-- where the digits that begin at i end -/
def dEnd (l : List Nat) (i : Nat) : Nat := i + ((l.drop i).takeWhile isD).length
theorem dEnd_ge (l : List Nat) (i : Nat) : i ≤ dEnd l i := Nat.le_add_right _ _
theorem tw_le {p : Nat → Bool} : ∀ l : List Nat, (l.takeWhile p).length ≤ l.length
  | [] => Nat.le_refl _
  | c :: l => by
    rw [List.takeWhile_cons]
    split
    · exact Nat.succ_le_succ (tw_le l)
    · exact Nat.zero_le _
theorem tw_at {p : Nat → Bool} : ∀ (l : List Nat) (j : Nat) (c : Nat), j < (l.takeWhile p).length → l[j]? = some c → p c = true
  | [], j, c, h, _ => by cases h
  | d :: l, j, c, h, e => by
    rw [List.takeWhile_cons] at h
    split at h
    · rename_i hd
      cases j with
      | zero => cases e; exact hd
      | succ j => exact tw_at l j c (Nat.lt_of_succ_lt_succ h) e
    · cases h
theorem tw_end {p : Nat → Bool} : ∀ (l : List Nat) (c : Nat), l[(l.takeWhile p).length]? = some c → p c = false
  | [], c, e => by cases e
  | d :: l, c, e => by
    rw [List.takeWhile_cons] at e
    split at e
    · exact tw_end l c e
    · rename_i hd
      cases e
      exact Bool.eq_false_iff.mpr hd
theorem dEnd_le {l : List Nat} {i : Nat} (h : i ≤ l.length) : dEnd l i ≤ l.length := by
  have := tw_le (p := isD) (l.drop i)
  rw [List.length_drop] at this
  unfold dEnd; omega
theorem dEnd_in {l : List Nat} {i j c : Nat} (h0 : i ≤ j) (h : j < dEnd l i) (e : l[j]? = some c) : isD c = true := by
  refine tw_at (l.drop i) (j - i) c (by unfold dEnd at h; omega) ?_
  rw [List.getElem?_drop, show i + (j - i) = j by omega]
  exact e
theorem dEnd_out {l : List Nat} {i c : Nat} (e : l[dEnd l i]? = some c) : isD c = false := by
  refine tw_end (l.drop i) c ?_
  rw [List.getElem?_drop]
  exact e
/-- the row of digits from i on -/
def rowAt (l : List Nat) (i j : Nat) : List Nat := (l.take j).drop i
theorem rowAt_len {l : List Nat} {i j : Nat} (h : j ≤ l.length) : (rowAt l i j).length = j - i := by
  unfold rowAt
  rw [List.length_drop, List.length_take]; omega
theorem rowAt_digits {l : List Nat} {i : Nat} : AllDigits (rowAt l i (dEnd l i)) := by
  intro c hc
  obtain ⟨j, hj⟩ := List.mem_iff_getElem?.mp hc
  unfold rowAt at hj
  rw [List.getElem?_drop, List.getElem?_take] at hj
  split at hj
  · have := dEnd_in (Nat.le_add_right i j) (by assumption) hj
    unfold isD at this
    simpa using this
  · cases hj
inductive Res | text (c : Nat) | large (n : Nat) | ratio (p q : Int)
/-- the first sign's place behind a minus -/
def fst0 (l : List Nat) : Nat := if neg l = true then 1 else 0
def mid0 (l : List Nat) : Nat := dEnd l (fst0 l)
def end0 (l : List Nat) : Nat := dEnd l (mid0 l + 1)
def slash0 (l : List Nat) : Bool := decide (l[mid0 l]? = some 47)
def sgn (l : List Nat) (n : Int) : Int := if neg l = true then -n else n
def topV (l : List Nat) : Nat := digitsVal (rowAt l (fst0 l) (mid0 l))
def botV (l : List Nat) : Nat := digitsVal (rowAt l (mid0 l + 1) (end0 l))
def red (a b : Nat) : Int × Int := (((a / Nat.gcd a b : Nat) : Int), ((b / Nat.gcd a b : Nat) : Int))
def res (l : List Nat) : Res :=
  if mid0 l = fst0 l then .text (fst0 l + 1) else
  if slash0 l = true then
    if end0 l = mid0 l + 1 then .text (end0 l + 1) else
    if end0 l < l.length then .text (end0 l + 1) else
    if 4000 < mid0 l - fst0 l then .large (mid0 l - fst0 l) else
    if 4000 < end0 l - (mid0 l + 1) then .large (end0 l - (mid0 l + 1)) else
    if botV l = 0 then .text (mid0 l + 2) else .ratio (sgn l (red (topV l) (botV l)).1) (red (topV l) (botV l)).2
  else if mid0 l < l.length then .text (mid0 l + 1) else
    if 4000 < mid0 l - fst0 l then .large (mid0 l - fst0 l) else .ratio (sgn l (topV l)) 1
/-- the first wrong column, 0 if there is none -/
def wcol (l : List Nat) : Nat :=
  if mid0 l = fst0 l then fst0 l + 1 else
  if slash0 l = true then if end0 l = mid0 l + 1 ∨ end0 l < l.length then end0 l + 1 else 0
  else if mid0 l < l.length then mid0 l + 1 else 0
theorem fst0_le (l : List Nat) : fst0 l ≤ l.length := by
  unfold fst0 neg
  cases l with
  | nil => decide
  | cons c l => split <;> simp
theorem mid0_le (l : List Nat) : mid0 l ≤ l.length := dEnd_le (fst0_le l)
theorem fst_mid (l : List Nat) : fst0 l ≤ mid0 l := dEnd_ge _ _
theorem slash_lt {l : List Nat} (h : slash0 l = true) : mid0 l < l.length := by
  have := of_decide_eq_true h
  exact (List.getElem?_eq_some_iff.mp this).1
theorem end0_le {l : List Nat} (h : slash0 l = true) : end0 l ≤ l.length := dEnd_le (slash_lt h)
theorem res_bad {l : List Nat} (h : 0 < wcol l) : res l = .text (wcol l) := by
  unfold wcol at h ⊢
  unfold res
  by_cases h1 : mid0 l = fst0 l
  · rw [if_pos h1, if_pos h1]
  · rw [if_neg h1] at h ⊢
    rw [if_neg h1]
    by_cases h2 : slash0 l = true
    · rw [if_pos h2] at h ⊢
      rw [if_pos h2]
      by_cases h3 : end0 l = mid0 l + 1
      · rw [if_pos h3, if_pos (.inl h3)]
      · rw [if_neg h3]
        by_cases h4 : end0 l < l.length
        · rw [if_pos h4, if_pos (.inr h4)]
        · rw [if_neg (by omega)] at h
          omega
    · rw [if_neg h2] at h ⊢
      rw [if_neg h2]
      by_cases h4 : mid0 l < l.length
      · rw [if_pos h4, if_pos h4]
      · rw [if_neg h4] at h
        omega
/-- a text without a wrong column -/
theorem wcol0 {l : List Nat} (h : wcol l = 0) : fst0 l < mid0 l ∧ ((slash0 l = true ∧ mid0 l + 1 < end0 l ∧ end0 l = l.length) ∨ (slash0 l = false ∧ mid0 l = l.length)) := by
  have a1 := fst_mid l
  have a2 := mid0_le l
  unfold wcol at h
  by_cases h1 : mid0 l = fst0 l
  · rw [if_pos h1] at h; omega
  · rw [if_neg h1] at h
    refine ⟨by omega, ?_⟩
    by_cases h2 : slash0 l = true
    · rw [if_pos h2] at h
      have a3 := end0_le h2
      have a4 : mid0 l + 1 ≤ end0 l := dEnd_ge _ _
      by_cases h3 : end0 l = mid0 l + 1 ∨ end0 l < l.length
      · rw [if_pos h3] at h; omega
      · exact .inl ⟨h2, by omega, by omega⟩
    · rw [if_neg h2] at h
      by_cases h4 : mid0 l < l.length
      · rw [if_pos h4] at h; omega
      · exact .inr ⟨Bool.eq_false_iff.mpr h2, by omega⟩
theorem res_ok {l : List Nat} (h : wcol l = 0) : res l =
    if 4000 < mid0 l - fst0 l then .large (mid0 l - fst0 l) else
    if slash0 l = true then if 4000 < end0 l - (mid0 l + 1) then .large (end0 l - (mid0 l + 1)) else
      if botV l = 0 then .text (mid0 l + 2) else .ratio (sgn l (red (topV l) (botV l)).1) (red (topV l) (botV l)).2
    else .ratio (sgn l (topV l)) 1 := by
  obtain ⟨h1, h2⟩ := wcol0 h
  unfold res
  rw [if_neg (by omega)]
  rcases h2 with ⟨e, h3, h4⟩ | ⟨e, h3⟩
  · rw [if_pos e, if_pos e, if_neg (by omega), if_neg (by omega)]
  · rw [if_neg (by rw [e]; decide), if_neg (by omega)]
    split
    · rfl
    · rw [if_neg (by rw [e]; decide)]
/-! ### Euclid's steps -/
def pairOk (a b : Nat) (i x y : Nat) : Prop := Nat.gcd x y = Nat.gcd a b ∧ (i = 0 → x = a ∧ y = b) ∧ (0 < i → y ≤ x ∧ x * y * 2 ^ (i - 1) ≤ a * b)
theorem pairOk0 (a b : Nat) : pairOk a b 0 a b := ⟨rfl, fun _ => ⟨rfl, rfl⟩, fun h => absurd h (Nat.lt_irrefl _)⟩
theorem pairOk_step {a b i x y : Nat} (h : pairOk a b i x y) (hy : y ≠ 0) : pairOk a b (i + 1) y (x % y) := by
  obtain ⟨h1, h2, h3⟩ := h
  have hlt : x % y < y := Nat.mod_lt _ (by omega)
  refine ⟨?_, fun z => by omega, fun _ => ⟨Nat.le_of_lt hlt, ?_⟩⟩
  · rw [← h1, Nat.gcd_comm x y, Nat.gcd_rec y x, Nat.gcd_comm]
  · rw [Nat.add_sub_cancel]
    by_cases hi : i = 0
    · obtain ⟨rfl, rfl⟩ := h2 hi
      subst hi
      rw [Nat.pow_zero, Nat.mul_one, Nat.mul_comm x y]
      exact Nat.mul_le_mul_left _ (Nat.mod_le _ _)
    · obtain ⟨h4, h5⟩ := h3 (by omega)
      obtain ⟨j, rfl⟩ : ∃ j, i = j + 1 := ⟨i - 1, by omega⟩
      rw [Nat.add_sub_cancel] at h5
      have half : 2 * (x % y) ≤ x := by
        have e := Nat.div_add_mod x y
        have hq : 1 ≤ x / y := (Nat.le_div_iff_mul_le (by omega)).mpr (by omega)
        have hm : y ≤ y * (x / y) := Nat.le_mul_of_pos_right _ hq
        omega
      refine Nat.le_trans ?_ h5
      rw [Nat.pow_succ, Nat.mul_comm (2 ^ j) 2, ← Nat.mul_assoc]
      refine Nat.mul_le_mul_right _ ?_
      rw [Nat.mul_assoc, Nat.mul_comm (x % y) 2, Nat.mul_comm x y]
      exact Nat.mul_le_mul_left _ half
theorem pairOk_zero {a b x y : Nat} (h : pairOk a b 60000 x y) (ha : a < 10 ^ 6000) (hb : b < 10 ^ 6000) : y = 0 := by
  obtain ⟨_, _, h3⟩ := h
  obtain ⟨h4, h5⟩ := h3 (by decide)
  by_cases hz : y = 0
  · exact hz
  · exfalso
    have hab : a * b < 10 ^ 6000 * 10 ^ 6000 := Nat.mul_lt_mul_of_lt_of_lt ha hb
    have hxy : 1 ≤ x * y := Nat.mul_pos (by omega) (by omega)
    have : 1 * 2 ^ (60000 - 1) ≤ x * y * 2 ^ (60000 - 1) := Nat.mul_le_mul_right _ hxy
    have big : (10 : Nat) ^ 6000 * 10 ^ 6000 ≤ 1 * 2 ^ (60000 - 1) := by decide +kernel
    omega
theorem pairOk_end {a b i x : Nat} (h : pairOk a b i x 0) : x = Nat.gcd a b := by
  have := h.1
  rwa [Nat.gcd_zero_right] at this
end AL
set_option Elab.async false
set_option maxRecDepth 100000
set_option exponentiation.threshold 70000
/-! The texts within a text of a ratio. -/
namespace AL
open PySem L2 PySem.NumText
def N4 : Nat := 10 ^ 4000
def N6 : Nat := 10 ^ 6000
theorem pow4000 : N4 < 2 ^ 13500 := by unfold N4; decide +kernel
theorem pow46 : N4 ≤ N6 := Nat.pow_le_pow_right (by decide) (by decide)
theorem no_slash {l : List Nat} : ∀ c ∈ l.take (mid0 l), c ≠ 47 := by
  intro c hc
  obtain ⟨j, hj⟩ := List.mem_iff_getElem?.mp hc
  rw [List.getElem?_take] at hj
  split at hj
  · rename_i hlt
    by_cases h : fst0 l ≤ j
    · have := dEnd_in h hlt hj
      intro e
      rw [e] at this
      exact absurd this (by decide)
    · have hf : fst0 l = 1 ∧ neg l = true := by
        unfold fst0 at h ⊢
        by_cases hn : neg l = true
        · exact ⟨if_pos hn, hn⟩
        · rw [if_neg hn] at h; omega
      have hj0 : j = 0 := by omega
      subst hj0
      have := of_decide_eq_true hf.2
      rw [this] at hj
      cases hj
      decide
  · cases hj
theorem S_app (a b : List Nat) : S a ++ S b = S (a ++ b) := TL.ext_tl (TL.tl_append (S a) (S b))
theorem part_slash {l : List Nat} (e : slash0 l = true) : Txt.partition (S l) "/" = (S (l.take (mid0 l)), ("/" : Str), S (l.drop (mid0 l + 1))) := by
  have hs := of_decide_eq_true e
  have hl : l = l.take (mid0 l) ++ ([47] ++ l.drop (mid0 l + 1)) := by
    have h1 : l.drop (mid0 l) = 47 :: l.drop (mid0 l + 1) := by
      obtain ⟨h2, h3⟩ := List.getElem?_eq_some_iff.mp hs
      rw [List.drop_eq_getElem_cons h2, h3]
    rw [List.singleton_append, ← h1, List.take_append_drop]
  have := TL.partition_app (y := S [47]) (s := 47) (S := []) rfl (a := S (l.take (mid0 l))) (b := S (l.drop (mid0 l + 1))) (fun h => no_slash 47 h rfl)
  rw [S_app, S_app, List.append_assoc, ← hl] at this
  rw [slashS]
  exact this
theorem part_none {l : List Nat} (e : mid0 l = l.length) : Txt.partition (S l) "/" = (S l, Str.empty, Str.empty) := by
  rw [slashS]
  refine TL.partition_none (y := S [47]) (s := 47) (S := []) rfl fun h => ?_
  have h' : 47 ∈ l := h
  refine no_slash (l := l) 47 ?_ rfl
  rw [e, List.take_length]
  exact h'
theorem fst_eq (l : List Nat) : fst0 l = (neg l).toNat := by
  unfold fst0
  cases neg l <;> rfl
theorem neg_take {l : List Nat} (h : fst0 l < mid0 l) : neg (l.take (mid0 l)) = neg l := by
  unfold neg
  rw [List.getElem?_take, if_pos (by omega)]
theorem head_top {l : List Nat} (h : fst0 l < mid0 l) : ∃ c, (rowAt l (fst0 l) (mid0 l))[0]? = some c ∧ isD c = true := by
  have hl : fst0 l < l.length := Nat.lt_of_lt_of_le h (mid0_le l)
  have e : (rowAt l (fst0 l) (mid0 l))[0]? = some l[fst0 l] := by
    unfold rowAt
    rw [List.getElem?_drop, List.getElem?_take, Nat.add_zero, if_pos h, List.getElem?_eq_getElem hl]
  exact ⟨_, e, dEnd_in (Nat.le_refl _) h (List.getElem?_eq_getElem hl)⟩
theorem strip_top {l : List Nat} (h : fst0 l < mid0 l) : Txt.lstripChars (S (l.take (mid0 l))) "-" = S (rowAt l (fst0 l) (mid0 l)) := by
  obtain ⟨c, hc, hd⟩ := head_top h
  have e : (l.take (mid0 l)).drop (neg (l.take (mid0 l))).toNat = rowAt l (fst0 l) (mid0 l) := by
    rw [neg_take h, ← fst_eq]; rfl
  rw [strip_minus, e]
  intro d hdd
  rw [e, hc] at hdd
  cases hdd
  intro z
  rw [z] at hd
  exact absurd hd (by decide)
theorem row_int {l : List Nat} {i : Nat} (h : i < dEnd l i) (hi : i ≤ l.length) (h4 : dEnd l i - i ≤ 4000) : intText? (S (rowAt l i (dEnd l i))) = some ((digitsVal (rowAt l i (dEnd l i)) : Nat) : Int) := by
  have hlen := rowAt_len (l := l) (i := i) (dEnd_le hi)
  refine intText_digits rowAt_digits (fun z => ?_) ?_
  · have : (rowAt l i (dEnd l i)).length = 0 := congrArg List.length z
    omega
  · rw [S_len, hlen]; omega
theorem int_top {l : List Nat} (h : fst0 l < mid0 l) (h4 : mid0 l - fst0 l ≤ 4000) : intText? (S (l.take (mid0 l))) = some (sgn l (topV l)) := by
  have hlen := rowAt_len (l := l) (i := fst0 l) (mid0_le l)
  have hf := fst0_le l
  have hm := mid0_le l
  by_cases hn : neg l = true
  · have hf1 : fst0 l = 1 := by unfold fst0; rw [if_pos hn]
    have h0 : l[0]? = some 45 := of_decide_eq_true hn
    have ht : l.take (mid0 l) = 45 :: rowAt l (fst0 l) (mid0 l) := by
      unfold rowAt
      rw [hf1]
      cases l with
      | nil => cases h0
      | cons c l' =>
        simp at h0
        subst h0
        obtain ⟨j, hj⟩ : ∃ j, mid0 (45 :: l') = j + 1 := ⟨mid0 (45 :: l') - 1, by omega⟩
        rw [hj]; rfl
    rw [intText_neg (cs := rowAt l (fst0 l) (mid0 l)) ht rowAt_digits (fun z => by
      have : (rowAt l (fst0 l) (mid0 l)).length = 0 := congrArg List.length z
      omega) (by rw [S_len, List.length_take]; omega)]
    unfold sgn
    rw [if_pos hn]
    rfl
  · have hf0 : fst0 l = 0 := by unfold fst0; rw [if_neg hn]
    have ht : l.take (mid0 l) = rowAt l (fst0 l) (mid0 l) := by unfold rowAt; rw [hf0]; rfl
    rw [ht]
    unfold sgn
    rw [if_neg hn]
    exact row_int h hf h4
theorem bot_eq {l : List Nat} (e : end0 l = l.length) : l.drop (mid0 l + 1) = rowAt l (mid0 l + 1) (end0 l) := by
  unfold rowAt
  rw [e, List.take_length]
theorem topV_lt {l : List Nat} (h4 : mid0 l - fst0 l ≤ 4000) : topV l < N4 := by
  have := digitsVal_lt _ _ rfl (rowAt_digits (l := l) (i := fst0 l))
  rw [rowAt_len (dEnd_le (fst0_le l))] at this
  exact Nat.lt_of_lt_of_le this (Nat.pow_le_pow_right (by decide) h4)
theorem botV_lt {l : List Nat} (e : slash0 l = true) (h4 : end0 l - (mid0 l + 1) ≤ 4000) : botV l < N4 := by
  have := digitsVal_lt _ _ rfl (rowAt_digits (l := l) (i := mid0 l + 1))
  rw [rowAt_len (dEnd_le (slash_lt e))] at this
  exact Nat.lt_of_lt_of_le this (Nat.pow_le_pow_right (by decide) h4)
theorem sgn_abs (l : List Nat) (n : Nat) : (sgn l (n : Int)).natAbs = n := by
  unfold sgn
  split <;> omega
theorem sgn_div (l : List Nat) (a b : Nat) : (sgn l (a : Int)).fdiv ((Nat.gcd a b : Nat) : Int) = sgn l ((a / Nat.gcd a b : Nat) : Int) := by
  have hd : ((Nat.gcd a b : Nat) : Int) ∣ (a : Int) := Int.natCast_dvd_natCast.mpr (Nat.gcd_dvd_left a b)
  unfold sgn
  split
  · rw [Int.fdiv_eq_ediv_of_nonneg _ (Int.natCast_nonneg _), Int.neg_ediv_of_dvd hd]
    rfl
  · rw [Int.fdiv_eq_ediv_of_nonneg _ (Int.natCast_nonneg _)]
    rfl
end AL
set_option Elab.async false
set_option maxRecDepth 100000
set_option exponentiation.threshold 70000
/-! Whole roots by Newton's steps; how many digits a number has. -/
namespace AL
open PySem L2 PySem.NumText
theorem tangent (g r : Nat) : ∀ k : Nat, (k + 1) * r * g ^ k ≤ r ^ (k + 1) + k * g ^ (k + 1)
  | 0 => by simp
  | k + 1 => by
    have ih := tangent g r k
    have h1 : (k + 1) * r * g ^ k * r ≤ (r ^ (k + 1) + k * g ^ (k + 1)) * r := Nat.mul_le_mul_right r ih
    have sq : 2 * (r * g) ≤ r * r + g * g := by
      rcases Nat.le_total r g with h | h
      · obtain ⟨d, rfl⟩ := Nat.le.dest h
        simp only [Nat.mul_add, Nat.add_mul]
        have : r * d = d * r := Nat.mul_comm _ _
        omega
      · obtain ⟨d, rfl⟩ := Nat.le.dest h
        simp only [Nat.mul_add, Nat.add_mul]
        have : g * d = d * g := Nat.mul_comm _ _
        omega
    have h2 := Nat.mul_le_mul_left ((k + 1) * g ^ k) sq
    have e1 : (k + 1) * r * g ^ k * r = (k + 1) * g ^ k * (r * r) := by
      simp only [Nat.mul_assoc, Nat.mul_comm, Nat.mul_left_comm]
    have e2 : (r ^ (k + 1) + k * g ^ (k + 1)) * r = r ^ (k + 2) + k * (g ^ (k + 1) * r) := by
      rw [Nat.add_mul, ← Nat.pow_succ, Nat.mul_assoc]
    have e3 : (k + 1) * g ^ k * (2 * (r * g)) = 2 * ((k + 1) * (g ^ (k + 1) * r)) := by
      rw [Nat.pow_succ]
      simp only [Nat.mul_assoc, Nat.mul_comm, Nat.mul_left_comm]
    have e4 : (k + 1) * g ^ k * (r * r + g * g) = (k + 1) * g ^ k * (r * r) + (k + 1) * g ^ (k + 2) := by
      rw [Nat.mul_add, Nat.pow_succ, Nat.pow_succ]
      simp only [Nat.mul_assoc]
    have e5 : (k + 1 + 1) * r * g ^ (k + 1) = (k + 1) * (g ^ (k + 1) * r) + g ^ (k + 1) * r := by
      rw [Nat.add_mul (k + 1) 1 r, Nat.one_mul, Nat.add_mul, Nat.mul_assoc, Nat.mul_comm r (g ^ (k + 1))]
    rw [e1, e2] at h1
    rw [e3, e4] at h2
    rw [e5]
    have e6 : (k + 1) * (g ^ (k + 1) * r) = k * (g ^ (k + 1) * r) + g ^ (k + 1) * r := by rw [Nat.add_mul, Nat.one_mul]
    have e7 : r ^ (k + 1 + 1) = r ^ (k + 2) := rfl
    have e8 : (k + 1) * g ^ (k + 1 + 1) = (k + 1) * g ^ (k + 2) := rfl
    rw [e7, e8]
    rw [e6] at h2 ⊢
    omega
/-- the next guess for the root j + 1 -/
def nstep (n j g : Nat) : Nat := (j * g + n / g ^ j) / (j + 1)
theorem nstep_ge {n j g r : Nat} (hg : 0 < g) (h : r ^ (j + 1) ≤ n) : r ≤ nstep n j g := by
  have t := tangent g r j
  have hp : 0 < g ^ j := Nat.pow_pos hg
  unfold nstep
  rw [Nat.le_div_iff_mul_le (Nat.succ_pos j)]
  have e : j * g + n / g ^ j = (n + j * g * g ^ j) / g ^ j := by
    rw [Nat.add_mul_div_right _ _ hp, Nat.add_comm]
  rw [e, Nat.le_div_iff_mul_le hp]
  have e2 : j * g ^ (j + 1) = j * g * g ^ j := by rw [Nat.pow_succ, Nat.mul_comm (g ^ j) g, Nat.mul_assoc]
  rw [Nat.mul_comm r (j + 1)]
  omega
theorem nstep_end {n j g : Nat} (hg : 0 < g) (h : g ≤ nstep n j g) : g ^ (j + 1) ≤ n := by
  have hp : 0 < g ^ j := Nat.pow_pos hg
  unfold nstep at h
  rw [Nat.le_div_iff_mul_le (Nat.succ_pos j)] at h
  have : g ≤ n / g ^ j := by
    rw [Nat.mul_succ, Nat.mul_comm g j] at h
    omega
  rw [Nat.le_div_iff_mul_le hp] at this
  rw [Nat.pow_succ, Nat.mul_comm]
  exact this
/-- the greatest number whose power k is at most n -/
def isRoot (n k g : Nat) : Prop := g ^ k ≤ n ∧ ∀ r, r ^ k ≤ n → r ≤ g
theorem isRoot_eq {n k g r : Nat} (h : isRoot n k g) (hk : 0 < k) (e : r ^ k = n) : g = r := by
  have h1 := h.2 r (Nat.le_of_eq e)
  rcases Nat.lt_or_ge r g with h2 | h2
  · have := Nat.pow_lt_pow_left h2 (by omega : k ≠ 0)
    have := h.1
    omega
  · omega
theorem start_ok {n k r : Nat} (hk : 0 < k) (h : r ^ k ≤ n) : r ≤ 2 ^ ((n.log2 + 1) / k + 1) := by
  rcases Nat.lt_or_ge (2 ^ ((n.log2 + 1) / k + 1)) r with h2 | h2
  · exfalso
    have h3 := Nat.pow_lt_pow_left h2 (by omega : k ≠ 0)
    rw [← Nat.pow_mul] at h3
    have h4 : n.log2 + 1 ≤ ((n.log2 + 1) / k + 1) * k := by
      have := Nat.div_add_mod (n.log2 + 1) k
      have hm := Nat.mod_lt (n.log2 + 1) hk
      rw [Nat.add_mul, Nat.one_mul, Nat.mul_comm]
      omega
    have h5 : 2 ^ (n.log2 + 1) ≤ 2 ^ (((n.log2 + 1) / k + 1) * k) := Nat.pow_le_pow_right (by decide) h4
    have h6 : n < 2 ^ (n.log2 + 1) := Nat.lt_log2_self
    omega
  · exact h2
/-- how many digits -/
def ndig (n : Nat) : Nat := (TL.numL n).length
theorem ndig_pos (n : Nat) : 0 < ndig n := List.length_pos_iff.mpr (TL.numL_ne n)
theorem lt_ndig (n : Nat) : n < 10 ^ ndig n := by
  have := digitsVal_lt _ _ rfl (TL.numL_digits n)
  rwa [TL.numL_val] at this
theorem ndig_le {n k : Nat} (hk : 0 < k) (h : n < 10 ^ k) : ndig n ≤ k := TL.numL_len hk h
theorem ndig_lt {n k : Nat} (h : 10 ^ k ≤ n) : k < ndig n := by
  rcases Nat.lt_or_ge k (ndig n) with h1 | h1
  · exact h1
  · have := Nat.pow_le_pow_right (by decide : 0 < 10) h1
    have := lt_ndig n
    omega
theorem ndig_eq {n k : Nat} (h0 : 10 ^ k ≤ n) (h1 : n < 10 ^ (k + 1)) : ndig n = k + 1 := by
  have := ndig_lt h0
  have := ndig_le (Nat.succ_pos k) h1
  omega
theorem ndig_cut {n k : Nat} (h : 10 ^ k ≤ n) : ndig n = k + ndig (n / 10 ^ k) := by
  have hp : 0 < 10 ^ k := Nat.pow_pos (by decide)
  have hx : 1 ≤ n / 10 ^ k := (Nat.le_div_iff_mul_le hp).mpr (by omega)
  have a1 := lt_ndig (n / 10 ^ k)
  have a2 : n < 10 ^ (k + ndig (n / 10 ^ k)) := by
    rw [Nat.pow_add, Nat.mul_comm]
    exact (Nat.div_lt_iff_lt_mul hp).mp a1
  have b1 := ndig_le (by have := ndig_pos (n / 10 ^ k); omega) a2
  have c1 := ndig_lt h
  have c2 : n / 10 ^ k < 10 ^ (ndig n - k) := by
    rw [Nat.div_lt_iff_lt_mul hp, ← Nat.pow_add]
    rw [show ndig n - k + k = ndig n by omega]
    exact lt_ndig n
  have c3 := ndig_le (by omega) c2
  omega
end AL
set_option Elab.async false
set_option maxRecDepth 100000
set_option exponentiation.threshold 3000
/-! Data that stay, and that can be shown. -/
namespace AL
open PySem L2
mutual
theorem dp_mono {K : PySem.W.Frag} {H H' : Hp} (kl : ∀ a xs, SqL K H a xs → SqL K H' a xs) (kt : ∀ a xs, SqT K H a xs → SqT K H' a xs) : ∀ (d : PyData) (v : V), Dp K H v d → Dp K H' v d
  | .none, _, h => by cases h; exact .non
  | .bool b, _, h => by cases h; exact .bl b
  | .int i, _, h => by cases h; exact .int i
  | .str x, _, h => by cases h; exact .str x
  | .list ds, _, h => by
    cases h with
    | lst hs ha => exact .lst (kl _ _ hs) (dpAll_mono kl kt ds _ ha)
  | .tuple ds, _, h => by
    cases h with
    | tup hs ha => exact .tup (kt _ _ hs) (dpAll_mono kl kt ds _ ha)
  | .dict _, _, h => by cases h
theorem dpAll_mono {K : PySem.W.Frag} {H H' : Hp} (kl : ∀ a xs, SqL K H a xs → SqL K H' a xs) (kt : ∀ a xs, SqT K H a xs → SqT K H' a xs) : ∀ (ds : List PyData) (vs : List V), DpAll K H vs ds → DpAll K H' vs ds
  | [], _, h => by cases h; exact .nil
  | d :: ds, _, h => by
    cases h with
    | cons h1 h2 => exact .cons (dp_mono kl kt d _ h1) (dpAll_mono kl kt ds _ h2)
end
theorem same_seqT {K : PySem.W.Frag} {H H' : Hp} {a : Addr} {xs : List V} (e : Same H H') (h : SqT K H a xs) : SqT K H' a xs := by
  rcases h with (h | ⟨o, h⟩) | h
  · exact .inl (.inl (e _ _ h))
  · exact .inl (.inr ⟨o, e _ _ h⟩)
  · exact .inr h
theorem dp_same {K : PySem.W.Frag} {H H' : Hp} {v : V} {d : PyData} (s : Same H H') (h : Dp K H v d) : Dp K H' v d := dp_mono (fun _ _ z => Same.seq s z) (fun _ _ z => same_seqT s z) d v h
theorem dp_keep {K : PySem.W.Frag} {H H' : Hp} {p c : Addr} {m : Nat} {v : V} {d : PyData} (k : Keep p H H') (P : Pen H p c m) (h : Dp K H v d) : Dp K H' v d := dp_mono (fun _ _ z => k.seqL P z) (fun _ _ z => k.seqT P z) d v h
/-- can be shown, by few signs -/
structure OkD (d : PyData) : Prop where
  sh : d.showable = true
  nd : d.hasDict = false
  dp : d.depth ≤ 10
  ln : d.shown.length ≤ 1000
/-- some data that can be shown -/
def Datum (K : PySem.W.Frag) (H : Hp) (v : V) : Prop := ∃ d, Dp K H v d ∧ OkD d
theorem Datum.same {K : PySem.W.Frag} {H H' : Hp} {v : V} (h : Datum K H v) (s : Same H H') : Datum K H' v := by
  obtain ⟨d, h1, h2⟩ := h
  exact ⟨d, dp_same s h1, h2⟩
theorem Datum.keep {K : PySem.W.Frag} {H H' : Hp} {p c : Addr} {m : Nat} {v : V} (h : Datum K H v) (k : Keep p H H') (P : Pen H p c m) : Datum K H' v := by
  obtain ⟨d, h1, h2⟩ := h
  exact ⟨d, dp_keep k P h1, h2⟩
theorem datum_non {K : PySem.W.Frag} {H : Hp} : Datum K H .non := ⟨.none, .non, by decide +kernel, by decide +kernel, by decide +kernel, by decide +kernel⟩
theorem datum_bl {K : PySem.W.Frag} {H : Hp} (b : Bool) : Datum K H (.bl b) := by
  refine ⟨.bool b, .bl b, rfl, rfl, by show 0 ≤ 10; decide, ?_⟩
  cases b <;> decide +kernel
theorem okD_int {i : Int} (h : i.natAbs < 10 ^ 400) : OkD (.int i) := by
  have h2 : i.natAbs < 2 ^ 1920 := Nat.lt_trans (Nat.lt_of_lt_of_le h (Nat.pow_le_pow_right (by decide) (by decide : 400 ≤ 402))) pow402
  refine ⟨decide_eq_true (log2_small (by decide) h2), rfl, by show 0 ≤ 10; decide, ?_⟩
  show (Str.ofString (toString i)).length ≤ 1000
  have e : (Str.ofString (toString i)).length = (toString i).length := by
    rw [Str.ofString_eq_toList]
    show (((toString i).toList.map Char.toNat).toArray).size = _
    rw [List.size_toArray, List.length_map, String.length_toList]
  rw [e]
  have := int_text_length_le10 (by decide) h
  omega
theorem datum_int {K : PySem.W.Frag} {H : Hp} {i : Int} (h : i.natAbs < 10 ^ 400) : Datum K H (.int i) := ⟨.int i, .int i, okD_int h⟩
theorem datum_str {K : PySem.W.Frag} {H : Hp} {z : Str} (h : z.length ≤ 90) (hc : ∀ c ∈ z.cps.toList, c < 128) : Datum K H (.str z) := by
  refine ⟨.str z, .str z, rfl, rfl, by show 0 ≤ 10; decide, ?_⟩
  show (reprText z).length ≤ 1000
  have := StrLaws.reprText_len z (fun c hcc => Nat.lt_trans (hc c hcc) (by decide))
  omega
theorem okD_tup : ∀ (ds : List PyData), ds.length ≤ 3 → (∀ d ∈ ds, OkD d) → (PyData.tuple ds).showable = true ∧ (PyData.tuple ds).hasDict = false ∧ (PyData.tuple ds).depth ≤ 60 ∧ (PyData.tuple ds).shown.length ≤ sizeLine := by
  intro ds hl h
  have all : ∀ (ds : List PyData), (∀ d ∈ ds, OkD d) → PyData.showableAll ds = true ∧ PyData.hasDictAll ds = false ∧ PyData.depthAll ds ≤ 10 ∧ ((PyData.shownAll ds).map (·.length)).sum ≤ 1000 * ds.length ∧ (PyData.shownAll ds).length = ds.length := by
    intro ds
    induction ds with
    | nil => intro _; exact ⟨rfl, rfl, by decide, by decide, rfl⟩
    | cons d ds ih =>
      intro h
      obtain ⟨a1, a2, a3, a4, a5⟩ := ih fun x hx => h x (List.mem_cons_of_mem _ hx)
      have o := h d List.mem_cons_self
      have o1 := o.sh
      have o2 := o.nd
      have o3 := o.dp
      have o4 := o.ln
      refine ⟨?_, ?_, ?_, ?_, ?_⟩
      · simp only [PyData.showableAll, o1, a1, Bool.and_self]
      · simp only [PyData.hasDictAll, o2, a2, Bool.or_self]
      · simp only [PyData.depthAll]; omega
      · simp only [PyData.shownAll, List.map_cons, List.sum_cons, List.length_cons]; omega
      · simp only [PyData.shownAll, List.length_cons, a5]
  obtain ⟨a1, a2, a3, a4, a5⟩ := all ds h
  refine ⟨?_, ?_, ?_, ?_⟩
  · simpa only [PyData.showable] using a1
  · simpa only [PyData.hasDict] using a2
  · simp only [PyData.depth]; omega
  · simp only [PyData.shown]
    have := tupleText_len_le (PyData.shownAll ds)
    rw [a5] at this
    refine Nat.le_trans this ?_
    refine Nat.le_trans (show _ ≤ 10000 by omega) (by decide)
theorem dpAll_bl {K : PySem.W.Frag} {H : Hp} : ∀ l : List Bool, DpAll K H (l.map V.bl) (l.map PyData.bool)
  | [] => .nil
  | b :: l => .cons (.bl b) (dpAll_bl l)
theorem shaped_bl (l : List Bool) : SeqAt.shaped (.list (l.map PyData.bool)) = true := by
  have h1 : ∀ l : List Bool, PyData.canLayAll0 (l.map PyData.bool) = true ∧ PyData.depthAll (l.map PyData.bool) = 0 := by
    intro l
    induction l with
    | nil => exact ⟨rfl, rfl⟩
    | cons b l ih => exact ⟨by simp [PyData.canLayAll0, PyData.canLay0, ih.1], by simp [PyData.depthAll, PyData.depth, ih.2]⟩
  unfold SeqAt.shaped
  rw [show PyData.canLay0 (.list (l.map PyData.bool)) = true by simpa [PyData.canLay0] using (h1 l).1]
  simp [PyData.depth, (h1 l).2]
end AL
set_option Elab.async false
set_option maxRecDepth 100000
set_option exponentiation.threshold 70000
set_option maxHeartbeats 1000000
namespace AL
open PySem L2

/-- one sign, a digit -/
def oneD (m : List Nat) : Bool := match m with | [c] => isD c | _ => false
theorem in_dig (m : List Nat) : inV (.str (S m)) (([48, 49, 50, 51, 52, 53, 54, 55, 56, 57] : List Nat).map fun c => V.str (S [c])) = oneD m := by
  unfold inV
  have e : ∀ c, eqV (.str (S [c])) (.str (S m)) = decide ([c] = m) := fun c => by
    show decide (S [c] = S m) = decide ([c] = m)
    exact decide_eq_decide.mpr S_inj
  simp only [List.map_cons, List.map_nil, List.any_cons, List.any_nil, e]
  match m with
  | [] => rfl
  | [d] =>
    show _ = isD d
    rw [isD_mem]
    simp [eq_comm]
  | _ :: _ :: _ => simp [oneD]
theorem row_one {l : List Nat} {j : Nat} : rowAt l j (j + 1) = (l[j]?).toList := by
  unfold rowAt
  rw [List.take_add_one, List.drop_append]
  by_cases h : j ≤ l.length
  · rw [List.length_take, Nat.min_eq_left h, Nat.sub_self, List.drop_eq_nil_of_le (by rw [List.length_take]; omega), List.nil_append, List.drop_zero]
  · rw [List.getElem?_eq_none (by omega), List.drop_eq_nil_of_le (by rw [List.length_take]; omega)]
    simp

theorem fmod_nat (a b : Nat) : ((a : Int)).fmod ((b : Nat) : Int) = ((a % b : Nat) : Int) := by
  rw [Int.fmod_eq_emod_of_nonneg _ (Int.natCast_nonneg b)]
  rfl
theorem fdiv_nat (a b : Nat) : ((a : Int)).fdiv ((b : Nat) : Int) = ((a / b : Nat) : Int) := by
  rw [Int.fdiv_eq_ediv_of_nonneg _ (by omega)]
  rfl

/-- _law_gcd(a, b) -/
def spGcdL : Sp := fun vs H Q _ => ∃ (a b : Int), vs = [.int a, .int b] ∧ a.natAbs < N6 ∧ b.natAbs < N6 ∧ Q (.int ((Nat.gcd a.natAbs b.natAbs : Nat) : Int)) H
/-- _law_q(a, b) -/
def spQ : Sp := fun vs H Q _ => ∃ (a b : Nat), vs = [.int (a : Int), .int (b : Int)] ∧ a < N4 ∧ b < N4 ∧ b ≠ 0 ∧ ∀ t, H t = none → Q (.ref t) (upd H t (.tup [.int (red a b).1, .int (red a b).2]))
/-- _law_is_whole(i) -/
def spWhole : Sp := fun vs H Q _ => ∃ (i : Int), vs = [.int i] ∧ Q (.bl true) H
/-- _law_is_ratio(t) -/
def spIsRat (K : PySem.W.Frag) : Sp := fun vs H Q _ => ∃ (t : Addr) (a b : Int), vs = [.ref t] ∧ H t = some (.tup [.int a, .int b]) ∧ a.natAbs < N6 ∧ b.natAbs < N6 ∧ 0 < b ∧ Nat.gcd a.natAbs b.natAbs = 1 ∧ Q (.bl true) H
/-- _law_digits_end(text, at) -/
def spEndL : Sp := fun vs H Q _ => ∃ (l : List Nat) (i : Nat), vs = [.str (S l), .int (i : Int)] ∧ i ≤ l.length ∧ l.length ≤ 20000 ∧ ∀ H', Same H H' → Q (.int ((dEnd l i : Nat) : Int)) H'
/-- digits_end(text, start) -/
def spEnd : Sp := fun vs H Q _ => ∃ (l : List Nat) (i : Nat), vs = [.str (S l), .int (i : Int)] ∧ i ≤ l.length ∧ l.length ≤ 20000 ∧ Q (.int ((dEnd l i : Nat) : Int)) H
/-- wrong_column(text) -/
def spCol : Sp := fun vs H Q _ => ∃ (l : List Nat), vs = [.str (S l)] ∧ l.length ≤ 20000 ∧ Q (.int ((wcol l : Nat) : Int)) H
/-- lowest(top, bottom) -/
def spLow : Sp := fun vs H Q _ => ∃ (a : Int) (b : Nat), vs = [.int a, .int (b : Int)] ∧ a.natAbs < N4 ∧ b < N4 ∧ b ≠ 0 ∧
  ∀ t, H t = none → Q (.ref t) (upd H t (.tup [.int (a.fdiv ((Nat.gcd a.natAbs b : Nat) : Int)), .int ((b / Nat.gcd a.natAbs b : Nat) : Int)]))


/-- ratio_of(x) -/
def spRatio (K : PySem.W.Frag) (BT TL : Addr) : Sp := fun vs H Q E => ∃ x, vs = [x] ∧
  ((∃ l, x = .str (S l) ∧ l.length ≤ 20000 ∧
    (∀ c, res l = .text c → ∀ d H1, H1 d = none → Same H H1 → E (.ref BT) (some d) (upd H1 d (.xd [("column", .int (c : Int)), ("line", .int 1)]))) ∧
    (∀ n, res l = .large n → ∀ d H1, H1 d = none → Same H H1 → E (.ref TL) (some d) (upd H1 d (.xd [("limit", .int 4000), ("number", .int (n : Int)), ("what", .str "digits")]))) ∧
    (∀ p r, res l = .ratio p r → ∀ t H1, H1 t = none → Same H H1 → Q (.ref t) (upd H1 t (.tup [.int p, .int r])))) ∨
   (∃ u, TyX K H x u ∧ PySem.W.kitOne K u (.type "str") = some false ∧ ∀ d H1, H1 d = none → Same H H1 → E (.ref BT) (some d) (upd H1 d (.xd [("column", .int 0), ("line", .int 0)]))))
theorem one4 : 1 < N4 := by unfold N4; decide +kernel
theorem none_of_same {H H' : Hp} {a : Addr} (s : Same H H') (h : H' a = none) : H a = none := by
  cases e : H a with
  | none => rfl
  | some o => rw [s _ _ e] at h; cases h
theorem Same.updn {H H' : Hp} {a : Addr} {o : HO} (s : Same H H') (h : H a = none) : Same H (upd H' a o) := fun b u e => by
  rw [upd_ne (fun z => by rw [z, h] at e; cases e)]; exact s _ _ e
/-- what a text is told to be -/
def resD : Res → PyData
  | .text c => .tuple [.str "text", .int (c : Int)]
  | .large n => .tuple [.str "large", .int (n : Int)]
  | .ratio p r => .tuple [.str "ratio", .tuple [.int p, .int r]]
/-- _law_due(text) -/
def spDue (K : PySem.W.Frag) : Sp := fun vs H Q _ => ∃ (l : List Nat), vs = [.str (S l)] ∧ l.length ≤ 20000 ∧ ∀ t H', Same H H' → Dp K H' (.ref t) (resD (res l)) → Q (.ref t) H'


theorem res_ratio {l : List Nat} {p r : Int} (h : res l = .ratio p r) : p.natAbs < N6 ∧ r.natAbs < N6 ∧ 0 < r ∧ Nat.gcd p.natAbs r.natAbs = 1 := by
  have hw : wcol l = 0 := by
    rcases Nat.eq_zero_or_pos (wcol l) with z | z
    · exact z
    · rw [res_bad z] at h; cases h
  rw [res_ok hw] at h
  have red_ok : ∀ a b : Nat, a < N4 → b < N4 → b ≠ 0 → (sgn l (red a b).1).natAbs < N6 ∧ (red a b).2.natAbs < N6 ∧ 0 < (red a b).2 ∧ Nat.gcd (sgn l (red a b).1).natAbs (red a b).2.natAbs = 1 := by
    intro a b ha hb h0
    have hg : 0 < Nat.gcd a b := Nat.gcd_pos_of_pos_right a (Nat.pos_of_ne_zero h0)
    have e1 : (sgn l (red a b).1).natAbs = a / Nat.gcd a b := sgn_abs l _
    have e2 : (red a b).2.natAbs = b / Nat.gcd a b := Int.natAbs_natCast _
    have p46 := pow46
    refine ⟨?_, ?_, ?_, ?_⟩
    · rw [e1]; exact Nat.lt_of_le_of_lt (Nat.div_le_self _ _) (by omega)
    · rw [e2]; exact Nat.lt_of_le_of_lt (Nat.div_le_self _ _) (by omega)
    · have : 0 < b / Nat.gcd a b := Nat.div_pos (Nat.le_of_dvd (Nat.pos_of_ne_zero h0) (Nat.gcd_dvd_right a b)) hg
      show (0 : Int) < ((b / Nat.gcd a b : Nat) : Int)
      omega
    · rw [e1, e2, Nat.gcd_div (Nat.gcd_dvd_left a b) (Nat.gcd_dvd_right a b), Nat.div_self hg]
  by_cases h1 : 4000 < mid0 l - fst0 l
  · rw [if_pos h1] at h; cases h
  · rw [if_neg h1] at h
    have ht := topV_lt (l := l) (by omega)
    by_cases h2 : slash0 l = true
    · rw [if_pos h2] at h
      by_cases h3 : 4000 < end0 l - (mid0 l + 1)
      · rw [if_pos h3] at h; cases h
      · rw [if_neg h3] at h
        by_cases h4 : botV l = 0
        · rw [if_pos h4] at h; cases h
        · rw [if_neg h4] at h
          injection h with e1 e2
          subst e1 e2
          exact red_ok _ _ ht (botV_lt h2 (by omega)) h4
    · rw [if_neg h2] at h
      injection h with e1 e2
      subst e1 e2
      have := red_ok (topV l) 1 ht one4 (by decide)
      unfold red at this
      rw [Nat.gcd_one_right, Nat.div_one] at this
      exact this
/-- _law_read(text) -/
def spRead (K : PySem.W.Frag) : Sp := fun vs H Q _ => ∃ (l : List Nat), vs = [.str (S l)] ∧ l.length ≤ 20000 ∧ ∀ t H', Same H H' → Dp K H' (.ref t) (resD (res l)) → Q (.ref t) H'
theorem cut_from (l : List Nat) (i : Nat) : cutS (S l) (some (i : Int)) none = S (l.drop i) := by
  have e := cut_mid l i l.length
  rw [List.take_length] at e
  rw [← e]
  unfold cutS
  have h1 : HT.sIx (S l).length (S l).length none = HT.sIx (S l).length (S l).length (some ((l.length : Nat) : Int)) := by
    rw [HT.sIx_nat, HT.sIx_none, S_len, Nat.min_self]
  rw [h1]
theorem str_len {n k : Nat} (hk : 0 < k) (h : n < 10 ^ k) : (Str.ofString (toString ((n : Nat) : Int))).length ≤ k := by
  rw [show (Str.ofString (toString ((n : Nat) : Int))).length = (TL.numL n).length by rw [TL.len_tl]; exact congrArg List.length (TL.tl_num n)]
  exact TL.numL_len hk h
/-- _law_begin(pen) -/
def spBegin : Sp := fun vs H Q _ => ∃ (p c : Addr) (m : Nat), vs = [.ref p] ∧ Pen H p c m ∧ m < 800000000 ∧ ∀ (l : List Nat) H', l.length ≤ 15000 → Pen H' p c (m + 1000) → Q (.str (S l)) H'
/-- _law_bent(pen, text) -/
def spBent : Sp := fun vs H Q _ => ∃ (p c : Addr) (m : Nat) (l : List Nat), vs = [.ref p, .str (S l)] ∧ Pen H p c m ∧ m < 800000000 ∧ l.length ≤ 19000 ∧ ∀ (l' : List Nat) H', l'.length ≤ l.length + 1 → Pen H' p c (m + 10) → Q (.str (S l')) H'

/-- law's: a list of at most 63 ints is handed in, True comes out -/
def spLaw (K : PySem.W.Frag) : Sp := fun vs H Q _ => ∃ (a : Addr) (ns : List Int), vs = [.ref a] ∧ SqL K H a (ns.map V.int) ∧ ns.length ≤ 63 ∧ ∀ H', Q (.bl true) H'
theorem resD_ok (r : Res) : SeqAt.shaped (resD r) = true := by
  have h1 : PyData.strOk (Str.ofString "text") = true := by decide +kernel
  have h2 : PyData.strOk (Str.ofString "large") = true := by decide +kernel
  have h3 : PyData.strOk (Str.ofString "ratio") = true := by decide +kernel
  cases r <;> simp [h1, h2, h3, SeqAt.shaped, resD, PyData.canLay0, PyData.canLayAll0, PyData.depth, PyData.depthAll]

end AL
set_option Elab.async false
set_option maxRecDepth 100000
set_option exponentiation.threshold 70000
set_option maxHeartbeats 1000000
namespace AL
open PySem PySem.Spec PyProof.Rows L2 RZ
def top (i : Nat) : Stmt := PySem.Challenge.pw_allscales_k80_whole_alike_units.main.body.getD i (.Pass ⟨0, 0, 0, 0⟩)
section
variable {P : Program} {w : World} {K : PySem.W.Frag} {mg : Str → Option Value} {base : Heap}
abbrev st_law_pen : Stmt := top 27
theorem sc_law_pen : FnScope ["_law_script", "_law_fold", "_law_cell"] ["_law_script"] (defScope st_law_pen) := ⟨rfl, rfl, rfl, by decide +kernel, rfl, by decide +kernel, by decide +kernel⟩
theorem ok_law_pen (B : Blt mg)  {f_law_pen : Addr} {fd_law_pen : FuncData} (D_law_pen : DefAt K mg "_law_pen" st_law_pen ["_law_script"] f_law_pen fd_law_pen) : FnOk P w K mg base CX0 1 f_law_pen fd_law_pen ["_law_script"] (spPen K) := by
  refine D_law_pen.F.ok sc_law_pen (fun vs H Q E h => ?_) (fun cdv A outer s H vs Q E hr h => ?_)
  · obtain ⟨a, ns, rfl, _⟩ := h; rfl
  · have hu := hu_of hr
    refine ⟨_, (pss_cons (ps_set (i := 1) sc_law_pen.nd rfl (Or.inl rfl) pe_int)
    (pss_cons (ps_for PassesOwn.never rfl (pi_list (pv 0)) (pg_name (i := 2) sc_law_pen.nd rfl (Or.inl rfl))
      (pss_one (ps_set (i := 1) sc_law_pen.nd rfl (Or.inl rfl) (pe_op op_modN (pe_callTy call_int1 (by rfl) B.int_ (by decide +kernel) (pa_cons (pe_op op_add (pe_op op_mul (pv 1) pe_int) (pv 2)) pa_nil)) pe_int))))
    (pss_one (ps_ret (pe_disp (pps_cons pe_str (pe_callTy call_list_of (by rfl) B.list_ (by decide +kernel) (pa_cons (pv 0) pa_nil)) (pps_cons pe_str pe_int (pps_cons pe_str pe_int (pps_cons pe_str pe_int (pps_cons pe_str (pv 1) pps_nil))))) (by rfl) (by rfl) (fun z => by cases z) (by decide)))))), ?_⟩
    obtain ⟨a, ns, rfl, hS, k⟩ := h
    refine ⟨_, rfl, a, rfl, ⟨_, hS⟩, for_list (K := K) (a := a) (xs := ns.map V.int) (fun i σ H' => ∃ (f : Int) (v : Option V), σ = [some (.ref a), some (.int f), v] ∧ H' = H ∧ 0 ≤ f ∧ f < 2147483648) ⟨0, none, rfl, rfl, by decide, by decide⟩ (fun i σ H' _ ⟨_, _, _, e, _⟩ => by rw [e]; exact hS) ?_ ?_⟩
    · rintro i y σ H' hi ⟨f, v, rfl, rfl, h0, h1⟩
      obtain ⟨z, hz, rfl⟩ := map_int hi
      refine ⟨_, rfl, _, _, rfl, rfl, .inr ⟨by decide, by decide⟩, _, rfl, _, _, rfl, rfl, .inl ⟨_, rfl, _, _, rfl, rfl, (by show (1000000007 : Int) ≠ 0; decide), ?_⟩⟩
      have hb := fmod_in (a := f * 41 + z) (b := 1000000007) (by decide)
      exact ⟨_, _, rfl, rfl, hb.1, by omega⟩
    · rintro σ H' ⟨f, v, rfl, rfl, h0, h1⟩
      intro p hp
      refine ⟨_, rfl, a, _, rfl, .inl (Same.seq (AL.Same.new hp) hS), fun l hl => ?_⟩
      have hlp : p ≠ l := fun e => by rw [e, upd_same] at hl; cases hl
      have hl0 : H' l = none := by rw [upd_ne hlp.symm] at hl; exact hl
      refine ⟨_, rfl, Eq.trans (upd_ne hlp) upd_same, penK l 0 0 0 f, rfl, (by show 5 ≤ 15; decide), ?_⟩
      refine k p l _ hp hl0 hlp ⟨ns, 0, 0, 0, f, Eq.trans upd_same (by kernel_rfl), ?_, by decide, by decide, by decide, by decide, h0, h1⟩ fun b o e => ?_
      · rw [upd_ne hlp.symm, upd_same]
      · rw [upd_ne (ne_of_none e hp), upd_ne (ne_of_none e hl0), upd_ne (ne_of_none e hp)]; exact e
abbrev st_law_draw : Stmt := top 28
theorem sc_law_draw : FnScope ["_law_pen_here", "_law_many", "_law_cell", "_law_digit", "_law_blend"] ["_law_pen_here", "_law_many"] (defScope st_law_draw) := ⟨rfl, rfl, rfl, by decide +kernel, rfl, by decide +kernel, by decide +kernel⟩
theorem ok_law_draw (B : Blt mg)  {f_law_draw : Addr} {fd_law_draw : FuncData} (D_law_draw : DefAt K mg "_law_draw" st_law_draw ["_law_pen_here", "_law_many"] f_law_draw fd_law_draw) : FnOk P w K mg base CX0 1 f_law_draw fd_law_draw ["_law_pen_here", "_law_many"] spDraw := by
  refine D_law_draw.F.ok sc_law_draw (fun vs H Q E h => ?_) (fun cdv A outer s H vs Q E hr h => ?_)
  · obtain ⟨p, c, m, k, rfl, _⟩ := h; rfl
  · have hu := hu_of hr
    refine ⟨_, (pss_cons (ps_dput hu (pv 0) pe_str (pe_op op_add (pe_dget hu (pv 0) pe_str (fun _ _ => rfl)) pe_int) rfl)
    (Evl.pss_cut (ps_if (PW.pt (pw_and (pt_cmpR op_eq (pe_dget hu (pv 0) pe_str (fun _ _ => rfl)) pe_int (nomark _)) (pw_and1 (pt_cmpR op_lt (pe_dget hu (pv 0) pe_str (fun _ _ => rfl)) (pe_callB call_len_seq (by rfl) B.len_ (by decide +kernel) (pa_cons (pe_dget hu (pv 0) pe_str (fun _ _ => rfl)) pa_nil)) (nomark _))))) (pss_cons (ps_set (i := 2) sc_law_draw.nd rfl (Or.inl rfl) (pe_ix ix_seq (pe_dget hu (pv 0) pe_str (fun _ _ => rfl)) (pe_dget hu (pv 0) pe_str (fun _ _ => rfl)) (fun _ _ => rfl)))
    (pss_cons (ps_dput hu (pv 0) pe_str (pe_op op_add (pe_dget hu (pv 0) pe_str (fun _ _ => rfl)) pe_int) rfl)
    (pss_one (ps_if (pt_cmpR op_ge (pv 2) (pe_op op_pow pe_int pe_int) (nomark _)) (pss_one (ps_dput hu (pv 0) pe_str (pe_op op_sub (pv 2) (pe_op op_pow pe_int pe_int)) rfl)) (pss_one (ps_dput hu (pv 0) pe_str (pe_op op_modN (pe_callTy call_int1 (by rfl) B.int_ (by decide +kernel) (pa_cons (pe_op op_add (pe_op op_mul (pe_dget hu (pv 0) pe_str (fun _ _ => rfl)) pe_int) (pv 2)) pa_nil)) pe_int) rfl)))))) pss_nil)
    (pss_cons (ps_if (pt_cmpR op_gt (pe_dget hu (pv 0) pe_str (fun _ _ => rfl)) pe_int (nomark _)) (pss_cons (ps_set (i := 3) sc_law_draw.nd rfl (Or.inl rfl) (pe_op op_modN (pe_callTy call_int1 (by rfl) B.int_ (by decide +kernel) (pa_cons (pe_dget hu (pv 0) pe_str (fun _ _ => rfl)) pa_nil)) (pv 1)))
    (pss_cons (ps_dput hu (pv 0) pe_str (pe_op op_fdivN (pe_dget hu (pv 0) pe_str (fun _ _ => rfl)) (pv 1)) rfl)
    (pss_one (ps_ret (pv 3))))) pss_nil)
    (pss_cons (ps_set (i := 4) sc_law_draw.nd rfl (Or.inl rfl) (pe_op op_add (pe_op op_add (pe_dget hu (pv 0) pe_str (fun _ _ => rfl)) (pe_op op_mul (pe_dget hu (pv 0) pe_str (fun _ _ => rfl)) pe_int)) pe_int))
    (pss_one (ps_ret (pe_op op_modN (pe_op op_fdivN (pe_callTy call_int1 (by rfl) B.int_ (by decide +kernel) (pa_cons (pe_op op_modN (pe_op op_pow (pv 4) pe_int) pe_int) pa_nil)) pe_int) (pv 1)))))))), ?_⟩
    obtain ⟨p, c, m, k, rfl, P, hm, hk0, hk1, q⟩ := h
    obtain ⟨ns, i, d, n, f, hp, hc, hi, hd, hn, hnm, hf0, hf1⟩ := P.ex
    have hcp : c ≠ p := fun e => by rw [e, hp] at hc; cases hc
    have s5 : (5 : Nat) < sizeLine := by decide
    -- count
    refine ⟨_, rfl, p, _, rfl, dget (k := Sum.inr "count") hp pen_count, _, _, rfl, rfl, _, rfl, p, _, rfl, dput (k := Sum.inr "count") hp s5 put_count, ?_⟩
    refine ⟨fun σ' H' => ∃ (i' d' f' : Int) (v : Option V), σ' = [some (.ref p), some (.int k), v, none, none] ∧ H' p = some (.dK (penK c i' d' (n + 1) f')) ∧ 0 ≤ i' ∧ 0 ≤ d' ∧ 0 ≤ f' ∧ f' < 2147483648 ∧ Keep p H H', ?_, ?_⟩
    · -- digits == 0 and at < len(cells)
      have n1 : ∀ {o}, upd H p o c = some (.lst (ns.map V.int)) := fun {o} => by rw [upd_ne hcp]; exact hc
      refine ⟨_, rfl, p, _, rfl, dget (k := Sum.inr "digits") upd_same pen_digits, rfl, _, rfl, ?_⟩
      refine ite2 (fun hd0 => ?_) (fun hd0 => ?_)
      · refine ⟨_, rfl, p, _, rfl, dget (k := Sum.inr "at") upd_same pen_at, _, rfl, p, _, rfl, dget (k := Sum.inr "cells") upd_same pen_cells, c, _, rfl, .inl (SqL.of n1), _, _, rfl, rfl, _, rfl, ?_⟩
        refine ite2 (fun hlt => ?_) (fun hlt => ?_)
        · have hlt' := of_decide_eq_true hlt
          rw [List.length_map] at hlt'
          obtain ⟨j, rfl⟩ := Int.eq_ofNat_of_zero_le hi
          have hj : j < ns.length := by omega
          -- cell, at
          refine ⟨_, rfl, p, _, rfl, dget (k := Sum.inr "cells") upd_same pen_cells, _, rfl, p, _, rfl, dget (k := Sum.inr "at") upd_same pen_at, .inl ⟨c, _, _, .int ns[j], rfl, rfl, SqL.of n1, at_of rfl (by rw [List.getElem?_map, List.getElem?_eq_getElem hj]; rfl), ?_⟩⟩
          refine ⟨_, rfl, p, _, rfl, dget (k := Sum.inr "at") upd_same pen_at, _, _, rfl, rfl, _, rfl, p, _, rfl, dput (k := Sum.inr "at") upd_same s5 put_at, ?_⟩
          refine ⟨_, rfl, _, _, rfl, rfl, ⟨by decide, by decide, by decide⟩, _, _, rfl, rfl, _, rfl, ?_⟩
          refine ite2 (fun hc18 => ?_) (fun hc18 => ?_)
          · have hc18' := of_decide_eq_true hc18
            refine ⟨_, rfl, _, _, rfl, rfl, ⟨by decide, by decide, by decide⟩, _, _, rfl, rfl, _, rfl, p, _, rfl, dput (k := Sum.inr "digits") upd_same s5 put_digits, ?_⟩
            refine ⟨_, _, _, _, rfl, upd_same, by omega, by omega, hf0, hf1, fun b o nb e => ?_⟩
            rw [upd_ne nb, upd_ne nb, upd_ne nb]; exact e
          · refine ⟨_, rfl, p, _, rfl, dget (k := Sum.inr "fold") upd_same pen_fold, _, _, rfl, rfl, .inr ⟨by decide, by decide⟩, _, rfl, _, _, rfl, rfl, .inl ⟨_, rfl, _, _, rfl, rfl, (by show (2147483587 : Int) ≠ 0; decide), _, rfl, p, _, rfl, dput (k := Sum.inr "fold") upd_same s5 put_fold, ?_⟩⟩
            have hb := fmod_in (a := f * 69069 + ns[j]) (b := 2147483587) (by decide)
            refine ⟨_, _, _, _, rfl, upd_same, by omega, hd, hb.1, by omega, fun b o nb e => ?_⟩
            rw [upd_ne nb, upd_ne nb, upd_ne nb]; exact e
        · exact ⟨_, _, _, _, rfl, upd_same, hi, hd, hf0, hf1, Keep.upd⟩
      · exact iteF ⟨_, _, _, _, rfl, upd_same, hi, hd, hf0, hf1, Keep.upd⟩
    · rintro σ H1 ⟨i1, d1, f1, v, rfl, hp1, hi1, hd1, hf01, hf11, kp⟩
      have pen' : ∀ {H2 : Hp} {i2 d2 f2 : Int}, H2 p = some (.dK (penK c i2 d2 (n + 1) f2)) → 0 ≤ i2 → 0 ≤ d2 → 0 ≤ f2 → f2 < 2147483648 → Keep p H H2 → Pen H2 p c (m + 1) := fun {H2 i2 d2 f2} e a1 a2 a3 a4 kk =>
        ⟨ns, i2, d2, n + 1, f2, e, kk c _ hcp hc, a1, a2, by omega, by omega, a3, a4⟩
      refine ⟨_, rfl, p, _, rfl, dget (k := Sum.inr "digits") hp1 pen_digits, _, _, rfl, rfl, _, rfl, ?_⟩
      refine ite2 (fun hpos => ?_) (fun hpos => ?_)
      · have hpos' := of_decide_eq_true hpos
        refine ⟨_, rfl, p, _, rfl, dget (k := Sum.inr "digits") hp1 pen_digits, .inl ⟨_, rfl, _, rfl, _, _, rfl, rfl, by show k ≠ 0; omega, ?_⟩⟩
        refine ⟨_, rfl, p, _, rfl, dget (k := Sum.inr "digits") hp1 pen_digits, _, rfl, _, _, rfl, rfl, ⟨by show k ≠ 0; omega, by show k.natAbs < 1073741824; omega⟩, _, rfl, p, _, rfl, dput (k := Sum.inr "digits") hp1 s5 put_digits, _, rfl, ?_⟩
        have hb := fmod_in (a := d1) (b := k) hk0
        have kk : Keep p H (upd H1 p (.dK (penK c i1 (d1.fdiv k) (n + 1) f1))) := kp.trans Keep.upd
        exact q _ _ hb.1 hb.2 (pen' upd_same hi1 (fdiv_nn hd1 hk0) hf01 hf11 kk) kk
      · refine ⟨_, rfl, p, _, rfl, dget (k := Sum.inr "fold") hp1 pen_fold, _, rfl, p, _, rfl, dget (k := Sum.inr "count") hp1 pen_count, _, _, rfl, rfl, .inr ⟨by decide, by decide⟩, _, _, rfl, rfl, _, _, rfl, rfl, ?_⟩
        refine ⟨_, rfl, _, _, rfl, rfl, ⟨by decide, by decide, by show (f1 + (n + 1) * 7907 + 37).natAbs < 2 ^ 64; omega⟩, _, _, rfl, rfl, (by show (2305843009213693951 : Int) ≠ 0; decide), .inl ⟨_, rfl, _, _, rfl, rfl, ⟨by decide, by decide⟩, _, rfl, _, _, rfl, rfl, by show k ≠ 0; omega, ?_⟩⟩
        have hb := fmod_in (a := (((f1 + (n + 1) * 7907 + 37) ^ ((17 : Int)).toNat).fmod 2305843009213693951).fdiv 128) (b := k) hk0
        exact q _ _ hb.1 hb.2 (pen' hp1 hi1 hd1 hf01 hf11 kp) kp
abbrev st_law_pick : Stmt := top 29
theorem sc_law_pick : FnScope ["_law_pen_here", "_law_some"] ["_law_pen_here", "_law_some"] (defScope st_law_pick) := ⟨rfl, rfl, rfl, by decide +kernel, rfl, by decide +kernel, by decide +kernel⟩
theorem ok_law_pick (B : Blt mg)  {f_law_draw : Addr} {fd_law_draw : FuncData} (D_law_draw : DefAt K mg "_law_draw" st_law_draw ["_law_pen_here", "_law_many"] f_law_draw fd_law_draw) {f_law_pick : Addr} {fd_law_pick : FuncData} (D_law_pick : DefAt K mg "_law_pick" st_law_pick ["_law_pen_here", "_law_some"] f_law_pick fd_law_pick) : FnOk P w K mg base CX0 2 f_law_pick fd_law_pick ["_law_pen_here", "_law_some"] (spPick K) := by
  have OK_law_draw : FnOk P w K mg base CX0 1 f_law_draw fd_law_draw ["_law_pen_here", "_law_many"] spDraw := ok_law_draw B  D_law_draw
  refine D_law_pick.F.ok sc_law_pick (fun vs H Q E h => ?_) (fun cdv A outer s H vs Q E hr h => ?_)
  · obtain ⟨p, c, a, m, xs, rfl, _⟩ := h; rfl
  · have hu := hu_of hr
    refine ⟨_, (pss_one (ps_ret (pe_ix ix_list (pv 1) (pe_call OK_law_draw (hr.mono (by decide)) rfl D_law_draw.m D_law_draw.F.kp D_law_draw.b .nil pass0 (pa_cons (pv 0) (pa_cons (pe_callB call_len_seq (by rfl) B.len_ (by decide +kernel) (pa_cons (pv 1) pa_nil)) pa_nil))) (fun _ _ => rfl)))), ?_⟩
    obtain ⟨p, c, a, m, xs, rfl, P, hm, hS, hl0, hl1, q⟩ := h
    refine ⟨_, rfl, _, rfl, _, rfl, a, xs, rfl, .inl hS, p, c, m, _, rfl, P, hm, by omega, by omega, fun r H' h0 h1 P' kp => ?_⟩
    obtain ⟨j, rfl⟩ := Int.eq_ofNat_of_zero_le h0
    have hj : j < xs.length := by omega
    exact ⟨a, xs, _, xs[j], rfl, rfl, kp.seqL P hS, at_of rfl (List.getElem?_eq_getElem hj), q j _ H' (List.getElem?_eq_getElem hj) P' kp⟩
end
end AL
set_option Elab.async false
set_option maxRecDepth 100000
set_option exponentiation.threshold 70000
set_option maxHeartbeats 1000000
/-! math.lcm of two ints below 2 ^ 13000. -/
namespace AL
open PySem PySem.Spec PyProof.Rows L2 PySem.W PySem.Calls
theorem lcm_lt {x y : Nat} (hx : x < 2 ^ 13000) (hy : y < 2 ^ 13000) : x.lcm y < 2 ^ 26000 := by
  have h1 : x.lcm y ≤ x * y := by
    unfold Nat.lcm
    exact Nat.div_le_self _ _
  have h2 : x * y < 2 ^ 13000 * 2 ^ 13000 := Nat.mul_lt_mul_of_lt_of_lt hx hy
  rw [← Nat.pow_add] at h2
  exact Nat.lt_of_le_of_lt h1 h2
section
variable {X : Cx}
theorem cr_lcm : CallR X (.builtin "math.lcm") (fun vs H Q => ∃ a b : Int, vs = [.int a, .int b] ∧ a.natAbs < 2 ^ 13000 ∧ b.natAbs < 2 ^ 13000 ∧ Q (.int ((Nat.lcm a.natAbs b.natAbs : Nat) : Int)) H) := by
  intro pins s σ H vs us Q I r h
  obtain ⟨a, b, rfl, ha, hb, q⟩ := h
  obtain ⟨t, u, rfl⟩ := Vals.int2 r
  have k : ∀ n : Nat, n < 2 ^ 13000 → ¬ n.log2 / 30 + 1 > 450 := fun n hn => by
    have := log2_small (k := 13000) (by decide) hn
    omega
  have e1 : Nat.lcm 1 a.natAbs = a.natAbs := Nat.lcm_one_left _
  have one : (1 : Nat) < 2 ^ 13000 := Nat.one_lt_two_pow (by decide)
  have sz : (((a.natAbs.lcm b.natAbs : Nat) : Int)).natAbs.log2 < bitsLine := by
    rw [Int.natAbs_natCast]
    exact Nat.lt_of_lt_of_le (log2_small (k := 26000) (by decide) (lcm_lt ha hb)) (by decide +kernel)
  have g := mg_run_lcm a t b u (k _ (Nat.max_lt.mpr ⟨one, ha⟩)) (k _ (Nat.max_lt.mpr ⟨ha, hb⟩)) (by rw [e1]; exact sz)
  rw [e1] at g
  exact call_function_meets MGF.kind_lcm MGF.plain_lcm MGF.entry_lcm (MGF.args_lcm _ _) g.meets ⟨.int _, H, I.tok _, ⟨_, rfl⟩, q⟩
end
end AL
set_option Elab.async false
set_option maxRecDepth 100000
set_option maxHeartbeats 2000000
/-! Operators that a class of the program writes itself; repr of any datum. -/
namespace AL
open PySem PySem.Spec PyProof.Rows L2
/-- repr(x), x any datum -/
def rReprV (K : PySem.W.Frag) : List V → Hp → VK → Prop := fun vs H Q => ∃ (v : V) (d : PyData), vs = [v] ∧ Dp K H v d ∧ d.showable = true ∧ d.hasDict = false ∧ d.depth ≤ 60 ∧ d.shown.length ≤ sizeLine ∧ Q (.str d.shown) H
theorem call_reprV {X : Cx} (gd : X.A.guards = some []) (hu : X.A.units + 64 < cLine) : CallR X (.builtin "repr") (rReprV X.K) := by
  intro pins s σ H vs us Q I r h
  obtain ⟨v, d, rfl, hd, h1, h2, h3, h4, q⟩ := h
  obtain ⟨u, rfl, ru⟩ := vals1 r
  have big : ∀ a : Addr, v = .ref a → wpAny (model X.prog X.w) X.A (call (.builtin "repr") [u]) (EP X pins σ Q) X.xe s := by
    intro a e
    subst e
    obtain rfl : u = Value.ref a := ru
    obtain ⟨as, rd⟩ := Dp.reads I d (.ref a) (.ref a) hd rfl
    exact repr_of_reads' rd h1 (PyData.noDict_hsm h2) gd (by omega) (fun _ _ z => z) (fun h' u tk kk => ⟨.str d.shown, H, I.kept (t' := tk) kk, ⟨u, rfl⟩, q⟩) h4
  cases hd with
  | non =>
    obtain rfl : u = Value.none := ru
    exact PySem.P.repr_of_none ⟨.str _, H, I.tok _, ⟨_, rfl⟩, q⟩
  | bl b =>
    obtain rfl : u = Value.bool b := ru
    refine PySem.P.repr_of_bool ⟨.str _, H, I.tok _, ⟨_, rfl⟩, ?_⟩
    cases b <;> exact q
  | int i =>
    obtain ⟨t, rfl⟩ := (show ∃ t, u = Value.int i t from ru)
    exact PySem.P.repr_of_int (by simpa [PyData.showable] using h1) ⟨.str _, H, I.tok _, ⟨_, rfl⟩, q⟩
  | str x =>
    obtain ⟨t, rfl⟩ := (show ∃ t, u = Value.str x t from ru)
    exact PySem.P.repr_of_str ⟨.str _, H, I.tok _, ⟨_, rfl⟩, q⟩ h4
  | lst hs ha => exact big _ rfl
  | tup hs ha => exact big _ rfl
/-- an instance -/
def InsAt (H : Hp) (a C : Addr) : Prop := ∃ dx fs, H a = some (.ins C dx fs)
/-- values that an own operator may hand back -/
def Told (v : V) : Prop := (∃ a, v = .ref a) ∨ ∃ b, v = .bl b
theorem cmpBack {Q : VK} {X : Cx} {pins : List (Addr × Obj)} {σ : L2.St} {u : Value} {s : Shared} (h : EP X pins σ (fun v H' => Told v ∧ Q v H') u s) : PySem.W.CmpBack (EP X pins σ Q) u s := by
  obtain ⟨v, H', I, r, t, q⟩ := h
  rcases t with ⟨a, rfl⟩ | ⟨b, rfl⟩
  · cases (show u = Value.ref a from r)
    exact ⟨.ref a, H', I, rfl, q⟩
  · cases (show u = Value.bool b from r)
    exact ⟨.bl b, H', I, rfl, q⟩
section
variable {X : Cx} {CX : CXT} {k : Nat} {f C : Addr} {fd : FuncData} {ps : List Str} {sp : Sp} {E : XK}
/-- x op y, both of the class at C, by its own method -/
def rOwn2 (C : Addr) (sp : Sp) (E : XK) : R2 := fun x y H Q => ∃ a b, x = .ref a ∧ y = .ref b ∧ InsAt H a C ∧ InsAt H b C ∧ sp [.ref a, .ref b] H (fun v H' => Told v ∧ Q v H') E
theorem op_own2 {op : Operator} (sf : PySem.W.selfFirst X.K C = true) (M : Meth X.K C (PySem.dunder op.info.2) f) (F : FnOk X.prog X.w X.K X.mg X.base CX k f fd ps sp) (hr : Room k X.A) (hb : Binds X.K fd ps []) (hx : Passes CX X E) : OpR X (binaryOp op) (rOwn2 C sp E) := by
  intro pins s σ H x y v u Q I rx ry h
  obtain ⟨a, b, rfl, rfl, ⟨dx, fs, ha⟩, ⟨dy, gs, hb'⟩, q⟩ := h
  cases rx
  cases ry
  obtain ⟨mA, J, _⟩ := ins_get I.hok ha
  obtain ⟨mB, J', _⟩ := ins_get I.hok hb'
  obtain ⟨od, J, _⟩ := J.look
  obtain ⟨od', J', _⟩ := J'.look
  obtain ⟨m, hF⟩ := I.fr
  refine PySem.W.binop_K (op := op) hF I.ok.mod.kin J J'.type sf M.at_ M.fn ?_
  exact wpAny_mono (run_fn F hr hb .nil hx I (vs := [.ref a, .ref b]) (.cons rfl (.cons rfl .nil)) q) (fun _ _ z => cmpBack z) fun _ _ z => z
/-- -x -/
def rOwn1 (C : Addr) (sp : Sp) (E : XK) : V → Hp → VK → Prop := fun x H Q => ∃ a, x = .ref a ∧ InsAt H a C ∧ sp [.ref a] H Q E
theorem un_own (M : Meth X.K C "__neg__" f) (F : FnOk X.prog X.w X.K X.mg X.base CX k f fd ps sp) (hr : Room k X.A) (hb : Binds X.K fd ps []) (hx : Passes CX X E) : UnR X (unaryOp .USub) (rOwn1 C sp E) := by
  intro pins s σ H x v Q I rx h
  obtain ⟨a, rfl, ⟨dx, fs, ha⟩, q⟩ := h
  cases rx
  obtain ⟨mA, J, _⟩ := ins_get I.hok ha
  obtain ⟨od, J, _⟩ := J.look
  unfold unaryOp
  refine wpAny_holding ?_
  show wpAny _ _ (callSpecial? (.ref a) "__neg__" >>= _) _ _ _
  refine wpAny_bind (PySem.W.special_fn I.kIn J M.at_ (beq_iff_eq.mp M.fn) ?_)
  exact wpAny_mono (run_fn F hr hb .nil hx I (vs := [.ref a]) (.cons rfl .nil) q) (fun _ _ z => wpAny_pure z) fun _ _ z => z
/-- x == y, x of the class at C -/
def rOwnE (K : PySem.W.Frag) (C : Addr) (sp : Sp) (E : XK) : R2 := fun x y H Q => ∃ a tb, x = .ref a ∧ InsAt H a C ∧ TyX K H y tb ∧ PySem.W.notFirst K C tb = true ∧ sp [.ref a, y] H (fun v H' => Told v ∧ Q v H') E
theorem op_ownE (M : Meth X.K C "__eq__" f) (F : FnOk X.prog X.w X.K X.mg X.base CX k f fd ps sp) (hr : Room k X.A) (hb : Binds X.K fd ps []) (hx : Passes CX X E) : OpR X (compareOp .Eq) (rOwnE X.K C sp E) := by
  intro pins s σ H x y v u Q I rx ry h
  obtain ⟨a, tb, rfl, ⟨dx, fs, ha⟩, ty, nf, q⟩ := h
  cases rx
  obtain ⟨mA, J, _⟩ := ins_get I.hok ha
  obtain ⟨od, J, _⟩ := J.look
  obtain ⟨m, hF⟩ := I.fr
  obtain ⟨P, Z, p, _⟩ := kit_of I ry ty
  show wpAny (model X.prog X.w) X.A (richCompare .Eq (.ref a) u) (EP X pins σ Q) X.xe s
  refine PySem.W.cmp_K (op := .Eq) (tb := tb) hr.units0 hF I.ok.mod.kin J (Z.ty _ _ I.kIn p) nf M.at_ M.fn ?_
  exact wpAny_mono (run_fn F hr hb .nil hx I (vs := [.ref a, y]) (.cons rfl (.cons ry .nil)) q) (fun _ _ z => cmpBack z) fun _ _ z => z
end
end AL
set_option Elab.async false
set_option maxRecDepth 100000
set_option exponentiation.threshold 70000
set_option maxHeartbeats 1000000
/-! Ratios as they are passed, and what the helpers of the program promise of them. -/
namespace AL
open PySem L2
def LowOk (a : Int) (b : Nat) : Prop := (a.natAbs < N4 ∧ b < N4) ∨ Nat.gcd a.natAbs b < 2 ^ 8000
/-- the pair in lowest terms -/
def nrm (a : Int) (b : Nat) : Int × Nat := (a.fdiv ((Nat.gcd a.natAbs b : Nat) : Int), b / Nat.gcd a.natAbs b)
theorem nrm_one (i : Int) : nrm i 1 = (i, 1) := by
  unfold nrm
  rw [Nat.gcd_one_right]
  show (i.fdiv ((1 : Nat) : Int), 1 / 1) = (i, 1)
  rw [Int.fdiv_eq_ediv_of_nonneg _ (by decide)]
  simp
/-- lowest(a, b) -/
def spLowC : Sp := fun vs H Q _ => ∃ (a : Int) (b : Nat), vs = [.int a, .int (b : Int)] ∧ LowOk a b ∧ b ≠ 0 ∧ ∀ t, H t = none → Q (.ref t) (upd H t (.tup [.int (nrm a b).1, .int ((nrm a b).2 : Int)]))
/-- _law_q(a, b) -/
def spQC : Sp := fun vs H Q _ => ∃ (a : Int) (b : Nat), vs = [.int a, .int (b : Int)] ∧ a.natAbs < N6 ∧ b < N6 ∧ LowOk a b ∧ b ≠ 0 ∧ ∀ t, H t = none → Q (.ref t) (upd H t (.tup [.int (nrm a b).1, .int ((nrm a b).2 : Int)]))
/-- is_whole(x), of a value of any kind -/
def spWholeV (K : PySem.W.Frag) : Sp := fun vs H Q _ => ∃ (x : V) (u : Value) (b c : Bool), vs = [x] ∧ TyX K H x u ∧ PySem.W.kitOne K u (.type "int") = some b ∧ PySem.W.kitOne K u (.type "bool") = some c ∧ Q (.bl (b && !c)) H
def flatW : V → Option Bool
  | .int _ => some true
  | .bl _ => some false
  | .non => some false
  | .str _ => some false
  | _ => none
theorem flat_ty {K : PySem.W.Frag} {H : Hp} {x : V} {w : Bool} (h : flatW x = some w) : ∃ u b c, TyX K H x u ∧ PySem.W.kitOne K u (.type "int") = some b ∧ PySem.W.kitOne K u (.type "bool") = some c ∧ (b && !c) = w := by
  cases x with
  | int i => cases h; exact ⟨_, true, false, TyX.base (.int i), rfl, rfl, rfl⟩
  | bl b => cases h; exact ⟨_, true, true, TyX.base (.bl b), rfl, rfl, rfl⟩
  | non => cases h; exact ⟨_, false, false, TyX.base .non, rfl, rfl, rfl⟩
  | str z => cases h; exact ⟨_, false, false, TyX.base (.str z), rfl, rfl, rfl⟩
  | _ => cases h
theorem flat_not {K : PySem.W.Frag} {H : Hp} {x : V} {w : Bool} (h : flatW x = some w) : ∃ u, TyX K H x u ∧ PySem.W.kitOne K u (.type "tuple") = some false := by
  cases x with
  | int i => exact ⟨_, TyX.base (.int i), rfl⟩
  | bl b => exact ⟨_, TyX.base (.bl b), rfl⟩
  | non => exact ⟨_, TyX.base .non, rfl⟩
  | str z => exact ⟨_, TyX.base (.str z), rfl⟩
  | _ => cases h
/-- are_integers(t), t a tuple of flat values -/
def spAre (K : PySem.W.Frag) : Sp := fun vs H Q _ => ∃ (t : Addr) (xs : List V) (f : V → Bool), vs = [.ref t] ∧ H t = some (.tup xs) ∧ xs.length ≤ 100 ∧ (∀ x ∈ xs, flatW x = some (f x)) ∧ ∀ H', Same H H' → Q (.bl (xs.all f)) H'
/-- what may be passed for a ratio: none where it is none -/
inductive RatV (K : PySem.W.Frag) (H : Hp) : V → Option (Int × Nat) → Prop
  | int (i : Int) : RatV K H (.int i) (some (i, 1))
  | pair {t : Addr} {p : Int} {q : Nat} (h : H t = some (.tup [.int p, .int (q : Int)])) (h0 : 0 < q) : RatV K H (.ref t) (some (p, q))
  | other {x : V} {u : Value} {b c : Bool} (h : TyX K H x u) (ht : PySem.W.kitOne K u (.type "tuple") = some false) (hb : PySem.W.kitOne K u (.type "int") = some b) (hc : PySem.W.kitOne K u (.type "bool") = some c) (no : (b && !c) = false) : RatV K H x none
  | long {t : Addr} {xs : List V} (h : H t = some (.tup xs)) (hl : xs.length ≠ 2) : RatV K H (.ref t) none
  | item {t : Addr} {x y : V} {b c : Bool} (h : H t = some (.tup [x, y])) (hx : flatW x = some b) (hy : flatW y = some c) (no : (b && c) = false) : RatV K H (.ref t) none
  | sign {t : Addr} {p q : Int} (h : H t = some (.tup [.int p, .int q])) (h0 : q ≤ 0) : RatV K H (.ref t) none
theorem RatV.same {K : PySem.W.Frag} {H H' : Hp} {x : V} {r : Option (Int × Nat)} (h : RatV K H x r) (s : Same H H') (ty : ∀ u, TyX K H x u → TyX K H' x u) : RatV K H' x r := by
  cases h with
  | int i => exact .int i
  | pair h h0 => exact .pair (s _ _ h) h0
  | other h ht hb hc no => exact .other (ty _ h) ht hb hc no
  | long h hl => exact .long (s _ _ h) hl
  | item h hx hy no => exact .item (s _ _ h) hx hy no
  | sign h h0 => exact .sign (s _ _ h) h0
/-- is_ratio(x) -/
def spIsRatV (K : PySem.W.Frag) : Sp := fun vs H Q _ => ∃ (x : V) (r : Option (Int × Nat)), vs = [x] ∧ RatV K H x r ∧ ∀ H', Same H H' → Q (.bl r.isSome) H'
/-- as_ratio(x) -/
def spAs (K : PySem.W.Frag) : Sp := fun vs H Q _ => ∃ (x : V) (p : Int) (q : Nat), vs = [x] ∧ RatV K H x (some (p, q)) ∧ LowOk p q ∧ ∀ t, H t = none → Q (.ref t) (upd H t (.tup [.int (nrm p q).1, .int ((nrm p q).2 : Int)]))
/-- whole_power(b, n) -/
def spPow : Sp := fun vs H Q _ => ∃ (b : Int) (n a : Nat), vs = [.int b, .int (n : Int)] ∧ b.natAbs < 2 ^ a ∧ 0 < a ∧ a * n ≤ 400000 ∧ a ≤ 400000 ∧ Q (.int (b ^ n)) H
/-- digits_of(i) -/
def spDig : Sp := fun vs H Q _ => ∃ (i : Int), vs = [.int i] ∧ Q (.int ((ndig i.natAbs : Nat) : Int)) H
/-- newton_step(n, j + 1, g) -/
def spStep : Sp := fun vs H Q _ => ∃ (n j g : Nat), vs = [.int (n : Int), .int ((j + 1 : Nat) : Int), .int (g : Int)] ∧ n < 2 ^ 8000 ∧ j < 1000 ∧ 0 < g ∧ g < 2 ^ 8100 ∧ g ^ j < 2 ^ 13500 ∧ Q (.int ((nstep n j g : Nat) : Int)) H
/-- floor_root(n, k) -/
def spFloor : Sp := fun vs H Q _ => ∃ (n k : Nat), vs = [.int (n : Int), .int (k : Int)] ∧ n < 2 ^ 4000 ∧ 0 < k ∧ k < 1000 ∧ ∀ g, isRoot n k g → Q (.int (g : Int)) H
/-- whole_root(n, k) -/
def spRoot : Sp := fun vs H Q _ => ∃ (n k : Nat), vs = [.int (n : Int), .int (k : Int)] ∧ n < 2 ^ 4000 ∧ 0 < k ∧ k < 1000 ∧ (∀ r, r ^ k = n → Q (.int (r : Int)) H) ∧ ((∀ r, r ^ k ≠ n) → Q .non H)
/-- ratio_root((p, q), k) -/
def spRatRoot (K : PySem.W.Frag) : Sp := fun vs H Q _ => ∃ (t : Addr) (p q k : Nat), vs = [.ref t, .int (k : Int)] ∧ H t = some (.tup [.int (p : Int), .int (q : Int)]) ∧ p < 2 ^ 4000 ∧ q < 2 ^ 4000 ∧ 0 < k ∧ k < 1000 ∧
  (∀ a b t', a ^ k = p → b ^ k = q → H t' = none → Q (.ref t') (upd H t' (.tup [.int (a : Int), .int (b : Int)]))) ∧ ((∀ a b, ¬ (a ^ k = p ∧ b ^ k = q)) → Q .non H)
end AL
set_option Elab.async false
set_option maxRecDepth 100000
set_option exponentiation.threshold 70000
set_option maxHeartbeats 1000000
/-! What ratio_text and root_of promise. -/
namespace AL
open PySem L2
def numI (a : Int) : Str := Str.ofString (toString a)
/-- the shortest text of a ratio in lowest terms -/
def txt (a : Int) (b : Nat) : Str := if b = 1 then numI a else numI a ++ "/" ++ numI (b : Int)
def many (a : Int) (b : Nat) : Nat := max (ndig a.natAbs) (ndig b)
/-- ratio_text(x) -/
def spText (K : PySem.W.Frag) (BN TL : Addr) : Sp := fun vs H Q E => ∃ (x : V) (r : Option (Int × Nat)), vs = [x] ∧ RatV K H x r ∧
  (r = none → ∀ d H1, H1 d = none → Same H H1 → E (.ref BN) (some d) (upd H1 d (.xd [("number", x), ("what", .str "ratio")]))) ∧
  (∀ p q, r = some (p, q) → LowOk p q ∧
    (4000 < many (nrm p q).1 (nrm p q).2 → ∀ d H1, H1 d = none → Same H H1 → E (.ref TL) (some d) (upd H1 d (.xd [("limit", .int 4000), ("number", .int ((many (nrm p q).1 (nrm p q).2 : Nat) : Int)), ("what", .str "digits")]))) ∧
    (many (nrm p q).1 (nrm p q).2 ≤ 4000 → ∀ H1, Same H H1 → Q (.str (txt (nrm p q).1 (nrm p q).2)) H1))
theorem RatV.someSame {K : PySem.W.Frag} {H H' : Hp} {x : V} {r : Int × Nat} (h : RatV K H x (some r)) (s : Same H H') : RatV K H' x (some r) := by
  cases h with
  | int i => exact .int i
  | pair h h0 => exact .pair (s _ _ h) h0
theorem RatV.pos {K : PySem.W.Frag} {H : Hp} {x : V} {p : Int} {q : Nat} (h : RatV K H x (some (p, q))) : 0 < q := by
  cases h with
  | int i => decide
  | pair h h0 => exact h0
/-- what may be passed for a root -/
inductive RootV (K : PySem.W.Frag) (H : Hp) : V → Option Nat → Prop
  | ok (k : Nat) (h1 : 1 ≤ k) (h2 : k ≤ 60) : RootV K H (.int (k : Int)) (some k)
  | far (i : Int) (h : i < 1 ∨ 60 < i) : RootV K H (.int i) none
  | other {x : V} {u : Value} {b c : Bool} (h : ∀ H', Same H H' → TyX K H' x u) (hb : PySem.W.kitOne K u (.type "int") = some b) (hc : PySem.W.kitOne K u (.type "bool") = some c) (no : (b && !c) = false) : RootV K H x none
/-- the ratio is none, or below 0 -/
def badRat : Option (Int × Nat) → Bool
  | none => true
  | some (p, q) => decide ((nrm p q).1 < 0)
/-- root_of(x, y) -/
def spRootOf (K : PySem.W.Frag) (BN : Addr) : Sp := fun vs H Q E => ∃ (x y : V) (r : Option (Int × Nat)) (k : Option Nat), vs = [x, y] ∧ RatV K H x r ∧ RootV K H y k ∧ (∀ p q, r = some (p, q) → LowOk p q) ∧
  (badRat r = true → ∀ d H1, H1 d = none → Same H H1 → E (.ref BN) (some d) (upd H1 d (.xd [("number", x), ("what", .str "ratio")]))) ∧
  (badRat r = false → k = none → ∀ d H1, H1 d = none → Same H H1 → E (.ref BN) (some d) (upd H1 d (.xd [("number", y), ("what", .str "root")]))) ∧
  (∀ p q n, r = some (p, q) → badRat r = false → k = some n → (nrm p q).1.natAbs < 2 ^ 4000 ∧ (nrm p q).2 < 2 ^ 4000 ∧
    (∀ u v t H1, u ^ n = (nrm p q).1.natAbs → v ^ n = (nrm p q).2 → H1 t = none → Same H H1 → Q (.ref t) (upd H1 t (.tup [.int (u : Int), .int (v : Int)]))) ∧
    ((∀ u v, ¬ (u ^ n = (nrm p q).1.natAbs ∧ v ^ n = (nrm p q).2)) → ∀ H1, Same H H1 → Q .non H1))
theorem empty_app (x : Str) : Str.empty ++ x = x := by
  cases x with
  | mk a =>
    show (⟨#[] ++ a⟩ : Str) = ⟨a⟩
    rw [Array.empty_append]
theorem numI_len {a : Int} {k : Nat} (hk : 0 < k) (h : a.natAbs < 10 ^ k) : (numI a).length ≤ k + 1 := by
  have e : (numI a).length = (toString a).length := by
    unfold numI
    rw [Str.ofString_eq_toList]
    show (((toString a).toList.map Char.toNat).toArray).size = _
    rw [List.size_toArray, List.length_map, String.length_toList]
  rw [e]
  have := int_text_length_le10 hk h
  omega
end AL
set_option Elab.async false
set_option maxRecDepth 100000
set_option exponentiation.threshold 70000
set_option maxHeartbeats 1000000
/-! What the law's own helpers promise. -/
namespace AL
open PySem L2
/-- _law_written(t) -/
def spWritten : Sp := fun vs H Q _ => ∃ (t : Addr) (a : Int) (b : Nat), vs = [.ref t] ∧ H t = some (.tup [.int a, .int (b : Int)]) ∧ many a b ≤ 4000 ∧ Q (.str (txt a b)) H
/-- _law_passed(pen, t) -/
def spPassed (K : PySem.W.Frag) : Sp := fun vs H Q _ => ∃ (p c t : Addr) (m : Nat) (a b : Nat), vs = [.ref p, .ref t] ∧ Pen H p c m ∧ m < 800000000 ∧ H t = some (.tup [.int (a : Int), .int (b : Int)]) ∧ 0 < b ∧ a < 2 ^ 4000 ∧ b < 2 ^ 4000 ∧
  ∀ (x : V) (k : Nat) H', 0 < k → k ≤ 10 → RatV K H' x (some (((a * k : Nat) : Int), b * k)) → Pen H' p c (m + 2) → Keep p H H' → Q x H'
/-- _law_power(t, n) -/
def spPower : Sp := fun vs H Q _ => ∃ (t : Addr) (a b n e : Nat), vs = [.ref t, .int (n : Int)] ∧ H t = some (.tup [.int (a : Int), .int (b : Int)]) ∧ a < 2 ^ e ∧ b < 2 ^ e ∧ 0 < e ∧ e * n ≤ 400000 ∧ e ≤ 400000 ∧ n ≤ 60 ∧
  ∀ t' H', Same H H' → H' t' = some (.tup [.int ((a ^ n : Nat) : Int), .int ((b ^ n : Nat) : Int)]) → Q (.ref t') H'
/-- _law_whole_power(a, n) -/
def spWP : Sp := fun vs H Q _ => ∃ (a n e : Nat), vs = [.int (a : Int), .int (n : Int)] ∧ a < 2 ^ e ∧ 0 < e ∧ e * n ≤ 400000 ∧ e ≤ 400000 ∧ n ≤ 60 ∧ Q (.int ((a ^ n : Nat) : Int)) H
/-- _law_is_power(n, k) -/
def spIsPow : Sp := fun vs H Q _ => ∃ (n k : Nat), vs = [.int (n : Int), .int (k : Int)] ∧ n < 2 ^ 4000 ∧ 0 < k ∧ k ≤ 60 ∧ ∀ (w : Bool) H', Same H H' → (w = true ↔ ∃ r, r ^ k = n) → Q (.bl w) H'
theorem pow_fit {a e i n : Nat} (ha : a < 2 ^ e) (he : 0 < e) (hin : i ≤ n) (hn : e * n ≤ 400000) : ((a ^ i : Nat) : Int).natAbs < 2 ^ 400001 := by
  rw [Int.natAbs_natCast]
  refine Nat.lt_of_le_of_lt (Nat.pow_le_pow_left (Nat.le_of_lt ha) i) ?_
  rw [← Nat.pow_mul]
  have := Nat.mul_le_mul_left e hin
  exact Nat.pow_lt_pow_right (by decide) (by omega)
theorem half_le {w j : Nat} (h : w ≤ 2 ^ (j + 1)) : (w + 1) / 2 ≤ 2 ^ j := by
  rw [Nat.pow_succ] at h
  omega
end AL
set_option Elab.async false
set_option maxRecDepth 100000
set_option exponentiation.threshold 70000
set_option maxHeartbeats 1000000
/-! Sums and products of ratios: both sides' promises, and what they mean. -/
namespace AL
open PySem L2
def DivOk (a b : Int) : Prop := (a.natAbs < 2 ^ 13500 ∧ b.natAbs < 2 ^ 13500) ∨ Nat.gcd a.natAbs b.natAbs < 2 ^ 8000
/-- lowest terms, the bottom of any sign -/
def shr (a b : Int) : Int := if b < 0 then -((Nat.gcd a.natAbs b.natAbs : Nat) : Int) else ((Nat.gcd a.natAbs b.natAbs : Nat) : Int)
def lowI (a b : Int) : Int × Int := (a.fdiv (shr a b), b.fdiv (shr a b))
theorem nrm_spec (a : Int) {b : Nat} (hb : 0 < b) : 0 < (nrm a b).2 ∧ Nat.gcd (nrm a b).1.natAbs (nrm a b).2 = 1 ∧ (nrm a b).1 * (b : Int) = a * ((nrm a b).2 : Int) := by
  have hg : 0 < Nat.gcd a.natAbs b := Nat.gcd_pos_of_pos_right _ hb
  have d1 : ((Nat.gcd a.natAbs b : Nat) : Int) ∣ a := Int.ofNat_dvd_left.mpr (Nat.gcd_dvd_left _ _)
  have d2 := Nat.gcd_dvd_right a.natAbs b
  have e1 : (nrm a b).1 = a / ((Nat.gcd a.natAbs b : Nat) : Int) := by
    unfold nrm
    exact Int.fdiv_eq_ediv_of_nonneg _ (by omega)
  have e2 : (nrm a b).2 = b / Nat.gcd a.natAbs b := rfl
  refine ⟨?_, ?_, ?_⟩
  · rw [e2]; exact Nat.div_pos (Nat.le_of_dvd hb d2) hg
  · rw [e1, e2, Int.natAbs_ediv_of_dvd d1, Int.natAbs_natCast, Nat.gcd_div (Nat.gcd_dvd_left _ _) d2, Nat.div_self hg]
  · rw [e1, e2]
    generalize hgg : Nat.gcd a.natAbs b = g at *
    obtain ⟨x, hx⟩ := d1
    obtain ⟨y, hy⟩ := d2
    have hg0 : (g : Int) ≠ 0 := by omega
    rw [hx, hy, Int.mul_ediv_cancel_left _ hg0, Nat.mul_div_cancel_left _ hg, Int.natCast_mul]
    rw [Int.mul_assoc, Int.mul_left_comm]
/-- two ratios in lowest terms that are the same number -/
theorem low_unique {p a : Int} {q b : Nat} (hq : 0 < q) (hb : 0 < b) (c1 : Nat.gcd p.natAbs q = 1) (c2 : Nat.gcd a.natAbs b = 1) (e : p * (b : Int) = a * (q : Int)) : p = a ∧ q = b := by
  have en : p.natAbs * b = a.natAbs * q := by
    have := congrArg Int.natAbs e
    rwa [Int.natAbs_mul, Int.natAbs_mul, Int.natAbs_natCast, Int.natAbs_natCast] at this
  have d1 : q ∣ b := (Nat.Coprime.dvd_of_dvd_mul_left (Nat.Coprime.symm c1) ⟨a.natAbs, by rw [en, Nat.mul_comm]⟩)
  have d2 : b ∣ q := (Nat.Coprime.dvd_of_dvd_mul_left (Nat.Coprime.symm c2) ⟨p.natAbs, by rw [← en, Nat.mul_comm]⟩)
  have hqb := Nat.dvd_antisymm d1 d2
  refine ⟨?_, hqb⟩
  subst hqb
  exact Int.eq_of_mul_eq_mul_right (by omega) e
theorem nrm_eq {p a : Int} {q b : Nat} (hq : 0 < q) (hb : 0 < b) (c1 : Nat.gcd p.natAbs q = 1) (e : p * (b : Int) = a * (q : Int)) : nrm a b = (p, q) := by
  obtain ⟨h1, h2, h3⟩ := nrm_spec a hb
  have e2 : p * ((nrm a b).2 : Int) = (nrm a b).1 * (q : Int) := by
    have hb0 : (b : Int) ≠ 0 := by omega
    refine Int.eq_of_mul_eq_mul_right hb0 ?_
    calc p * ((nrm a b).2 : Int) * (b : Int) = p * (b : Int) * ((nrm a b).2 : Int) := by rw [Int.mul_assoc, Int.mul_assoc, Int.mul_comm ((nrm a b).2 : Int)]
      _ = a * (q : Int) * ((nrm a b).2 : Int) := by rw [e]
      _ = a * ((nrm a b).2 : Int) * (q : Int) := by rw [Int.mul_assoc, Int.mul_assoc, Int.mul_comm (q : Int)]
      _ = (nrm a b).1 * (b : Int) * (q : Int) := by rw [← h3]
      _ = (nrm a b).1 * (q : Int) * (b : Int) := by rw [Int.mul_assoc, Int.mul_assoc, Int.mul_comm (b : Int)]
  obtain ⟨r1, r2⟩ := low_unique hq h1 c1 h2 e2
  exact Prod.ext r1.symm r2.symm
theorem lowI_pos (a : Int) (b : Nat) : lowI a (b : Int) = ((nrm a b).1, ((nrm a b).2 : Int)) := by
  have hs : shr a (b : Int) = ((Nat.gcd a.natAbs b : Nat) : Int) := by
    unfold shr
    rw [if_neg (by omega), Int.natAbs_natCast]
  unfold lowI nrm
  rw [hs, fdiv_nat]
theorem lowI_neg (a : Int) {b : Int} (h : 0 < b) : lowI a (-b) = lowI (-a) b := by
  unfold lowI shr
  rw [if_pos (by omega), if_neg (by omega), Int.natAbs_neg, Int.natAbs_neg]
  generalize ((Nat.gcd a.natAbs b.natAbs : Nat) : Int) = g
  have e : ∀ x : Int, x.fdiv (-g) = (-x).fdiv g := fun x => by
    have := Int.neg_fdiv_neg (a := -x) (b := g)
    rw [Int.neg_neg] at this
    exact this
  rw [e, e, Int.neg_neg]
/-- lowest(a, b), _law_q(a, b) -/
def spLowG : Sp := fun vs H Q _ => ∃ (a b : Int), vs = [.int a, .int b] ∧ DivOk a b ∧ b ≠ 0 ∧ ∀ t, H t = none → Q (.ref t) (upd H t (.tup [.int (lowI a b).1, .int (lowI a b).2]))
def spQG : Sp := fun vs H Q _ => ∃ (a b : Int), vs = [.int a, .int b] ∧ a.natAbs < N6 ∧ b.natAbs < N6 ∧ DivOk a b ∧ b ≠ 0 ∧ ∀ t, H t = none → Q (.ref t) (upd H t (.tup [.int (lowI a b).1, .int (lowI a b).2]))
/-- a ratio at t -/
def RatAt (H : Hp) (t : Addr) (a : Int) (b : Nat) : Prop := H t = some (.tup [.int a, .int (b : Int)])
def Mid (a : Int) (b : Nat) : Prop := 0 < b ∧ a.natAbs < 2 ^ 6000 ∧ b < 2 ^ 6000
/-- what two ratios make -/
def spTwo (f : Int → Nat → Int → Nat → Int × Nat) : Sp := fun vs H Q _ => ∃ (s t : Addr) (a c : Int) (b d : Nat), vs = [.ref s, .ref t] ∧ RatAt H s a b ∧ RatAt H t c d ∧ Mid a b ∧ Mid c d ∧ ∀ u, H u = none → Q (.ref u) (upd H u (.tup [.int (f a b c d).1, .int ((f a b c d).2 : Int)]))
def sumR (a : Int) (b : Nat) (c : Int) (d : Nat) : Int × Nat := nrm (a * (d : Int) + c * (b : Int)) (b * d)
def difR (a : Int) (b : Nat) (c : Int) (d : Nat) : Int × Nat := nrm (a * (d : Int) - c * (b : Int)) (b * d)
def mulR (a : Int) (b : Nat) (c : Int) (d : Nat) : Int × Nat := nrm (a * c) (b * d)
theorem mid_mul {x y : Int} (hx : x.natAbs < 2 ^ 6000) (hy : y.natAbs < 2 ^ 6000) : CMulW x y ∧ (x * y).natAbs < 2 ^ 12000 := by
  refine ⟨wide_mul (a := 6000) (b := 6000) hx hy (by decide) (by decide) (by decide), ?_⟩
  rw [Int.natAbs_mul, show (2 : Nat) ^ 12000 = 2 ^ 6000 * 2 ^ 6000 by rw [← Nat.pow_add]]
  exact Nat.mul_lt_mul_of_lt_of_lt hx hy
theorem mid_div {x y : Int} (hx : x.natAbs < 2 ^ 12001) (hy : y.natAbs < 2 ^ 12001) : DivOk x y ∧ x.natAbs < N6 ∧ y.natAbs < N6 := by
  have h1 : (2 : Nat) ^ 12001 ≤ 2 ^ 13500 := Nat.pow_le_pow_right (by decide) (by decide)
  have h2 : (2 : Nat) ^ 12001 ≤ N6 := by unfold N6; decide +kernel
  exact ⟨.inl ⟨Nat.lt_of_lt_of_le hx h1, Nat.lt_of_lt_of_le hy h1⟩, Nat.lt_of_lt_of_le hx h2, Nat.lt_of_lt_of_le hy h2⟩
theorem up12 {x : Nat} (h : x < 2 ^ 12000) : x < 2 ^ 12001 := Nat.lt_trans h (Nat.pow_lt_pow_right (by decide) (by decide))
theorem add12 {x y : Int} (hx : x.natAbs < 2 ^ 12000) (hy : y.natAbs < 2 ^ 12000) : (x + y).natAbs < 2 ^ 12001 ∧ (x - y).natAbs < 2 ^ 12001 := by
  have e : (2 : Nat) ^ 12001 = 2 ^ 12000 + 2 ^ 12000 := by rw [show 12001 = 12000 + 1 from rfl, Nat.pow_succ, Nat.mul_two]
  rw [e]
  generalize (2 : Nat) ^ 12000 = z at hx hy ⊢
  omega
end AL
set_option Elab.async false
set_option maxRecDepth 100000
set_option exponentiation.threshold 70000
set_option maxHeartbeats 1000000
/-! Amounts: what stands in the heap, what each method promises, and the arithmetic of both sides. -/
namespace AL
open PySem L2
/-! ### ratios in lowest terms -/
def Low (p : Int) (q : Nat) : Prop := 0 < q ∧ Nat.gcd p.natAbs q = 1
theorem nrm_low {p : Int} {q : Nat} (h : Low p q) : nrm p q = (p, q) := nrm_eq h.1 h.1 h.2 rfl
theorem low_nrm (a : Int) {b : Nat} (hb : 0 < b) : Low (nrm a b).1 (nrm a b).2 := by
  obtain ⟨h1, h2, _⟩ := nrm_spec a hb
  exact ⟨h1, h2⟩
theorem nrm_le (a : Int) (b : Nat) : (nrm a b).1.natAbs ≤ a.natAbs ∧ (nrm a b).2 ≤ b := by
  unfold nrm
  refine ⟨?_, Nat.div_le_self _ _⟩
  rw [Int.fdiv_eq_ediv_of_nonneg _ (by omega), Int.natAbs_ediv_of_dvd (Int.ofNat_dvd_left.mpr (Nat.gcd_dvd_left _ _)), Int.natAbs_natCast]
  exact Nat.div_le_self _ _
theorem low_neg {p : Int} {q : Nat} (h : Low p q) : Low (-p) q := ⟨h.1, by rw [Int.natAbs_neg]; exact h.2⟩
theorem low_one (i : Int) : Low i 1 := ⟨by decide, Nat.gcd_one_right _⟩
def Sm (p : Int) (q : Nat) : Prop := p.natAbs < 2 ^ 1000 ∧ q < 2 ^ 1000
theorem sm_mid {p : Int} {q : Nat} (h : Sm p q) (l : 0 < q) : Mid p q :=
  ⟨l, Nat.lt_of_lt_of_le h.1 (Nat.pow_le_pow_right (by decide) (by decide)), Nat.lt_of_lt_of_le h.2 (Nat.pow_le_pow_right (by decide) (by decide))⟩
/-- what a quotient of two ratios is -/
def ovR (p : Int) (q : Nat) (c : Int) (d : Nat) : Int × Nat := if c < 0 then nrm (-(p * d)) (q * c.natAbs) else nrm (p * d) (q * c.natAbs)
theorem ovR_eq (p : Int) (q : Nat) (c : Int) (d : Nat) (hq : 0 < q) (hc : c ≠ 0) : lowI (p * d) ((q : Int) * c) = ((ovR p q c d).1, ((ovR p q c d).2 : Int)) := by
  unfold ovR
  by_cases h : c < 0
  · rw [if_pos h]
    have e : (q : Int) * c = -(((q * c.natAbs : Nat) : Int)) := by
      rw [Int.natCast_mul, show ((c.natAbs : Nat) : Int) = -c by omega, Int.mul_neg, Int.neg_neg]
    have pos : (0 : Int) < ((q * c.natAbs : Nat) : Int) := by
      have : 0 < q * c.natAbs := Nat.mul_pos hq (Int.natAbs_pos.mpr hc)
      omega
    rw [e, lowI_neg _ pos, lowI_pos]
  · rw [if_neg h]
    have e : (q : Int) * c = (((q * c.natAbs : Nat) : Int)) := by
      rw [Int.natCast_mul, show ((c.natAbs : Nat) : Int) = c by omega]
    rw [e, lowI_pos]
theorem ovR_low (p : Int) (q : Nat) (c : Int) (d : Nat) (hq : 0 < q) (hc : c ≠ 0) : Low (ovR p q c d).1 (ovR p q c d).2 := by
  have pos : 0 < q * c.natAbs := Nat.mul_pos hq (Int.natAbs_pos.mpr hc)
  unfold ovR
  split
  · exact low_nrm _ pos
  · exact low_nrm _ pos
theorem mul2 {x y : Nat} (a b : Nat) (hx : x < 2 ^ a) (hy : y < 2 ^ b) : x * y < 2 ^ (a + b) := by
  rw [Nat.pow_add]
  exact Nat.mul_lt_mul_of_lt_of_lt hx hy
theorem up6 {x a : Nat} (h : x < 2 ^ a) (ha : a ≤ 6000) : x < 2 ^ 6000 := Nat.lt_of_lt_of_le h (Nat.pow_le_pow_right (by decide) ha)
theorem nrm_mid {a : Int} {b : Nat} (hb : 0 < b) (h1 : a.natAbs < 2 ^ 6000) (h2 : b < 2 ^ 6000) : Mid (nrm a b).1 (nrm a b).2 :=
  ⟨(low_nrm a hb).1, Nat.lt_of_le_of_lt (nrm_le a b).1 h1, Nat.lt_of_le_of_lt (nrm_le a b).2 h2⟩
theorem sm_prod {a : Int} {b : Nat} (h1 : a.natAbs < 2 ^ 1000) (h2 : b < 2 ^ 1000) : (a * (b : Int)).natAbs < 2 ^ 2000 := by
  rw [Int.natAbs_mul, Int.natAbs_natCast]
  exact mul2 1000 1000 h1 h2
theorem sum_ok {p c : Int} {q d : Nat} (s : Sm p q) (t : Sm c d) (hq : 0 < q) (hd : 0 < d) : Low (sumR p q c d).1 (sumR p q c d).2 ∧ Mid (sumR p q c d).1 (sumR p q c d).2 := by
  have pos := Nat.mul_pos hq hd
  have n1 := sm_prod s.1 t.2
  have n2 := sm_prod t.1 s.2
  have e : (2 : Nat) ^ 2001 = 2 ^ 2000 + 2 ^ 2000 := by rw [show 2001 = 2000 + 1 from rfl, Nat.pow_succ, Nat.mul_two]
  have n3 : (p * (d : Int) + c * (q : Int)).natAbs < 2 ^ 2001 := by
    rw [e]; generalize (2 : Nat) ^ 2000 = z at n1 n2 ⊢; omega
  exact ⟨low_nrm _ pos, nrm_mid pos (up6 n3 (by decide)) (up6 (mul2 1000 1000 s.2 t.2) (by decide))⟩
theorem dif_eq (p : Int) (q : Nat) (c : Int) (d : Nat) : difR p q c d = sumR p q (-c) d := by
  unfold difR sumR
  rw [Int.neg_mul, Int.sub_eq_add_neg]
theorem sm_neg {p : Int} {q : Nat} (h : Sm p q) : Sm (-p) q := ⟨by rw [Int.natAbs_neg]; exact h.1, h.2⟩
theorem mul_ok {p c : Int} {q d : Nat} (s : Sm p q) (t : Sm c d) (hq : 0 < q) (hd : 0 < d) : Low (mulR p q c d).1 (mulR p q c d).2 ∧ Mid (mulR p q c d).1 (mulR p q c d).2 := by
  have pos := Nat.mul_pos hq hd
  refine ⟨low_nrm _ pos, nrm_mid pos ?_ (up6 (mul2 1000 1000 s.2 t.2) (by decide))⟩
  rw [Int.natAbs_mul]
  exact up6 (mul2 1000 1000 s.1 t.1) (by decide)
theorem ov_ok {p c : Int} {q d : Nat} (s : Sm p q) (t : Sm c d) (hq : 0 < q) (hc : c ≠ 0) : Low (ovR p q c d).1 (ovR p q c d).2 ∧ Mid (ovR p q c d).1 (ovR p q c d).2 := by
  have pos : 0 < q * c.natAbs := Nat.mul_pos hq (Int.natAbs_pos.mpr hc)
  have h1 : (p * (d : Int)).natAbs < 2 ^ 6000 := up6 (sm_prod s.1 t.2) (by decide)
  have h2 : q * c.natAbs < 2 ^ 6000 := up6 (mul2 1000 1000 s.2 t.1) (by decide)
  refine ⟨ovR_low p q c d hq hc, ?_⟩
  unfold ovR
  split
  · exact nrm_mid pos (by rw [Int.natAbs_neg]; exact h1) h2
  · exact nrm_mid pos h1 h2
/-- the power n -/
def pwR (p : Int) (q : Nat) (n : Int) : Int × Nat := if n < 0 then ovR ((q ^ n.natAbs : Nat) : Int) 1 (p ^ n.natAbs) 1 else (p ^ n.natAbs, q ^ n.natAbs)
theorem pow6 {x n : Nat} (h : x < 2 ^ 1000) (hn : n ≤ 6) : x ^ n < 2 ^ 6000 := by
  rcases Nat.eq_zero_or_pos n with rfl | h0
  · exact Nat.one_lt_two_pow (by decide)
  · refine Nat.lt_of_lt_of_le (Nat.pow_lt_pow_left h (by omega)) ?_
    rw [← Nat.pow_mul]
    exact Nat.pow_le_pow_right (by decide) (by omega)
theorem pw_ok {p : Int} {q : Nat} {n : Int} (s : Sm p q) (l : Low p q) (hn : n.natAbs ≤ 6) (h0 : ¬ (n < 0 ∧ p = 0)) : Low (pwR p q n).1 (pwR p q n).2 ∧ Mid (pwR p q n).1 (pwR p q n).2 := by
  have hp : (p ^ n.natAbs).natAbs < 2 ^ 6000 := by rw [Int.natAbs_pow]; exact pow6 s.1 hn
  have hq := pow6 s.2 hn
  unfold pwR
  by_cases h : n < 0
  · rw [if_pos h]
    have hp0 : p ≠ 0 := fun z => h0 ⟨h, z⟩
    have e0 : p ^ n.natAbs ≠ 0 := Int.pow_ne_zero hp0
    have pos : 0 < 1 * (p ^ n.natAbs).natAbs := by rw [Nat.one_mul]; exact Int.natAbs_pos.mpr e0
    refine ⟨ovR_low _ _ _ _ (by decide) e0, ?_⟩
    have h1 : (((q ^ n.natAbs : Nat) : Int) * ((1 : Nat) : Int)).natAbs < 2 ^ 6000 := by rw [Int.natCast_one, Int.mul_one, Int.natAbs_natCast]; exact hq
    have h2 : 1 * (p ^ n.natAbs).natAbs < 2 ^ 6000 := by rw [Nat.one_mul]; exact hp
    unfold ovR
    split
    · exact nrm_mid pos (by rw [Int.natAbs_neg]; exact h1) h2
    · exact nrm_mid pos h1 h2
  · rw [if_neg h]
    have hq0 : 0 < q ^ n.natAbs := Nat.pow_pos l.1
    refine ⟨⟨hq0, ?_⟩, hq0, hp, hq⟩
    show Nat.gcd (p ^ n.natAbs).natAbs (q ^ n.natAbs) = 1
    rw [Int.natAbs_pow]
    exact Nat.Coprime.pow _ _ l.2
/-! ### the heap -/
/-- all but dicts stays -/
def KeepP (H H' : Hp) : Prop := ∀ b o, H b = some o → (∀ l, o ≠ .dK l) → H' b = some o
/-- all but dicts and tables stays -/
def KeepD (H H' : Hp) : Prop := ∀ b o, H b = some o → (∀ l, o ≠ .dK l) → (∀ ps, o ≠ .tbl ps) → H' b = some o
theorem KeepD.refl (H : Hp) : KeepD H H := fun _ _ h _ _ => h
theorem KeepP.refl (H : Hp) : KeepP H H := fun _ _ h _ => h
theorem KeepD.trans {H H1 H2 : Hp} (a : KeepD H H1) (b : KeepD H1 H2) : KeepD H H2 := fun c o h n t => b c o (a c o h n t) n t
theorem KeepP.trans {H H1 H2 : Hp} (a : KeepP H H1) (b : KeepP H1 H2) : KeepP H H2 := fun c o h n => b c o (a c o h n) n
theorem KeepP.d {H H1 : Hp} (a : KeepP H H1) : KeepD H H1 := fun c o h n _ => a c o h n
theorem Same.p {H H' : Hp} (s : Same H H') : KeepP H H' := fun b o h _ => s b o h
theorem Same.d {H H' : Hp} (s : Same H H') : KeepD H H' := (Same.p s).d
theorem Keep.p {p c : Addr} {m : Nat} {H H' : Hp} (k : Keep p H H') (P : Pen H p c m) : KeepP H H' := fun _ _ h n => k.at P h n
theorem ext_d {H H' : Hp} (e : LamX.ExtN H H') : KeepD H H' := fun b o h _ t => e b o h t
theorem pen_ext {H H' : Hp} {p c : Addr} {m : Nat} (P : Pen H p c m) (e : LamX.ExtN H H') : Pen H' p c m :=
  P.keep (fun o h => by
    obtain ⟨l, z⟩ := P.dict
    rw [z] at h; cases h
    exact e _ _ z (fun ps w => by cases w)) (fun o h => by
    obtain ⟨ns, i, d, n, f, h1, h2, _⟩ := P.ex
    rw [h2] at h; cases h
    exact e _ _ h2 (fun ps w => by cases w))
theorem tabs_p {T : List (Addr × Str)} {H H' : Hp} (t : LamX.Tabs T H) (k : KeepP H H') : LamX.Tabs T H' := fun p hp => by
  obtain ⟨ps, h1, h2, h3⟩ := t p hp
  refine ⟨ps, k _ _ h1 (fun l z => by cases z), h2, fun pos cv hc => ?_⟩
  obtain ⟨c, e1, e2⟩ := h3 pos cv hc
  exact ⟨c, e1, k _ _ e2 (fun l z => by unfold LamX.CodeO at z; cases z)⟩
theorem KeepD.tup {H H' : Hp} (k : KeepD H H') {a : Addr} {xs : List V} (h : H a = some (.tup xs)) : H' a = some (.tup xs) := k a _ h (fun l z => by cases z) (fun l z => by cases z)
theorem KeepD.lst {H H' : Hp} (k : KeepD H H') {a : Addr} {xs : List V} (h : H a = some (.lst xs)) : H' a = some (.lst xs) := k a _ h (fun l z => by cases z) (fun l z => by cases z)
theorem kEN : ¬ (("exponents" : Str) = "number") := by decide +kernel
def flA (t r : Addr) : List (Str × V) := putF "number" (.ref r) (putF "exponents" (.ref t) [])
theorem flA_e (t r : Addr) : (flA t r).lookup ("exponents" : Str) = some (.ref t) := by
  unfold flA
  rw [lookup_putF, if_neg kEN, lookup_putF, if_pos rfl]
theorem flA_n (t r : Addr) : (flA t r).lookup ("number" : Str) = some (.ref r) := by
  unfold flA
  rw [lookup_putF, if_pos rfl]
theorem flA_no (t r : Addr) {m : Str} (h1 : ¬ m = "number") (h2 : ¬ m = "exponents") : (flA t r).lookup m = none := by
  unfold flA
  rw [lookup_putF, if_neg h1, lookup_putF, if_neg h2]
  all_goals rfl
def TupI (H : Hp) (t : Addr) (es : List Int) : Prop := H t = some (.tup (es.map V.int))
/-- an amount stands at x -/
structure Amt (CA : Addr) (H : Hp) (x : Addr) (es : List Int) (p : Int) (q : Nat) : Prop where
  ex : ∃ dx t r, H x = some (.ins CA dx (flA t r)) ∧ TupI H t es ∧ RatAt H r p q
  ne : es ≠ []
  le : es.length ≤ 60
  low : Low p q
  mid : Mid p q
theorem Amt.keep {CA x : Addr} {H H' : Hp} {es : List Int} {p : Int} {q : Nat} (h : Amt CA H x es p q) (k : KeepD H H') : Amt CA H' x es p q := by
  obtain ⟨dx, t, r, h1, h2, h3⟩ := h.ex
  exact ⟨⟨dx, t, r, k x _ h1 (fun l z => by cases z) (fun l z => by cases z), k.tup h2, k.tup h3⟩, h.ne, h.le, h.low, h.mid⟩
theorem Amt.ins {CA x : Addr} {H : Hp} {es : List Int} {p : Int} {q : Nat} (h : Amt CA H x es p q) : InsAt H x CA := by
  obtain ⟨dx, t, r, h1, _⟩ := h.ex
  exact ⟨dx, _, h1⟩
theorem dpAll_int {K : PySem.W.Frag} {H : Hp} : ∀ l : List Int, DpAll K H (l.map V.int) (l.map PyData.int)
  | [] => .nil
  | i :: l => .cons (.int i) (dpAll_int l)
theorem dp_ints {K : PySem.W.Frag} {H : Hp} {t : Addr} {es : List Int} (h : TupI H t es) : Dp K H (.ref t) (.tuple (es.map PyData.int)) := .tup (SqT.of h) (dpAll_int es)
theorem can_ints (l : List Int) : PyData.canLayAll0 (l.map PyData.int) = true ∧ PyData.depthAll (l.map PyData.int) = 0 := by
  induction l with
  | nil => exact ⟨rfl, rfl⟩
  | cons b l ih => exact ⟨by simp [PyData.canLayAll0, PyData.canLay0, ih.1], by simp [PyData.depthAll, PyData.depth, ih.2]⟩
theorem shaped_ints (l : List Int) : SeqAt.shaped (.tuple (l.map PyData.int)) = true := by
  unfold SeqAt.shaped
  rw [show PyData.canLay0 (.tuple (l.map PyData.int)) = true by simpa [PyData.canLay0] using (can_ints l).1]
  simp [PyData.depth, (can_ints l).2]
theorem eqv_ints (a b : List Int) : PyData.eqv (.tuple (a.map PyData.int)) (.tuple (b.map PyData.int)) = decide (a = b) := by
  rw [PyData.eqv]
  exact PySem.W.ked_eqvAll a b
theorem rat_ints {H : Hp} {r : Addr} {p : Int} {q : Nat} (h : RatAt H r p q) : TupI H r [p, (q : Int)] := h
/-! ### what may be passed for exponents -/
inductive BadExp (K : PySem.W.Frag) (H : Hp) : V → Prop
  | other {x : V} {u : Value} (h : TyX K H x u) (ht : PySem.W.kitOne K u (.type "tuple") = some false) : BadExp K H x
  | empty {t : Addr} (h : H t = some (.tup [])) : BadExp K H (.ref t)
  | item {t : Addr} {xs : List V} (f : V → Bool) (h : H t = some (.tup xs)) (ne : xs ≠ []) (hl : xs.length ≤ 100)
      (hf : ∀ H', Same H H' → ∀ x ∈ xs, ∃ u b c, TyX K H' x u ∧ PySem.W.kitOne K u (.type "int") = some b ∧ PySem.W.kitOne K u (.type "bool") = some c ∧ (b && !c) = f x) (no : xs.all f = false) : BadExp K H (.ref t)
/-- are_integers(t) -/
def spAreG (K : PySem.W.Frag) : Sp := fun vs H Q _ => ∃ (t : Addr) (xs : List V) (f : V → Bool), vs = [.ref t] ∧ H t = some (.tup xs) ∧ xs.length ≤ 100 ∧
  (∀ H', Same H H' → ∀ x ∈ xs, ∃ u b c, TyX K H' x u ∧ PySem.W.kitOne K u (.type "int") = some b ∧ PySem.W.kitOne K u (.type "bool") = some c ∧ (b && !c) = f x) ∧ ∀ H', Same H H' → Q (.bl (xs.all f)) H'
theorem flat_all {K : PySem.W.Frag} {H : Hp} {xs : List V} {f : V → Bool} (h : ∀ x ∈ xs, flatW x = some (f x)) : ∀ H', Same H H' → ∀ x ∈ xs, ∃ u b c, TyX K H' x u ∧ PySem.W.kitOne K u (.type "int") = some b ∧ PySem.W.kitOne K u (.type "bool") = some c ∧ (b && !c) = f x :=
  fun _ _ x hx => flat_ty (h x hx)
theorem ints_all {K : PySem.W.Frag} {H : Hp} (es : List Int) : ∀ H', Same H H' → ∀ x ∈ es.map V.int, ∃ u b c, TyX K H' x u ∧ PySem.W.kitOne K u (.type "int") = some b ∧ PySem.W.kitOne K u (.type "bool") = some c ∧ (b && !c) = (fun _ => true) x :=
  flat_all (K := K) (H := H) (f := fun _ => true) fun x hx => by
    obtain ⟨i, _, rfl⟩ := List.mem_map.mp hx
    rfl
/-! ### the methods' promises -/
def errN (what : Str) (v : V) : HO := .xd [("number", v), ("what", .str what)]
def errU (t u : Addr) : HO := .xd [("other", .ref u), ("one", .ref t), ("place", .int 0)]
def errZ : HO := .xd [("place", .int 0)]
/-- the error of unlike exponents, at H -/
def ThrowU (UL : Addr) (H : Hp) (es fs : List Int) (E : XK) : Prop := ∀ t u d H1, TupI H1 t es → TupI H1 u fs → H1 d = none → Same H H1 → E (.ref UL) (some d) (upd H1 d (errU t u))
def spLike (CA UL : Addr) : Sp := fun vs H Q E => ∃ x y es fs p q c d, vs = [.ref x, .ref y] ∧ Amt CA H x es p q ∧ Amt CA H y fs c d ∧ (es = fs → Q .non H) ∧ (es ≠ fs → ThrowU UL H es fs E)
/-- Amount.__init__(self, exponents, number) -/
def spIniA (K : PySem.W.Frag) (CA BN : Addr) : Sp := fun vs H Q E => ∃ (x dx : Addr) (e n : V), vs = [.ref x, e, n] ∧ H x = some (.ins CA dx []) ∧
  ((BadExp K H e ∧ ∀ d H1, H1 d = none → Same H H1 → E (.ref BN) (some d) (upd H1 d (errN "exponents" e))) ∨
   (∃ t es, e = .ref t ∧ TupI H t es ∧ es ≠ [] ∧ es.length ≤ 60 ∧
     ((RatV K H n none ∧ ∀ d H1, H1 d = none → Same H H1 → E (.ref BN) (some d) (upd H1 d (errN "number" n))) ∨
      ∃ p q, RatV K H n (some (p, q)) ∧ Mid p q ∧
        ∀ r H', (∀ b o, b ≠ x → H b = some o → H' b = some o) → H' x = some (.ins CA dx (flA t r)) → RatAt H' r (nrm p q).1 (nrm p q).2 → Q .non H')))
/-- x + y, x - y -/
def spSumA (CA UL : Addr) (f : Int → Nat → Int → Nat → Int × Nat) : Sp := fun vs H Q E => ∃ x y es fs p q c d, vs = [.ref x, .ref y] ∧ Amt CA H x es p q ∧ Amt CA H y fs c d ∧ Sm p q ∧ Sm c d ∧
  (es = fs → ∀ z H', Same H H' → Amt CA H' z es (f p q c d).1 (f p q c d).2 → Q (.ref z) H') ∧ (es ≠ fs → ThrowU UL H es fs E)
def spLessA (CA UL : Addr) : Sp := fun vs H Q E => ∃ x y es fs p q c d, vs = [.ref x, .ref y] ∧ Amt CA H x es p q ∧ Amt CA H y fs c d ∧ (es = fs → Q (.bl (decide (p * (d : Int) < c * (q : Int)))) H) ∧ (es ≠ fs → ThrowU UL H es fs E)
def spMulA (CA : Addr) : Sp := fun vs H Q _ => ∃ x y es fs p q c d, vs = [.ref x, .ref y] ∧ Amt CA H x es p q ∧ Amt CA H y fs c d ∧ Sm p q ∧ Sm c d ∧ es.length = fs.length ∧
  ∀ z H', Same H H' → Amt CA H' z (List.zipWith (· + ·) es fs) (mulR p q c d).1 (mulR p q c d).2 → Q (.ref z) H'
def spNegA (CA : Addr) : Sp := fun vs H Q _ => ∃ x es p q, vs = [.ref x] ∧ Amt CA H x es p q ∧ ∀ z H', Same H H' → Amt CA H' z es (-p) q → Q (.ref z) H'
def spOverA (CA BZ : Addr) : Sp := fun vs H Q E => ∃ x y es fs p q c d, vs = [.ref x, .ref y] ∧ Amt CA H x es p q ∧ Amt CA H y fs c d ∧ Sm p q ∧ Sm c d ∧ es.length = fs.length ∧
  (c = 0 → ∀ dd, H dd = none → E (.ref BZ) (some dd) (upd H dd errZ)) ∧
  (c ≠ 0 → ∀ z H', Same H H' → Amt CA H' z (List.zipWith (· - ·) es fs) (ovR p q c d).1 (ovR p q c d).2 → Q (.ref z) H')
def spPowA (K : PySem.W.Frag) (CA BN BZ : Addr) : Sp := fun vs H Q E => ∃ x v es p q, vs = [.ref x, v] ∧ Amt CA H x es p q ∧ Sm p q ∧
  ((∃ u b c, TyX K H v u ∧ PySem.W.kitOne K u (.type "int") = some b ∧ PySem.W.kitOne K u (.type "bool") = some c ∧ (b && !c) = false ∧ ∀ dd, H dd = none → E (.ref BN) (some dd) (upd H dd (errN "power" v))) ∨
   ∃ n : Int, v = .int n ∧ n.natAbs ≤ 6 ∧ ((n < 0 ∧ p = 0) → ∀ dd, H dd = none → E (.ref BZ) (some dd) (upd H dd errZ)) ∧
     (¬ (n < 0 ∧ p = 0) → ∀ z H', Same H H' → Amt CA H' z (es.map (n * ·)) (pwR p q n).1 (pwR p q n).2 → Q (.ref z) H'))
def spEqA (K : PySem.W.Frag) (CA : Addr) : Sp := fun vs H Q _ => ∃ x v es p q, vs = [.ref x, v] ∧ Amt CA H x es p q ∧
  ((∃ y fs c d, v = .ref y ∧ Amt CA H y fs c d ∧ Q (.bl (decide (es = fs) && decide (p = c ∧ q = d))) H) ∨ (∃ tb, TyX K H v tb ∧ PySem.W.kitOne K tb (.ref CA) = some false ∧ Q (.bl false) H))
end AL
set_option Elab.async false
set_option maxRecDepth 100000
set_option exponentiation.threshold 70000
set_option maxHeartbeats 1000000
/-! Sums and products of ratios in lowest terms, with small divisors. -/
namespace AL
open PySem L2
theorem tyx_same {K : PySem.W.Frag} {H H' : Hp} (s : Same H H') {x : V} {u : Value} (h : TyX K H x u) : TyX K H' x u := by
  cases h with
  | base b =>
    refine .base ?_
    cases b with
    | non => exact .non
    | bl x => exact .bl x
    | int i => exact .int i
    | str x => exact .str x
    | flt x => exact .flt x
    | lst e => exact .lst (s _ _ e)
    | frz e => exact .frz (s _ _ e)
    | tup e => exact .tup (s _ _ e)
    | dK e => exact .dK (s _ _ e)
    | dT e => exact .dT (s _ _ e)
    | ins e cl ha hn htk hm => exact .ins (s _ _ e) cl ha hn htk hm
  | byt b => exact .byt b
  | set e => exact .set (s _ _ e)
  | kList e c => exact .kList e c
  | kTuple e c => exact .kTuple e c
  | kDict e c => exact .kDict e c
  | fTuple e => exact .fTuple (s _ _ e)
  | fDict e => exact .fDict (s _ _ e)
theorem ratV_same {K : PySem.W.Frag} {H H' : Hp} {x : V} {r : Option (Int × Nat)} (h : RatV K H x r) (s : Same H H') : RatV K H' x r := h.same s fun _ z => tyx_same s z
theorem cop_mul {x y z : Nat} (h1 : Nat.gcd x y = 1) (h2 : Nat.gcd x z = 1) : Nat.gcd x (y * z) = 1 := Nat.Coprime.mul_right h1 h2
/-- the sum's parts -/
def shG (b d : Nat) : Nat := Nat.gcd b d
def totS (a : Int) (b : Nat) (c : Int) (d : Nat) : Int := a * ((d / Nat.gcd b d : Nat) : Int) + c * ((b / Nat.gcd b d : Nat) : Int)
def lefS (a : Int) (b : Nat) (c : Int) (d : Nat) : Nat := Nat.gcd (totS a b c d).natAbs (Nat.gcd b d)
theorem sum_short {a c : Int} {b d : Nat} (h : Low a b) (k : Low c d) : sumR a b c d = ((totS a b c d).fdiv ((lefS a b c d : Nat) : Int), b / lefS a b c d * (d / Nat.gcd b d)) := by
  have g0 : 0 < Nat.gcd b d := Nat.gcd_pos_of_pos_left _ h.1
  have l0 : 0 < lefS a b c d := Nat.gcd_pos_of_pos_right _ g0
  have co' : Nat.gcd (b / Nat.gcd b d) (d / Nat.gcd b d) = 1 := Nat.coprime_div_gcd_div_gcd g0
  have eb : b / Nat.gcd b d * Nat.gcd b d = b := Nat.div_mul_cancel (Nat.gcd_dvd_left _ _)
  have ed : d / Nat.gcd b d * Nat.gcd b d = d := Nat.div_mul_cancel (Nat.gcd_dvd_right _ _)
  have lt : lefS a b c d ∣ (totS a b c d).natAbs := Nat.gcd_dvd_left _ _
  have lg : lefS a b c d ∣ Nat.gcd b d := Nat.gcd_dvd_right _ _
  have eg : Nat.gcd b d / lefS a b c d * lefS a b c d = Nat.gcd b d := Nat.div_mul_cancel lg
  have cg : Nat.gcd ((totS a b c d).natAbs / lefS a b c d) (Nat.gcd b d / lefS a b c d) = 1 := Nat.coprime_div_gcd_div_gcd l0
  have lI : ((lefS a b c d : Nat) : Int) ∣ totS a b c d := Int.ofNat_dvd_left.mpr lt
  have eT : (totS a b c d).fdiv ((lefS a b c d : Nat) : Int) * ((lefS a b c d : Nat) : Int) = totS a b c d := by
    rw [Int.fdiv_eq_ediv_of_nonneg _ (by omega)]
    exact Int.ediv_mul_cancel lI
  have aT : ((totS a b c d).fdiv ((lefS a b c d : Nat) : Int)).natAbs = (totS a b c d).natAbs / lefS a b c d := by
    rw [Int.fdiv_eq_ediv_of_nonneg _ (by omega), Int.natAbs_ediv_of_dvd lI, Int.natAbs_natCast]
  have defT : totS a b c d = a * ((d / Nat.gcd b d : Nat) : Int) + c * ((b / Nat.gcd b d : Nat) : Int) := rfl
  generalize lefS a b c d = l at *
  generalize totS a b c d = T at *
  generalize hg : Nat.gcd b d = g at *
  generalize hb' : b / g = b' at *
  generalize hd' : d / g = d' at *
  generalize hg' : g / l = g' at *
  have hbl : b / l = b' * g' := by
    rw [← eb, ← eg, ← Nat.mul_assoc, Nat.mul_div_cancel _ l0]
  have hT0 : (T.fdiv (l : Int)).natAbs * l = T.natAbs := by rw [aT]; exact Nat.div_mul_cancel lt
  have dT : (T.fdiv (l : Int)).natAbs ∣ T.natAbs := ⟨l, hT0.symm⟩
  -- no divisor with b', none with d'
  have key : ∀ {x : Int} {y z w : Nat}, Nat.gcd x.natAbs (y * g) = 1 → Nat.gcd y z = 1 → (∀ e : Nat, e ∣ y → e ∣ T.natAbs → e ∣ (x * (z : Int)).natAbs) → Nat.gcd (T.fdiv (l : Int)).natAbs y = 1 := by
    intro x y z w h1 h2 h3
    have e1 := Nat.gcd_dvd_left (T.fdiv (l : Int)).natAbs y
    have e2 := Nat.gcd_dvd_right (T.fdiv (l : Int)).natAbs y
    generalize Nat.gcd (T.fdiv (l : Int)).natAbs y = e at e1 e2 ⊢
    have e3 := h3 e e2 (Nat.dvd_trans e1 dT)
    rw [Int.natAbs_mul, Int.natAbs_natCast] at e3
    have ce : Nat.gcd e z = 1 := Nat.Coprime.coprime_dvd_left e2 h2
    have e4 : e ∣ x.natAbs := Nat.Coprime.dvd_of_dvd_mul_right ce e3
    have e5 : e ∣ y * g := Nat.dvd_trans e2 (Nat.dvd_mul_right _ _)
    have e6 : e ∣ Nat.gcd x.natAbs (y * g) := Nat.dvd_gcd e4 e5
    rw [h1] at e6
    exact Nat.dvd_one.mp e6
  have dvd_sub : ∀ {e : Nat} {x y : Int}, e ∣ (x + y).natAbs → e ∣ y.natAbs → e ∣ x.natAbs := by
    intro e x y h1 h2
    have i1 := Int.ofNat_dvd_left.mpr h1
    have i2 := Int.ofNat_dvd_left.mpr h2
    have i3 := Int.dvd_sub i1 i2
    rw [Int.add_sub_cancel] at i3
    exact Int.ofNat_dvd_left.mp i3
  have k1 : Nat.gcd (T.fdiv (l : Int)).natAbs b' = 1 := by
    refine key (x := a) (z := d') (w := 0) (by rw [eb]; exact h.2) co' fun e he ht => ?_
    rw [defT] at ht
    refine dvd_sub ht ?_
    rw [Int.natAbs_mul, Int.natAbs_natCast]
    exact Nat.dvd_trans he (Nat.dvd_mul_left _ _)
  have k2 : Nat.gcd (T.fdiv (l : Int)).natAbs d' = 1 := by
    refine key (x := c) (z := b') (w := 0) (by rw [ed]; exact k.2) (by rw [Nat.gcd_comm]; exact co') fun e he ht => ?_
    rw [defT, Int.add_comm] at ht
    refine dvd_sub ht ?_
    rw [Int.natAbs_mul, Int.natAbs_natCast]
    exact Nat.dvd_trans he (Nat.dvd_mul_left _ _)
  have k3 : Nat.gcd (T.fdiv (l : Int)).natAbs g' = 1 := by rw [aT]; exact cg
  have b'0 : 0 < b' := Nat.pos_of_ne_zero fun z => by rw [z, Nat.zero_mul] at eb; have := h.1; omega
  have d'0 : 0 < d' := Nat.pos_of_ne_zero fun z => by rw [z, Nat.zero_mul] at ed; have := k.1; omega
  have g'0 : 0 < g' := Nat.pos_of_ne_zero fun z => by rw [z, Nat.zero_mul] at eg; omega
  unfold sumR
  refine nrm_eq ?_ (Nat.mul_pos h.1 k.1) ?_ ?_
  · rw [hbl]; exact Nat.mul_pos (Nat.mul_pos b'0 g'0) d'0
  · rw [hbl]; exact cop_mul (cop_mul k1 k3) k2
  · rw [hbl]
    have eb2 : (b : Int) = (b' : Int) * (g' : Int) * (l : Int) := by rw [← eb, ← eg]; push_cast; rw [Int.mul_assoc]
    have ed2 : (d : Int) = (d' : Int) * (g' : Int) * (l : Int) := by rw [← ed, ← eg]; push_cast; rw [Int.mul_assoc]
    have eS : a * (d : Int) + c * (b : Int) = T * ((g' : Int) * (l : Int)) := by
      rw [defT, eb2, ed2, Int.add_mul]
      congr 1
      · simp only [Int.mul_assoc]
      · simp only [Int.mul_assoc]
    rw [eS, Int.natCast_mul, Int.natCast_mul, Int.natCast_mul]
    have e3 : T * ((g' : Int) * (l : Int)) = T.fdiv (l : Int) * (l : Int) * ((g' : Int) * (l : Int)) := by rw [eT]
    rw [e3, eb2, ed2]
    generalize T.fdiv (l : Int) = t
    simp only [Int.mul_assoc, Int.mul_comm, Int.mul_left_comm]
theorem mul_short {a c : Int} {b d : Nat} (h : Low a b) (k : Low c d) : mulR a b c d = (a.fdiv ((Nat.gcd a.natAbs d : Nat) : Int) * c.fdiv ((Nat.gcd c.natAbs b : Nat) : Int), b / Nat.gcd c.natAbs b * (d / Nat.gcd a.natAbs d)) := by
  have f0 : 0 < Nat.gcd a.natAbs d := Nat.gcd_pos_of_pos_right _ k.1
  have s0 : 0 < Nat.gcd c.natAbs b := Nat.gcd_pos_of_pos_right _ h.1
  have part : ∀ {x : Int} {y : Nat}, 0 < Nat.gcd x.natAbs y → x.fdiv ((Nat.gcd x.natAbs y : Nat) : Int) * ((Nat.gcd x.natAbs y : Nat) : Int) = x ∧ (x.fdiv ((Nat.gcd x.natAbs y : Nat) : Int)).natAbs = x.natAbs / Nat.gcd x.natAbs y ∧ Nat.gcd (x.natAbs / Nat.gcd x.natAbs y) (y / Nat.gcd x.natAbs y) = 1 ∧ y / Nat.gcd x.natAbs y * Nat.gcd x.natAbs y = y := by
    intro x y g0
    have dI : ((Nat.gcd x.natAbs y : Nat) : Int) ∣ x := Int.ofNat_dvd_left.mpr (Nat.gcd_dvd_left _ _)
    refine ⟨?_, ?_, Nat.coprime_div_gcd_div_gcd g0, Nat.div_mul_cancel (Nat.gcd_dvd_right _ _)⟩
    · rw [Int.fdiv_eq_ediv_of_nonneg _ (by omega)]
      exact Int.ediv_mul_cancel dI
    · rw [Int.fdiv_eq_ediv_of_nonneg _ (by omega), Int.natAbs_ediv_of_dvd dI, Int.natAbs_natCast]
  obtain ⟨a1, a2, a3, a4⟩ := part f0
  obtain ⟨c1, c2, c3, c4⟩ := part s0
  have da : a.natAbs / Nat.gcd a.natAbs d ∣ a.natAbs := Nat.div_dvd_of_dvd (Nat.gcd_dvd_left _ _)
  have dc : c.natAbs / Nat.gcd c.natAbs b ∣ c.natAbs := Nat.div_dvd_of_dvd (Nat.gcd_dvd_left _ _)
  have db : b / Nat.gcd c.natAbs b ∣ b := Nat.div_dvd_of_dvd (Nat.gcd_dvd_right _ _)
  have dd : d / Nat.gcd a.natAbs d ∣ d := Nat.div_dvd_of_dvd (Nat.gcd_dvd_right _ _)
  have x1 : Nat.gcd (a.natAbs / Nat.gcd a.natAbs d) (b / Nat.gcd c.natAbs b) = 1 := Nat.Coprime.coprime_dvd_left da (Nat.Coprime.coprime_dvd_right db h.2)
  have x2 : Nat.gcd (c.natAbs / Nat.gcd c.natAbs b) (d / Nat.gcd a.natAbs d) = 1 := Nat.Coprime.coprime_dvd_left dc (Nat.Coprime.coprime_dvd_right dd k.2)
  have b0 : 0 < b / Nat.gcd c.natAbs b := Nat.div_pos (Nat.le_of_dvd h.1 (Nat.gcd_dvd_right _ _)) s0
  have d0 : 0 < d / Nat.gcd a.natAbs d := Nat.div_pos (Nat.le_of_dvd k.1 (Nat.gcd_dvd_right _ _)) f0
  unfold mulR
  refine nrm_eq (Nat.mul_pos b0 d0) (Nat.mul_pos h.1 k.1) ?_ ?_
  · rw [Int.natAbs_mul, a2, c2]
    exact Nat.Coprime.mul_left (cop_mul x1 a3) (cop_mul c3 x2)
  · generalize Nat.gcd a.natAbs d = f at *
    generalize Nat.gcd c.natAbs b = s at *
    have eb2 : (b : Int) = ((b / s : Nat) : Int) * (s : Int) := by rw [← Int.natCast_mul, c4]
    have ed2 : (d : Int) = ((d / f : Nat) : Int) * (f : Int) := by rw [← Int.natCast_mul, a4]
    have e1 : a * c = a.fdiv (f : Int) * (f : Int) * (c.fdiv (s : Int) * (s : Int)) := by rw [a1, c1]
    rw [e1, Int.natCast_mul, Int.natCast_mul, eb2, ed2]
    generalize a.fdiv (f : Int) = x
    generalize c.fdiv (s : Int) = y
    generalize ((b / s : Nat) : Int) = u
    generalize ((d / f : Nat) : Int) = v
    simp only [Int.mul_assoc, Int.mul_comm, Int.mul_left_comm]
/-- what two ratios in lowest terms make -/
def spTwoL (f : Int → Nat → Int → Nat → Int × Nat) : Sp := fun vs H Q _ => ∃ (s t : Addr) (a c : Int) (b d : Nat), vs = [.ref s, .ref t] ∧ RatAt H s a b ∧ RatAt H t c d ∧ Mid a b ∧ Mid c d ∧ Low a b ∧ Low c d ∧ ∀ u, H u = none → Q (.ref u) (upd H u (.tup [.int (f a b c d).1, .int ((f a b c d).2 : Int)]))
/-- the same, where more than the answer may be new -/
def spTwoS (f : Int → Nat → Int → Nat → Int × Nat) : Sp := fun vs H Q _ => ∃ (s t : Addr) (a c : Int) (b d : Nat), vs = [.ref s, .ref t] ∧ RatAt H s a b ∧ RatAt H t c d ∧ Mid a b ∧ Mid c d ∧ Low a b ∧ Low c d ∧ ∀ u H', Same H H' → RatAt H' u (f a b c d).1 (f a b c d).2 → Q (.ref u) H'
/-- over -/
def spTwoO : Sp := fun vs H Q _ => ∃ (s t : Addr) (a c : Int) (b d : Nat), vs = [.ref s, .ref t] ∧ RatAt H s a b ∧ RatAt H t c d ∧ Mid a b ∧ Mid c d ∧ c ≠ 0 ∧ ∀ u, H u = none → Q (.ref u) (upd H u (.tup [.int (ovR a b c d).1, .int ((ovR a b c d).2 : Int)]))
def spLessL : Sp := fun vs H Q _ => ∃ (s t : Addr) (a c : Int) (b d : Nat), vs = [.ref s, .ref t] ∧ RatAt H s a b ∧ RatAt H t c d ∧ Mid a b ∧ Mid c d ∧ Q (.bl (decide (a * (d : Int) < c * (b : Int)))) H
def spPowR : Sp := fun vs H Q _ => ∃ (s : Addr) (a : Int) (b : Nat) (n : Int), vs = [.ref s, .int n] ∧ RatAt H s a b ∧ Sm a b ∧ Low a b ∧ n.natAbs ≤ 6 ∧ ¬ (n < 0 ∧ a = 0) ∧ ∀ u, H u = none → Q (.ref u) (upd H u (.tup [.int (pwR a b n).1, .int ((pwR a b n).2 : Int)]))
/-- the law's own power -/
def spPowL : Sp := fun vs H Q _ => ∃ (s : Addr) (a : Int) (b : Nat) (n : Int), vs = [.ref s, .int n] ∧ RatAt H s a b ∧ Sm a b ∧ Low a b ∧ n.natAbs ≤ 6 ∧ ¬ (n < 0 ∧ a = 0) ∧ ∀ u H', Same H H' → RatAt H' u (pwR a b n).1 (pwR a b n).2 → Q (.ref u) H'
def spAsG (K : PySem.W.Frag) : Sp := fun vs H Q _ => ∃ (x : V) (p : Int) (q : Nat), vs = [x] ∧ RatV K H x (some (p, q)) ∧ Mid p q ∧ ∀ t, H t = none → Q (.ref t) (upd H t (.tup [.int (nrm p q).1, .int ((nrm p q).2 : Int)]))
end AL
set_option Elab.async false
set_option linter.all false
set_option maxRecDepth 100000
/-! sorted(d.items()) for dicts whose keys are tuples of so many ints. -/
namespace AL
open PySem PySem.W PySem.Spec PyProof.Rows L2
theorem lex_code {B : Int} : ∀ (k : Nat) (ns ms : List Int) (i : Nat), ns.length = i + k → ms.length = i + k → TS.Bd B ns → TS.Bd B ms →
    Ob.lexAt (fun j => decide (ns.getD j 0 = ms.getD j 0)) (fun j => decide (ns.getD j 0 < ms.getD j 0)) false i k = decide (TS.code B (ns.drop i) < TS.code B (ms.drop i))
  | 0, ns, ms, i, l1, l2, _, _ => by
    rw [Ob.lexAt_zero, List.drop_eq_nil_of_le (by omega), List.drop_eq_nil_of_le (by omega)]
    exact (decide_eq_false (Int.lt_irrefl _)).symm
  | k + 1, ns, ms, i, l1, l2, b1, b2 => by
    have i1 : i < ns.length := by omega
    have i2 : i < ms.length := by omega
    have ih := lex_code k ns ms (i + 1) (by omega) (by omega) b1 b2
    have dl : (ns.drop (i + 1)).length = (ms.drop (i + 1)).length := by rw [List.length_drop, List.length_drop]; omega
    have c1 : TS.Bd B (ns.drop (i + 1)) := fun m hm => b1 m (List.mem_of_mem_drop hm)
    have c2 : TS.Bd B (ms.drop (i + 1)) := fun m hm => b2 m (List.mem_of_mem_drop hm)
    rw [Ob.lexAt_succ, List.drop_eq_getElem_cons i1, List.drop_eq_getElem_cons i2]
    have g1 : ns.getD i 0 = ns[i] := by simp [List.getD, i1]
    have g2 : ms.getD i 0 = ms[i] := by simp [List.getD, i2]
    rw [g1, g2]
    generalize ns[i] = x
    generalize ms[i] = y
    by_cases e : x = y
    · rw [decide_eq_true e, if_pos rfl, ih, e]
      exact (decide_eq_decide.mpr (TS.code_same dl)).symm
    · rw [decide_eq_false e, if_neg (by decide)]
      refine decide_eq_decide.mpr ⟨fun z => TS.code_lt dl c1 c2 z, fun z => ?_⟩
      rcases Int.lt_trichotomy x y with w1 | w1 | w1
      · exact w1
      · exact absurd w1 e
      · have := TS.code_lt dl.symm c2 c1 w1
        omega
theorem inl_inj : ∀ u v : List Int, (u.map Sum.inl : List L2.Key) = v.map Sum.inl → u = v
  | [], [], _ => rfl
  | [], _ :: _, t => nomatch t
  | _ :: _, [], t => nomatch t
  | a :: u, b :: v, t => by
    injection t with t1 t2
    injection t1 with t1
    rw [t1, inl_inj u v t2]
section
variable {prog : Program} {w : World} {A : Around} {E : Value → Shared → Prop} {s : Shared}
theorem lt_ints {B : Int} {l b : Addr} {xs ys : Array Value} {ns ms : List Int} {Q : Value → Shared → Prop} (hl : IsTup s.heap l xs) (hb : IsTup s.heap b ys) (ix : IntsAre xs.toList ns) (iy : IntsAre ys.toList ms)
    (len : ns.length = ms.length) (b1 : TS.Bd B ns) (b2 : TS.Bd B ms) (hu : A.units < cLine) (h : Q (.bool (decide (TS.code B ns < TS.code B ms))) s) :
    wpAny (model prog w) A (compareOp .Lt (.ref l) (.ref b)) Q E s := by
  have e1 : xs.size = ns.length := by rw [← Array.length_toList]; exact ix.length
  have e2 : ys.size = ms.length := by rw [← Array.length_toList]; exact iy.length
  have at1 : ∀ j (z : j < xs.size), ∃ t, xs[j] = .int (ns.getD j 0) t := fun j z => IntsAre.int_at ix _ _ (by rw [Array.getElem?_toList]; exact Array.getElem?_eq_getElem z)
  have at2 : ∀ j (z : j < ys.size), ∃ t, ys[j] = .int (ms.getD j 0) t := fun j z => IntsAre.int_at iy _ _ (by rw [Array.getElem?_toList]; exact Array.getElem?_eq_getElem z)
  have R := Ob.RcOp.tuples_lt (A := A) (s := s) (e := fun j => decide (ns.getD j 0 = ms.getD j 0)) (r := fun j => decide (ns.getD j 0 < ms.getD j 0)) hl hb hu
    (fun j z1 z2 => by
      obtain ⟨t, et⟩ := at1 j z1
      obtain ⟨t', et'⟩ := at2 j z2
      rw [et, et', show decide (ns.getD j 0 = ms.getD j 0) = (ns.getD j 0 == ms.getD j 0) from rfl]
      exact SeqAt.EqAt.int_int _ _ _ _)
    (fun j z1 z2 _ => by
      obtain ⟨t, et⟩ := at1 j z1
      obtain ⟨t', et'⟩ := at2 j z2
      rw [et, et']
      exact Ob.RcOp.lt_int _ _ _ _)
  have hs : decide (xs.size < ys.size) = false := decide_eq_false (by omega)
  rw [hs, show min xs.size ys.size = ns.length by omega, lex_code (B := B) ns.length ns ms 0 (by omega) (by omega) b1 b2, List.drop_zero, List.drop_zero] at R
  exact R prog w E Q h
/-- v: a pair of a tuple of the ints y and a tuple of m -/
def PrD (prog : Program) (w : World) (h : Heap) (v : Value) (y : List Int) (m : List L2.Key) : Prop :=
  ∃ (a k b : Addr) (xs : Array Value), v = .ref a ∧ IsTup h a #[.ref k, .ref b] ∧ IsTup h k xs ∧ IntsAre xs.toList y ∧ IsTupleKey (L2.mixKind prog w) h (y.map Sum.inl) k ∧ IsTupleKey (L2.mixKind prog w) h m b
def keyD (h : Heap) (v : Value) : List Int := TS.intsOf h (.ref (DT.refOf (DT.seqAt0 h (DT.refOf (some v)))))
theorem PrD.key {h : Heap} {v : Value} {y : List Int} {m : List L2.Key} (x : PrD prog w h v y m) : keyD h v = y := by
  obtain ⟨a, k, b, xs, rfl, h1, h2, h3, _⟩ := x
  have e : DT.refOf (DT.seqAt0 h (DT.refOf (some (Value.ref a)))) = k := by
    show DT.refOf (DT.seqAt0 h a) = k
    rw [DT.seqAt0_of h1]
    rfl
  unfold keyD
  rw [e]
  exact TS.TupInts.ints ⟨k, xs, rfl, h2, h3⟩
theorem heads {h : Heap} {M : List Int → List L2.Key} : ∀ vs : List Value, (∀ v ∈ vs, ∃ y, PrD prog w h v y (M y)) →
    ∃ fs : List Value, KatTups h vs fs ∧ fs.length = vs.length ∧ ∀ f ∈ fs, ∃ (q : Addr) (o : Obj), f = Value.ref q ∧ h.get? q = some o ∧ o.cls = .type "tuple" := by
  intro vs
  induction vs with
  | nil => exact fun _ => ⟨[], .nil, rfl, fun f z => absurd z List.not_mem_nil⟩
  | cons v r ih =>
    intro x
    obtain ⟨fs, c1, c2, c3⟩ := ih fun u z => x u (.tail _ z)
    obtain ⟨y, a, k, b, xs, rfl, ⟨o, o1, o2, n, o3⟩, ⟨p, p1, p2, _⟩, _⟩ := x v (.head _)
    refine ⟨.ref k :: fs, .cons o1 o2 o3 rfl c1, congrArg Nat.succ c2, fun f z => ?_⟩
    cases z with
    | head => exact ⟨k, p, rfl, p1, p2⟩
    | tail _ z => exact c3 f z
theorem kindD {B : Int} {d : Nat} {vs : List Value} {M : List Int → List L2.Key} (few : 2 ≤ vs.length) (hu : A.units < cLine) (x : ∀ v ∈ vs, ∃ y, PrD prog w s.heap v y (M y) ∧ y.length = d ∧ TS.Bd B y) (Q : SortKind → Shared → Prop)
    (h : ∀ κ, TS.Cmp prog w A s κ (pairsOf vs) (fun v => TS.code B (keyD s.heap v)) → Q κ s) : wpAny (model prog w) A (keyKind' vs.toArray) Q E s := by
  obtain ⟨fs, c1, c2, c3⟩ := heads (M := M) vs fun v z => let ⟨y, p, _⟩ := x v z; ⟨y, p⟩
  refine kat_kind (T := Value.type "tuple") c1 (by omega) (fun f z => ?_) rfl (h _ ?_)
  · obtain ⟨q, o, rfl, o1, o2⟩ := c3 f z
    exact o2 ▸ (PySem.W.Looks.ld o1).andThen .now
  · have nb : (Value.type "tuple" != Value.type "tuple") = false := by first | rfl | decide | simp
    rw [nb]
    intro p q hp hq Q2 E2 z2
    rw [pairsOf_toList] at hp hq
    obtain ⟨y, py, ly, by_⟩ := x _ (mem_zip_self hp).2
    obtain ⟨z, pz, lz, bz⟩ := x _ (mem_zip_self hq).2
    have z3 : Q2 (decide (TS.code B y < TS.code B z)) s := by
      have z4 : Q2 (decide (TS.code B (keyD s.heap p.1) < TS.code B (keyD s.heap q.1))) s := z2
      rwa [py.key, pz.key] at z4
    obtain ⟨a, k, b, xs, e1, ⟨o, o1, o2, n, o3⟩, k1, k2, k3, k4⟩ := py
    obtain ⟨a', k', b', xs', e1', ⟨o', o1', o2', n', o3'⟩, k1', k2', k3', k4'⟩ := pz
    rw [e1, e1']
    refine kat_lt o1 o3 o1' o3' (kat_cons ?_)
    refine wpAny_eqBool_tuple hu k3 k3' ?_
    by_cases e : y = z
    · subst e
      rw [decide_eq_true rfl]
      rw [decide_eq_false (Int.lt_irrefl _)] at z3
      refine kat_yes (kat_cons (wpAny_eqBool_tuple hu k4 k4' ?_))
      rw [decide_eq_true rfl]
      exact kat_yes (kat_nil z3)
    · have ne : (y.map Sum.inl : List L2.Key) ≠ z.map Sum.inl := fun t => e (inl_inj _ _ t)
      rw [decide_eq_false ne]
      refine kat_no ?_
      show wpAny _ _ (oneLt' false _ _) _ _ _
      exact kat_one _ _ (lt_ints k1 k1' k2 k2' (by omega) by_ bz hu z3)
end
section
variable {X : Cx} {pins : List (Addr × Obj)} {σ : L2.St} {H : Hp} {s : Shared}
abbrev KDT (X : Cx) : HeapKind X.prog X.w (List L2.Key) := tupleKind (mixKind X.prog X.w)
/-- what the j-th pair that was made holds -/
theorem made_pair {kvs : List (List L2.Key × V)} {xs : List (List L2.Key × Addr × Value)} {es : Array DictEntry} {lo : Addr} {h' : Heap} {as : List Addr} (rel : KT H kvs xs) (hes : es.toList = xs.map (entryOfKey (KDT X))) (g : DT.Made es lo h' as)
    {j : Nat} {b : Addr} (hj : as[j]? = some b) : ∃ (e : List L2.Key × V) (kq : Addr) (v : Value), kvs[j]? = some e ∧ H kq = some (.tup (e.1.map kV)) ∧ RelV e.2 v ∧ h'.get? b = some { cls := .type "tuple", data := .seq #[Value.ref kq, v] } := by
  obtain ⟨en, ee, hb⟩ := g.pairs j b hj
  have z := entry_at hes j
  rw [ee] at z
  cases q : xs[j]? with
  | none => rw [q] at z; exact nomatch z
  | some x =>
    rw [q] at z
    cases Option.some.inj z
    obtain ⟨e, r0, r1, r2, r3⟩ := DX.pget rel q
    exact ⟨e, x.2.1, x.2.2, r0, r2, r3, hb⟩
/-- the pairs and the list of them are tracked -/
theorem track_pairs (I : Inv X pins σ H s) {kvs : List (List L2.Key × V)} {as rs : List Addr} {L : Addr} {hF : Heap} {tk c : Nat} {acc : Array Value} (nd : as.Nodup) (up : ∀ b ∈ as, s.heap.objs.size ≤ b ∧ b ≠ L) (uL : s.heap.objs.size ≤ L)
    (kS : ∀ b o, s.heap.get? b = some o → hF.get? b = some o) (hL : hF.get? L = some { cls := .type "list", dict := none, data := .seq acc c, slots := #[] }) (ea : acc.toList = rs.map Value.ref) (sz : rs.length ≤ sizeLine)
    (pr : ∀ (j : Nat) (b : Addr), as[j]? = some b → ∃ (e : List L2.Key × V) (kq : Addr) (v : Value), kvs[j]? = some e ∧ H kq = some (.tup (e.1.map kV)) ∧ RelV e.2 v ∧ hF.get? b = some { cls := .type "tuple", data := .seq #[Value.ref kq, v] }) :
    ∃ H2 : Hp, Inv X pins σ H2 { s with heap := hF, toks := tk } ∧ Gw H H2 ∧ H2 L = some (.lst (rs.map V.ref)) ∧
      ∀ (j : Nat) (b : Addr), as[j]? = some b → ∃ (e : List L2.Key × V) (kq : Addr), kvs[j]? = some e ∧ H kq = some (.tup (e.1.map kV)) ∧ H2 b = some (.tup [.ref kq, e.2]) := by
  have nL : H L = none := I.hok.fresh uL
  have I1 : Inv X pins σ H { s with heap := hF, toks := tk } := I.kept (t' := tk) kS
  have I2 : Inv X pins σ (upd H L (.lst (rs.map V.ref))) { s with heap := hF, toks := tk } :=
    I1.take (h' := hF) (t' := tk) (fun _ _ _ r => r) (I.fpOk uL nL) ⟨by rw [List.length_map]; exact sz, acc.toList, c, by rw [ea]; exact vals_refs rs, by rw [Array.toArray_toList]; exact hL⟩
  obtain ⟨H2, I3, w1, w2⟩ := DX.takeT (P := fun b vs => ∃ (j : Nat) (e : List L2.Key × V) (kq : Addr), as[j]? = some b ∧ kvs[j]? = some e ∧ H kq = some (.tup (e.1.map kV)) ∧ vs = [.ref kq, e.2]) I as _ I2 nd fun b hb => by
    obtain ⟨j, hj⟩ := List.mem_iff_getElem?.mp hb
    obtain ⟨e, kq, v, c1, c2, c3, c4⟩ := pr j b hj
    obtain ⟨u1, u2⟩ := up b hb
    refine ⟨u1, by rw [upd_ne u2]; exact I.hok.fresh u1, [.ref kq, e.2], ⟨j, e, kq, hj, c1, c2, rfl⟩, fun _ => ⟨by rw [sizeLine_eq]; exact (by decide : 2 ≤ 16777216), [Value.ref kq, v], .cons rfl (.cons c3 .nil), ⟨_, c4, rfl, 0, rfl⟩⟩⟩
  refine ⟨H2, I3, fun b o z => w1 b o (by rw [upd_ne (ne_of_none z nL)]; exact z), w1 _ _ upd_same, fun j b hj => ?_⟩
  obtain ⟨vs, ⟨i, e, kq, d1, d2, d3, rfl⟩, d4⟩ := w2 b (List.mem_of_getElem? hj)
  cases (List.getElem?_inj (List.getElem?_eq_some_iff.mp hj).1 nd).mp (hj.trans d1.symm)
  exact ⟨e, kq, d2, d3, d4⟩
theorem made_nodup {es : Array DictEntry} {lo : Addr} {h : Heap} {as : List Addr} (g : DT.Made es lo h as) : as.Nodup := g.rise.imp fun z => Nat.ne_of_lt z
/-- list(v), v the view d.items() -/
def rListD : List V → Hp → VK → Prop := fun vs H Q => ∃ (p a : Addr) (kvs : List (List L2.Key × V)), vs = [.ref p] ∧ H p = some (DX.itemsO p a) ∧ H a = some (.dT kvs) ∧
  ∀ (H' : Hp) (l : Addr) (ts : List Addr), Gw H H' → H' l = some (.lst (ts.map V.ref)) → ts.length = kvs.length → H l = none →
    (∀ (j : Nat) (b : Addr), ts[j]? = some b → ∃ (e : List L2.Key × V) (kq : Addr), kvs[j]? = some e ∧ H kq = some (.tup (e.1.map kV)) ∧ H' b = some (.tup [.ref kq, e.2])) → Q (.ref l) H'
abbrev entI (e : List Int × Addr) : List L2.Key × V := (e.1.map Sum.inl, V.ref e.2)
/-- sorted(v), v the view d.items(): keys tuples of d ints in [0, B), values tuples, M of the key -/
def rSortD (B : Int) : List V → Hp → VK → Prop := fun vs H Q => ∃ (p a : Addr) (ks : List (List Int × Addr)) (d : Nat) (M : List Int → List L2.Key), vs = [.ref p] ∧ H p = some (DX.itemsO p a) ∧ H a = some (.dT (ks.map entI)) ∧ ks.length < 64 ∧
  (∀ e ∈ ks, H e.2 = some (.tup ((M e.1).map kV)) ∧ e.1.length = d ∧ TS.Bd B e.1) ∧
  ∀ (H' : Hp) (l : Addr) (ps : List (Addr × List Int × Addr)), Gw H H' → H l = none → (ps.map (·.2)).Perm ks → (ps.map (·.2)).Pairwise (fun e f => TS.code B e.1 ≤ TS.code B f.1) → H' l = some (.lst (ps.map fun z => V.ref z.1)) →
    (∀ z ∈ ps, ∃ q, H' z.1 = some (.tup [.ref q, .ref z.2.2]) ∧ H' q = some (.tup (z.2.1.map V.int))) → Q (.ref l) H'
theorem kV_ints (y : List Int) : (y.map Sum.inl : List L2.Key).map kV = y.map V.int := by rw [List.map_map]; rfl
theorem cr_sortD {B : Int} (hc : X.calm = true) (hu : X.A.units + 64 < cLine) : CallR X (.builtin "sorted") (rSortD B) := by
  intro pins s σ H xs us Q I r h
  obtain ⟨p, a, ks, d, M, rfl, hp, ha, few, hv, q⟩ := h
  obtain rfl := Vals.ref1 r
  have view : s.heap.IsItemsView p a := (show ObjOk X.prog X.w H s.heap p (DX.itemsO p a) from I.hok p _ hp).1
  obtain ⟨z, hd, xs', rel, o, es, ep, ho, hx, hdat, hes, his, hn⟩ := dt_of I.hok ha
  have n1 : ks.length = xs'.length := (List.length_map (f := entI) (as := ks)).symm.trans (Paired.length rel)
  have n2 : es.size = xs'.length := size_of_entries hes
  refine DT.sortedI (es := es) (ep := ep) (I.ok.hd hc) view ⟨o, ho, hx, hdat⟩ (by rw [sizeLine_eq]; omega) fun h' tk as hk hlt hl hG => ?_
  have nd := made_nodup hG
  have lk : as.length = ks.length := by omega
  have mp := fun (j : Nat) (b : Addr) (hj : as[j]? = some b) => made_pair (X := X) rel hes hG hj
  have new : ∀ b u, h'.get? b = some u → b ≠ h'.objs.size := fun b u w1 => Nat.ne_of_lt (Heap.lt_size w1)
  have atL : (h'.push { cls := .type "list", data := .seq (as.map Value.ref).toArray }).get? h'.objs.size = some (seqObj "list" (as.map Value.ref).toArray 0) := Heap.get?_push_size _ rfl
  have old : ∀ b u, h'.get? b = some u → (h'.push { cls := .type "list", data := .seq (as.map Value.ref).toArray }).get? b = some u := fun b u w1 => Heap.get?_push_of_some _ w1
  generalize h'.push { cls := .type "list", data := .seq (as.map Value.ref).toArray } = hS at atL old ⊢
  -- each pair in the heap of the comparisons
  have cmp : ∀ (j : Nat) (b : Addr), as[j]? = some b → ∃ e : List Int × Addr, ks[j]? = some e ∧ PrD X.prog X.w (TS.midHeap hS h'.objs.size (as.map Value.ref)) (.ref b) e.1 (M e.1) := by
    intro j b hj
    obtain ⟨e0, kq, v, c1, c2, c3, c4⟩ := mp j b hj
    rw [List.getElem?_map] at c1
    cases ej : ks[j]? with
    | none => rw [ej] at c1; exact nomatch c1
    | some e =>
      rw [ej] at c1
      cases Option.some.inj c1
      cases (show v = Value.ref e.2 from c3)
      have mid : ∀ b u, h'.get? b = some u → (TS.midHeap hS h'.objs.size (as.map Value.ref)).get? b = some u := fun b u w1 => TS.midHeap_old (new b u w1) (old b u w1)
      have c2' : H kq = some (.tup (e.1.map V.int)) := by rw [← kV_ints]; exact c2
      obtain ⟨_, its, rv, ot, t1, t2, nt, t3⟩ := (show ObjOk X.prog X.w H s.heap kq (.tup (e.1.map V.int)) from I.hok kq _ c2')
      obtain ⟨ok, ik, nk, k1, k2, k3, k4⟩ := (show IsTupleKey (mixKind X.prog X.w) s.heap (e.1.map Sum.inl) kq from key_of I.hok c2)
      obtain ⟨ov, iv, nv, v1, v2, v3, v4⟩ := (show IsTupleKey (mixKind X.prog X.w) s.heap (M e.1) e.2 from key_of I.hok (hv e (List.mem_of_getElem? ej)).1)
      exact ⟨e, rfl, b, kq, e.2, its.toArray, rfl, ⟨_, mid _ _ c4, rfl, 0, rfl⟩, ⟨ot, mid _ _ (hk _ _ t1), t2, nt, t3⟩, Vals.ints rv, ⟨ok, ik, nk, mid _ _ (hk _ _ k1), k2, k3, k4⟩, ⟨ov, iv, nv, mid _ _ (hk _ _ v1), v2, v3, v4⟩⟩
  have rk : ∀ (j : Nat) (b : Addr) (e : List Int × Addr), as[j]? = some b → ks[j]? = some e → keyD (TS.midHeap hS h'.objs.size (as.map Value.ref)) (.ref b) = e.1 := fun j b e hj he => by
    obtain ⟨f, f1, f2⟩ := cmp j b hj
    cases Option.some.inj (he.symm.trans f1)
    exact f2.key
  refine wpAny_call_entry slot_list_sort ⟨_, atL, rfl⟩ entry_list_sort
    (SK.plain_sort (s := { s with heap := hS, toks := tk }) (r := fun v => TS.code B (keyD (TS.midHeap hS h'.objs.size (as.map Value.ref)) v)) atL (by rw [List.length_map]; omega) (fun two Qk hQk => ?_) fun ps out o1 o2 o3 => ⟨.none, rfl, ?_⟩) (args_list_sort _)
  · refine kindD (s := { s with heap := TS.midHeap hS h'.objs.size (as.map Value.ref), toks := tk }) (d := d) (M := M) two (by show X.A.units + 1 + 1 < cLine; omega) (fun v w1 => ?_) Qk hQk
    obtain ⟨b, hb, rfl⟩ := List.mem_map.mp w1
    obtain ⟨j, hj⟩ := List.mem_iff_getElem?.mp hb
    obtain ⟨e, f1, f2⟩ := cmp j b hj
    exact ⟨e.1, f2, (hv e (List.mem_of_getElem? f1)).2⟩
  · show EP X pins σ Q (.ref h'.objs.size) { s with heap := sortedHeap hS h'.objs.size (as.map Value.ref) out, toks := tk }
    obtain ⟨zs, pz, ez⟩ := perm_lift (fun z : Addr × List Int × Addr => (Value.ref z.1, Value.ref z.1)) o2 (as.zip ks) (DX.zip_self Value.ref as ks lk)
    have idx : ∀ z ∈ zs, ∃ j : Nat, as[j]? = some z.1 ∧ ks[j]? = some z.2 := fun z hz => by
      obtain ⟨j, hj⟩ := List.mem_iff_getElem?.mp (pz.mem_iff.mp hz)
      exact ⟨j, List.getElem?_zip_eq_some.mp hj⟩
    have outs : out.toList = (zs.map (·.1)).map Value.ref := by
      rw [o1, ← ez, List.map_map, List.map_map]
      rfl
    have perm : (zs.map (·.2)).Perm ks := by
      have w1 := pz.map (fun z : Addr × List Int × Addr => z.2)
      rwa [List.map_snd_zip (by omega)] at w1
    have asc : (zs.map (·.2)).Pairwise (fun e f => TS.code B e.1 ≤ TS.code B f.1) := by
      rw [← ez, List.pairwise_map] at o3
      rw [List.pairwise_map]
      refine o3.imp_of_mem fun {x y} m1 m2 w1 => ?_
      obtain ⟨j, j1, j2⟩ := idx x m1
      obtain ⟨i, i1, i2⟩ := idx y m2
      have w2 : TS.code B (keyD (TS.midHeap hS h'.objs.size (as.map Value.ref)) (.ref x.1)) ≤ TS.code B (keyD (TS.midHeap hS h'.objs.size (as.map Value.ref)) (.ref y.1)) := w1
      rwa [rk j _ _ j1 j2, rk i _ _ i1 i2] at w2
    obtain ⟨eF, heF⟩ := sortedHeap_at (vs := as.map Value.ref) (out := out) atL
    have kF : ∀ b u, h'.get? b = some u → (sortedHeap hS h'.objs.size (as.map Value.ref) out).get? b = some u := fun b u w1 => (sortedHeap_old (new b u w1) (Heap.lt_size (old b u w1))).trans (old b u w1)
    have len : zs.length = ks.length := by rw [← perm.length_eq, List.length_map]
    obtain ⟨H2, I3, g1, g2, g3⟩ := track_pairs (tk := tk) (rs := zs.map (·.1)) I nd (fun b hb => ⟨Nat.le_of_lt (hG.above b hb), Nat.ne_of_lt (hG.there hb)⟩) (Nat.le_of_lt hlt) (fun b u w1 => kF b u (hk b u w1)) (by rw [← Array.toArray_toList (xs := out)]; exact heF) outs (by rw [List.length_map, sizeLine_eq]; omega)
      fun j b hj => by
        obtain ⟨e, kq, v, c1, c2, c3, c4⟩ := mp j b hj
        exact ⟨e, kq, v, c1, c2, c3, kF _ _ c4⟩
    refine ⟨.ref h'.objs.size, H2, I3, rfl, q H2 h'.objs.size zs g1 (I.hok.fresh (Nat.le_of_lt hlt)) perm asc (by rw [g2, List.map_map]; rfl) fun z hz => ?_⟩
    obtain ⟨j, j1, j2⟩ := idx z hz
    obtain ⟨e, kq, d1, d2, d3⟩ := g3 j z.1 j1
    rw [List.getElem?_map, j2] at d1
    cases Option.some.inj d1
    exact ⟨kq, d3, by rw [← kV_ints]; exact g1 _ _ d2⟩
end
section
variable {prog : Program} {w : World} {A : Around} {E : Value → Shared → Prop} {s : Shared} {r d : Addr} {es : Array DictEntry} {ep : Nat}
/-- list() of a view d.items() -/
theorem list_view {Q : Value → Shared → Prop} (hh : A.handled = none) (hv : s.heap.IsItemsView r d) (hm : DT.Raw s.heap d es ep) (hn : es.size ≤ sizeLine)
    (q : ∀ h' tk acc c as, (∀ b o, s.heap.get? b = some o → h'.get? b = some o) → h'.get? s.heap.objs.size = some { cls := .type "list", dict := none, data := .seq acc c, slots := #[] } → as.length = es.size → DT.Made es s.heap.objs.size h' as →
      acc.toList = as.map Value.ref → Q (.ref s.heap.objs.size) { s with heap := h', toks := tk }) :
    wpAny (model prog w) A (call (.type "list") [.ref r]) Q E s := by
  have lr : r < s.heap.objs.size := let ⟨_, z, _⟩ := hv; Heap.lt_size z
  have ld := hm.lt
  refine PySem.callType_codes (Q₁ := fun x t => x = .ref s.heap.objs.size ∧ t = { s with heap := s.heap.push { cls := .type "list", data := .seq #[] } }) F.called_list (F.typeCall_list_1 _) F.entry_list_init (code_list_new _ ⟨rfl, rfl⟩) fun x t e => ?_
  obtain ⟨rfl, rfl⟩ := e
  have top : (s.heap.push { cls := .type "list", data := .seq #[] }).get? s.heap.objs.size = some { cls := .type "list", data := .seq #[] } := Heap.get?_push_size _ rfl
  refine ⟨⟨_, top, rfl⟩, F.args_list_init_2 _ _, ?_⟩
  show wpAny _ _ (Builtin.List.listItems (.ref s.heap.objs.size) >>= fun was => Builtin.List.listUpdate (.ref s.heap.objs.size) (fun _ => #[]) >>= fun _ => letGo was.toList.reverse >>= fun _ => Builtin.List.listExtendWith (.ref s.heap.objs.size) (.ref r) .none) _ _ _
  unfold Builtin.List.listItems
  refine wpAny_bind (wpAny_bind (wpAny_seqItems top rfl (wpAny_pure ?_)))
  show wpAny _ _ (updateSeq s.heap.objs.size (fun _ => #[]) >>= fun _ => letGo (#[] : Array Value).toList.reverse >>= fun _ => Builtin.List.listExtendWith (.ref s.heap.objs.size) (.ref r) .none) _ _ _
  refine wpAny_bind (wpAny_updateSeq top rfl ?_)
  have top2 := Heap.get?_update_self (Obj.mapSeq (fun _ => (#[] : Array Value))) top rfl
  have keep : ∀ b o, b ≠ s.heap.objs.size → s.heap.get? b = some o → ((s.heap.push { cls := .type "list", data := .seq #[] }).update s.heap.objs.size (Obj.mapSeq (fun _ => (#[] : Array Value)))).get? b = some o := fun b o nb z =>
    (Heap.get?_update_other _ _ (Ne.symm nb)).trans (Heap.get?_push_of_some _ z)
  show wpAny _ _ (Builtin.List.listExtendWith (.ref s.heap.objs.size) (.ref r) .none) _ _ _
  refine DT.extI (A := A.in1) (s := { s with heap := (s.heap.push { cls := .type "list", data := .seq #[] }).update s.heap.objs.size (Obj.mapSeq (fun _ => (#[] : Array Value))) }) (es := es) (ep := ep) hh (let ⟨o, z, zz⟩ := hv; ⟨o, keep r o (Nat.ne_of_lt lr) z, zz⟩) (hm.at' fun o z => keep d o (Nat.ne_of_lt ld) z) s.heap.objs.size (Nat.ne_of_gt lr) (Nat.ne_of_lt ld) .none _ top2 (fun h' tk acc c as kp tp l1 g l2 => ?_) hn
  exact ⟨rfl, q h' tk acc c as (fun b o z => kp b o (Nat.ne_of_lt (Heap.lt_size z)) (keep b o (Nat.ne_of_lt (Heap.lt_size z)) z)) tp l1 (g.low (Nat.le_of_lt (Heap.lt_size top2))) l2⟩
end
section
variable {X : Cx}
theorem cr_listD (hc : X.calm = true) : CallR X (.type "list") rListD := by
  intro pins s σ H xs us Q I r h
  obtain ⟨p, a, kvs, rfl, hp, ha, q⟩ := h
  obtain rfl := Vals.ref1 r
  have view : s.heap.IsItemsView p a := (show ObjOk X.prog X.w H s.heap p (DX.itemsO p a) from I.hok p _ hp).1
  obtain ⟨z, hd, xs', rel, o, es, ep, ho, hx, hdat, hes, his, hn⟩ := dt_of I.hok ha
  have n1 : kvs.length = xs'.length := Paired.length rel
  have n2 : es.size = xs'.length := size_of_entries hes
  refine list_view (es := es) (ep := ep) (I.ok.hd hc) view ⟨o, ho, hx, hdat⟩ (by omega) fun h' tk acc c as hk hL hl g e => ?_
  obtain ⟨H2, I3, g1, g2, g3⟩ := track_pairs (tk := tk) (rs := as) I (made_nodup g) (fun b hb => ⟨Nat.le_of_lt (g.above b hb), Nat.ne_of_gt (g.above b hb)⟩) (Nat.le_refl _) hk hL e (by omega) fun j b hj => made_pair (X := X) rel hes g hj
  exact ⟨.ref s.heap.objs.size, H2, I3, rfl, q H2 _ as g1 g2 (by omega) (I.hok.fresh (Nat.le_refl _)) g3⟩
end
end AL
set_option Elab.async false
set_option maxRecDepth 100000
set_option exponentiation.threshold 70000
/-! Polynomials as lists of terms; ratios as Rat. -/
namespace AL
open PySem L2
def RQ (H : Hp) (t : Addr) (x : Rat) : Prop := RatAt H t x.num x.den
theorem low_rat (x : Rat) : Low x.num x.den := ⟨Nat.pos_of_ne_zero x.den_nz, x.reduced⟩
theorem nrm_rat (a : Int) {b : Nat} (hb : 0 < b) : nrm a b = ((mkRat a b).num, (mkRat a b).den) := by
  have e : mkRat (mkRat a b).num (mkRat a b).den = mkRat a b := Rat.mkRat_self _
  exact nrm_eq (low_rat _).1 hb (low_rat _).2 ((Rat.mkRat_eq_iff (mkRat a b).den_nz (by omega)).mp e)
theorem sum_rat (x y : Rat) : sumR x.num x.den y.num y.den = ((x + y).num, (x + y).den) := by
  unfold sumR
  rw [nrm_rat _ (Nat.mul_pos (low_rat x).1 (low_rat y).1), ← Rat.mkRat_add_mkRat _ _ x.den_nz y.den_nz, Rat.mkRat_self, Rat.mkRat_self]
theorem mul_rat (x y : Rat) : mulR x.num x.den y.num y.den = ((x * y).num, (x * y).den) := by
  unfold mulR
  rw [nrm_rat _ (Nat.mul_pos (low_rat x).1 (low_rat y).1), ← Rat.mkRat_mul_mkRat, Rat.mkRat_self, Rat.mkRat_self]
theorem dif_rat (x y : Rat) : difR x.num x.den y.num y.den = ((x - y).num, (x - y).den) := by
  have e := sum_rat x (-y)
  rw [Rat.neg_num, Rat.neg_den, ← Rat.sub_eq_add_neg] at e
  rw [← e]
  unfold difR sumR
  rw [Int.neg_mul, ← Int.sub_eq_add_neg]
/-- x is X / D, |X| at most B * D -/
def Sz (D B : Nat) (x : Rat) : Prop := 0 < D ∧ ∃ X : Int, X.natAbs ≤ B * D ∧ x = mkRat X D
theorem Sz.le {D B : Nat} {x : Rat} (h : Sz D B x) : x.num.natAbs ≤ B * D ∧ x.den ≤ D := by
  obtain ⟨h0, X, hX, e⟩ := h
  obtain ⟨n, d, z, c⟩ := x
  obtain ⟨m, m0, e1, e2⟩ := Rat.mkRat_num_den (by omega) e.symm
  refine ⟨Nat.le_trans ?_ hX, ?_⟩
  · rw [e1, Int.natAbs_mul, Int.natAbs_natCast]
    exact Nat.le_mul_of_pos_right _ (by omega)
  · rw [e2]
    exact Nat.le_mul_of_pos_right _ (by omega)
theorem Sz.mid {D B : Nat} {x : Rat} (h : Sz D B x) (h1 : B * D < 2 ^ 6000) (h2 : D < 2 ^ 6000) : Mid x.num x.den :=
  ⟨(low_rat x).1, Nat.lt_of_le_of_lt h.le.1 h1, Nat.lt_of_le_of_lt h.le.2 h2⟩
theorem Sz.mono {D B C : Nat} {x : Rat} (h : Sz D B x) (hb : B ≤ C) : Sz D C x := let ⟨h0, X, hX, e⟩ := h; ⟨h0, X, Nat.le_trans hX (Nat.mul_le_mul_right _ hb), e⟩
theorem Sz.up {D B : Nat} {x : Rat} (h : Sz D B x) {E : Nat} (hE : 0 < E) : Sz (D * E) B x := by
  obtain ⟨h0, X, hX, e⟩ := h
  refine ⟨Nat.mul_pos h0 hE, X * (E : Int), ?_, ?_⟩
  · rw [Int.natAbs_mul, Int.natAbs_natCast, ← Nat.mul_assoc]
    exact Nat.mul_le_mul_right _ hX
  · rw [e]
    refine (Rat.mkRat_eq_iff (by omega) (Nat.ne_of_gt (Nat.mul_pos h0 hE))).mpr ?_
    rw [Int.natCast_mul, Int.mul_assoc, Int.mul_comm (D : Int)]
theorem Sz.add {D B C : Nat} {x y : Rat} (h : Sz D B x) (k : Sz D C y) : Sz D (B + C) (x + y) := by
  obtain ⟨h0, X, hX, e⟩ := h
  obtain ⟨_, Y, hY, f⟩ := k
  refine ⟨h0, X + Y, ?_, ?_⟩
  · rw [Nat.add_mul]
    exact Nat.le_trans (Int.natAbs_add_le _ _) (Nat.add_le_add hX hY)
  · rw [e, f, Rat.mkRat_add_mkRat _ _ (by omega) (by omega)]
    refine (Rat.mkRat_eq_iff (Nat.ne_of_gt (Nat.mul_pos h0 h0)) (by omega)).mpr ?_
    rw [Int.natCast_mul, ← Int.add_mul, Int.mul_assoc]
theorem Sz.neg {D B : Nat} {x : Rat} (h : Sz D B x) : Sz D B (-x) := by
  obtain ⟨h0, X, hX, e⟩ := h
  exact ⟨h0, -X, by rw [Int.natAbs_neg]; exact hX, by rw [e, Rat.neg_mkRat]⟩
theorem Sz.mul {D B E C : Nat} {x y : Rat} (h : Sz D B x) (k : Sz E C y) : Sz (D * E) (B * C) (x * y) := by
  obtain ⟨h0, X, hX, e⟩ := h
  obtain ⟨k0, Y, hY, f⟩ := k
  refine ⟨Nat.mul_pos h0 k0, X * Y, ?_, ?_⟩
  · rw [Int.natAbs_mul, Nat.mul_mul_mul_comm]
    exact Nat.mul_le_mul hX hY
  · rw [e, f, Rat.mkRat_mul_mkRat]
theorem Sz.frac {a : Int} {b D B : Nat} (hb : 0 < b) (hd : b ∣ D) (h0 : 0 < D) (ha : a.natAbs ≤ B) : Sz D B (mkRat a b) := by
  obtain ⟨E, rfl⟩ := hd
  have hE : 0 < E := Nat.pos_of_ne_zero fun z => by rw [z] at h0; omega
  refine Sz.up (D := b) ⟨hb, a, Nat.le_trans ha (Nat.le_mul_of_pos_right _ hb), rfl⟩ hE
theorem Sz.int {D B : Nat} (i : Int) (h0 : 0 < D) (h : i.natAbs ≤ B) : Sz D B (mkRat i 1) := Sz.frac (by decide) (Nat.one_dvd _) h0 h

/-! ### terms -/
abbrev Ex := List Nat
abbrev PM := List (Ex × Rat)
def ki (e : Ex) : List Int := e.map fun k : Nat => (k : Int)
theorem ki_inj : ∀ {a b : Ex}, ki a = ki b → a = b
  | [], [], _ => rfl
  | [], _ :: _, h => nomatch h
  | _ :: _, [], h => nomatch h
  | a :: r, b :: s, h => by
    have h' : (a : Int) :: ki r = (b : Int) :: ki s := h
    injection h' with h1 h2
    rw [ki_inj h2, show a = b by omega]
def lin (φ : Ex → Rat) : PM → Rat
  | [] => 0
  | p :: r => p.2 * φ p.1 + lin φ r
theorem lin_append (φ : Ex → Rat) : ∀ a b : PM, lin φ (a ++ b) = lin φ a + lin φ b
  | [], b => by rw [List.nil_append]; exact (Rat.zero_add _).symm
  | p :: r, b => by
    show p.2 * φ p.1 + lin φ (r ++ b) = p.2 * φ p.1 + lin φ r + lin φ b
    rw [lin_append φ r b, Rat.add_assoc]
theorem lin_congr {φ ψ : Ex → Rat} : ∀ {m : PM}, (∀ p ∈ m, φ p.1 = ψ p.1) → lin φ m = lin ψ m
  | [], _ => rfl
  | p :: r, h => by
    show p.2 * φ p.1 + lin φ r = p.2 * ψ p.1 + lin ψ r
    rw [h p (List.mem_cons_self ..), lin_congr fun q hq => h q (List.mem_cons_of_mem _ hq)]
theorem lin_zero : ∀ (m : PM), lin (fun _ => 0) m = 0
  | [] => rfl
  | p :: r => by
    show p.2 * 0 + lin _ r = 0
    rw [lin_zero r, Rat.mul_zero, Rat.zero_add]
theorem lin_mulr (φ : Ex → Rat) (c : Rat) : ∀ m : PM, lin (fun e => φ e * c) m = lin φ m * c
  | [] => by show (0 : Rat) = 0 * c; grind
  | p :: r => by
    show p.2 * (φ p.1 * c) + lin _ r = (p.2 * φ p.1 + lin φ r) * c
    rw [lin_mulr φ c r]
    grind
theorem lin_perm (φ : Ex → Rat) {a b : PM} (h : a.Perm b) : lin φ a = lin φ b := by
  induction h with
  | nil => rfl
  | cons x _ ih => show _ + lin φ _ = _ + lin φ _; rw [ih]
  | swap x y l =>
    show y.2 * φ y.1 + (x.2 * φ x.1 + lin φ l) = x.2 * φ x.1 + (y.2 * φ y.1 + lin φ l)
    grind
  | trans _ _ i1 i2 => exact i1.trans i2
/-- the same polynomial -/
def Eqp (a b : PM) : Prop := ∀ φ : Ex → Rat, lin φ a = lin φ b
theorem Eqp.rfl' {a : PM} : Eqp a a := fun _ => rfl
theorem Eqp.symm {a b : PM} (h : Eqp a b) : Eqp b a := fun φ => (h φ).symm
theorem Eqp.trans {a b c : PM} (h : Eqp a b) (k : Eqp b c) : Eqp a c := fun φ => (h φ).trans (k φ)
theorem Eqp.append {a b c d : PM} (h : Eqp a b) (k : Eqp c d) : Eqp (a ++ c) (b ++ d) := fun φ => by rw [lin_append, lin_append, h φ, k φ]
def nzM (m : PM) : PM := m.filter fun p => decide (p.2 ≠ 0)
theorem nz_eqp : ∀ m : PM, Eqp (nzM m) m
  | [], _ => rfl
  | p :: r, φ => by
    have ih := nz_eqp r φ
    unfold nzM at ih ⊢
    by_cases h : p.2 = 0
    · rw [List.filter_cons_of_neg (by simp [h]), ih]
      show lin φ r = p.2 * φ p.1 + lin φ r
      rw [h]; grind
    · rw [List.filter_cons_of_pos (by simp [h])]
      show p.2 * φ p.1 + lin φ _ = _
      rw [ih]; rfl
def getM (m : PM) (e : Ex) : Option Rat := (m.find? fun p => decide (p.1 = e)).map (·.2)
def hasM (m : PM) (e : Ex) : Bool := m.any fun p => decide (p.1 = e)
def putM (m : PM) (e : Ex) (v : Rat) : PM := if hasM m e = true then m.map (fun p => if p.1 = e then (p.1, v) else p) else m ++ [(e, v)]
theorem has_get (e : Ex) : ∀ m : PM, hasM m e = (getM m e).isSome
  | [] => rfl
  | p :: r => by
    have ih := has_get e r
    unfold hasM getM at ih ⊢
    rw [List.any_cons, List.find?_cons]
    by_cases h : p.1 = e
    · simp [h]
    · rw [decide_eq_false h, Bool.false_or]; exact ih
theorem put_keys (m : PM) (e : Ex) (v : Rat) : (putM m e v).map (·.1) = if hasM m e = true then m.map (·.1) else m.map (·.1) ++ [e] := by
  unfold putM
  split
  · rw [List.map_map]
    refine List.map_congr_left fun p _ => ?_
    show (if p.1 = e then (p.1, v) else p).1 = p.1
    split <;> rfl
  · rw [List.map_append]; rfl
theorem has_mem {m : PM} {e : Ex} : hasM m e = true ↔ e ∈ m.map (·.1) := by
  unfold hasM
  rw [List.any_eq_true, List.mem_map]
  exact ⟨fun ⟨p, h1, h2⟩ => ⟨p, h1, of_decide_eq_true h2⟩, fun ⟨p, h1, h2⟩ => ⟨p, h1, decide_eq_true h2⟩⟩
theorem put_nodup {m : PM} (nd : (m.map (·.1)).Nodup) (e : Ex) (v : Rat) : ((putM m e v).map (·.1)).Nodup := by
  rw [put_keys]
  split
  · exact nd
  · rename_i h
    rw [List.nodup_append]
    refine ⟨nd, by simp, fun a ha b hb z => h (has_mem.mpr ?_)⟩
    rw [List.mem_singleton] at hb
    rw [← hb, ← z]; exact ha
theorem put_len (m : PM) (e : Ex) (v : Rat) : (putM m e v).length ≤ m.length + 1 := by
  unfold putM
  split
  · rw [List.length_map]; omega
  · rw [List.length_append]; exact Nat.le_refl _
theorem lin_put (φ : Ex → Rat) (e : Ex) (v : Rat) : ∀ m : PM, (m.map (·.1)).Nodup → lin φ (putM m e v) = lin φ m + (v - (getM m e).getD 0) * φ e
  | [], _ => by
    show v * φ e + 0 = 0 + (v - 0) * φ e
    grind
  | p :: r, nd => by
    rw [List.map_cons, List.nodup_cons] at nd
    have ih := lin_put φ e v r nd.2
    by_cases h : p.1 = e
    · have h1 : hasM (p :: r) e = true := by unfold hasM; rw [List.any_cons, decide_eq_true h, Bool.true_or]
      have h2 : getM (p :: r) e = some p.2 := by unfold getM; rw [List.find?_cons, decide_eq_true h]; rfl
      have h3 : r.map (fun p => if p.1 = e then (p.1, v) else p) = r := by
        refine (List.map_congr_left fun q hq => ?_).trans (List.map_id r)
        rw [if_neg fun z => nd.1 (List.mem_map.mpr ⟨q, hq, by rw [z, h]⟩)]; rfl
      unfold putM
      rw [if_pos h1, h2, List.map_cons, if_pos h, h3]
      show v * φ p.1 + lin φ r = p.2 * φ p.1 + lin φ r + (v - p.2) * φ e
      rw [h]; grind
    · have h1 : hasM (p :: r) e = hasM r e := by unfold hasM; rw [List.any_cons, decide_eq_false h, Bool.false_or]
      have h2 : getM (p :: r) e = getM r e := by unfold getM; rw [List.find?_cons, decide_eq_false h]
      have h3 : putM (p :: r) e v = p :: putM r e v := by
        unfold putM
        rw [h1]
        split
        · rw [List.map_cons, if_neg h]
        · rfl
      rw [h3, h2]
      show p.2 * φ p.1 + lin φ (putM r e v) = p.2 * φ p.1 + lin φ r + _
      rw [ih]; grind
def addM (m : PM) (e : Ex) (v : Rat) : PM := putM m e ((getM m e).getD 0 + v)
def joinM (m l : PM) : PM := l.foldl (fun a p => addM a p.1 p.2) m
theorem join_take {m l : PM} {i : Nat} {p : Ex × Rat} (h : l[i]? = some p) : joinM m (l.take (i + 1)) = addM (joinM m (l.take i)) p.1 p.2 := by
  unfold joinM
  rw [List.take_add_one, h, List.foldl_append]; rfl
theorem join_lin (φ : Ex → Rat) : ∀ (l m : PM), (m.map (·.1)).Nodup → lin φ (joinM m l) = lin φ m + lin φ l ∧ ((joinM m l).map (·.1)).Nodup
  | [], m, nd => ⟨(Rat.add_zero _).symm, nd⟩
  | p :: r, m, nd => by
    have nd2 := put_nodup nd p.1 ((getM m p.1).getD 0 + p.2)
    obtain ⟨h1, h2⟩ := join_lin φ r (addM m p.1 p.2) nd2
    refine ⟨?_, h2⟩
    show lin φ (joinM (addM m p.1 p.2) r) = lin φ m + (p.2 * φ p.1 + lin φ r)
    rw [h1]
    unfold addM
    rw [lin_put φ _ _ _ nd]
    grind
theorem join_eqp (l : PM) : Eqp (joinM [] l) l := fun φ => by rw [(join_lin φ l [] List.nodup_nil).1]; exact Rat.zero_add _
theorem join_nodup (l : PM) : ((joinM [] l).map (·.1)).Nodup := (join_lin (fun _ => 0) l [] List.nodup_nil).2
/-- keys of n numbers up to E, ratios within D and B -/
def PB (n E D B : Nat) (m : PM) : Prop := ∀ p ∈ m, p.1.length = n ∧ (∀ k ∈ p.1, k ≤ E) ∧ Sz D B p.2
theorem PB.mono {n E D B C F : Nat} {m : PM} (h : PB n E D B m) (h1 : B ≤ C) (h2 : E ≤ F) : PB n F D C m := fun p hp => let ⟨a, b, c⟩ := h p hp; ⟨a, fun k hk => Nat.le_trans (b k hk) h2, c.mono h1⟩
theorem PB.up {n E D B F : Nat} {m : PM} (h : PB n E D B m) (hF : 0 < F) : PB n E (D * F) B m := fun p hp => let ⟨a, b, c⟩ := h p hp; ⟨a, b, c.up hF⟩
theorem PB.append {n E D B : Nat} {m l : PM} (h : PB n E D B m) (k : PB n E D B l) : PB n E D B (m ++ l) := fun p hp => (List.mem_append.mp hp).elim (h p) (k p)
theorem PB.sub {n E D B : Nat} {m l : PM} (h : PB n E D B m) (k : ∀ p ∈ l, p ∈ m) : PB n E D B l := fun p hp => h p (k p hp)
theorem PB.nz {n E D B : Nat} {m : PM} (h : PB n E D B m) : PB n E D B (nzM m) := h.sub fun _ hp => (List.mem_filter.mp hp).1
theorem get_mem {m : PM} {e : Ex} {v : Rat} (h : getM m e = some v) : (e, v) ∈ m := by
  unfold getM at h
  rw [Option.map_eq_some_iff] at h
  obtain ⟨p, h1, h2⟩ := h
  have h3 : p.1 = e := by have z := List.find?_some h1; exact of_decide_eq_true z
  have h4 := List.mem_of_find?_eq_some h1
  rw [← h3, ← h2]; exact h4
theorem PB.add {n E D B C : Nat} {m : PM} (h : PB n E D B m) {e : Ex} {v : Rat} (hl : e.length = n) (he : ∀ k ∈ e, k ≤ E) (hv : Sz D C v) : PB n E D (B + C) (addM m e v) := by
  have hg : Sz D (B + C) ((getM m e).getD 0 + v) := by
    cases z : getM m e with
    | none =>
      rw [Option.getD_none, Rat.zero_add]
      exact hv.mono (by omega)
    | some x => exact (h _ (get_mem z)).2.2.add hv
  intro p hp
  unfold addM putM at hp
  split at hp
  · obtain ⟨q, hq, rfl⟩ := List.mem_map.mp hp
    split
    · exact ⟨(h q hq).1, (h q hq).2.1, hg⟩
    · exact ⟨(h q hq).1, (h q hq).2.1, (h q hq).2.2.mono (by omega)⟩
  · rcases List.mem_append.mp hp with hp | hp
    · exact ⟨(h p hp).1, (h p hp).2.1, (h p hp).2.2.mono (by omega)⟩
    · rw [List.mem_singleton] at hp
      rw [hp]; exact ⟨hl, he, hg⟩
theorem PB.join {n E D C : Nat} : ∀ {l m : PM} {B : Nat}, PB n E D B m → PB n E D C l → PB n E D (B + C * l.length) (joinM m l)
  | [], m, B, h, _ => by rw [List.length_nil, Nat.mul_zero]; exact h
  | p :: r, m, B, h, k => by
    have k1 := k p (List.mem_cons_self ..)
    have z := PB.join (l := r) (h.add k1.1 k1.2.1 k1.2.2) fun q hq => k q (List.mem_cons_of_mem _ hq)
    refine PB.mono z ?_ (Nat.le_refl _)
    rw [List.length_cons, Nat.mul_add]; omega
theorem join_len : ∀ (l m : PM), (joinM m l).length ≤ m.length + l.length
  | [], m => Nat.le_refl _
  | p :: r, m => by
    have h := join_len r (addM m p.1 p.2)
    have h2 := put_len m p.1 ((getM m p.1).getD 0 + p.2)
    unfold addM at h
    show (joinM (addM m p.1 p.2) r).length ≤ m.length + (r.length + 1)
    unfold addM
    omega
/-! ### in their order -/
def cd (e : Ex) : Int := TS.code 128 (ki e)
def Asc (m : PM) : Prop := m.Pairwise fun p q => cd p.1 < cd q.1
def NZ (m : PM) : Prop := ∀ p ∈ m, p.2 ≠ 0
def ind (e : Ex) : Ex → Rat := fun f => if f = e then 1 else 0
theorem ind_none {e : Ex} : ∀ {m : PM}, (∀ p ∈ m, p.1 ≠ e) → lin (ind e) m = 0
  | [], _ => rfl
  | p :: r, h => by
    have ih := ind_none fun q hq => h q (List.mem_cons_of_mem _ hq)
    show p.2 * (if p.1 = e then 1 else 0) + lin (ind e) r = 0
    rw [if_neg (h p (List.mem_cons_self ..)), ih]
    grind
theorem ind_head {p : Ex × Rat} {r : PM} (h : Asc (p :: r)) : lin (ind p.1) (p :: r) = p.2 := by
  have h2 := (List.pairwise_cons.mp h).1
  show p.2 * (if p.1 = p.1 then 1 else 0) + lin (ind p.1) r = p.2
  rw [if_pos rfl, ind_none fun q hq z => by have := h2 q hq; rw [z] at this; omega]
  grind
theorem uniq : ∀ {a b : PM}, Asc a → Asc b → NZ a → NZ b → Eqp a b → a = b
  | [], [], _, _, _, _, _ => rfl
  | [], q :: s, _, hb, _, nb, h => by
    have z := h (ind q.1)
    rw [ind_head hb] at z
    exact absurd z.symm (nb q (List.mem_cons_self ..))
  | p :: r, [], ha, _, na, _, h => by
    have z := h (ind p.1)
    rw [ind_head ha] at z
    exact absurd z (na p (List.mem_cons_self ..))
  | p :: r, q :: s, ha, hb, na, nb, h => by
    obtain ⟨a1, a2⟩ := List.pairwise_cons.mp ha
    obtain ⟨b1, b2⟩ := List.pairwise_cons.mp hb
    have z1 := h (ind p.1)
    have z2 := h (ind q.1)
    rw [ind_head ha] at z1
    rw [ind_head hb] at z2
    have m1 : ∃ x ∈ q :: s, x.1 = p.1 := by
      refine Classical.byContradiction fun w => na p (List.mem_cons_self ..) ?_
      rw [z1, ind_none fun x hx z => w ⟨x, hx, z⟩]
    have m2 : ∃ x ∈ p :: r, x.1 = q.1 := by
      refine Classical.byContradiction fun w => nb q (List.mem_cons_self ..) ?_
      rw [← z2, ind_none fun x hx z => w ⟨x, hx, z⟩]
    obtain ⟨x, hx, ex⟩ := m1
    obtain ⟨y, hy, ey⟩ := m2
    have ek : p.1 = q.1 := by
      rcases List.mem_cons.mp hx with rfl | hx
      · exact ex.symm
      · rcases List.mem_cons.mp hy with rfl | hy
        · exact ey
        · have w1 := b1 x hx
          have w2 := a1 y hy
          rw [ex] at w1
          rw [ey] at w2
          omega
    have ev : p.2 = q.2 := by
      rw [z1, ek, ind_head hb]
    have e : p = q := Prod.ext ek ev
    subst e
    rw [uniq a2 b2 (fun x hx => na x (List.mem_cons_of_mem _ hx)) (fun x hx => nb x (List.mem_cons_of_mem _ hx)) fun φ => Rat.add_left_cancel _ (h φ)]
theorem code_inj : ∀ {a b : List Int}, a.length = b.length → TS.Bd 128 a → TS.Bd 128 b → TS.code 128 a = TS.code 128 b → a = b
  | [], [], _, _, _, _ => rfl
  | [], _ :: _, h, _, _, _ => nomatch h
  | _ :: _, [], h, _, _, _ => nomatch h
  | x :: r, y :: s, h, ha, hb, e => by
    have h' : r.length = s.length := by simpa using h
    rcases Int.lt_trichotomy x y with w | w | w
    · have := TS.code_lt (B := 128) h' ha.tail hb.tail w
      omega
    · subst w
      have e2 : TS.code 128 r = TS.code 128 s := by
        have e' : x * 128 ^ r.length + TS.code 128 r = x * 128 ^ s.length + TS.code 128 s := e
        rw [h'] at e'
        omega
      rw [code_inj h' ha.tail hb.tail e2]
    · have := TS.code_lt (B := 128) h'.symm hb.tail ha.tail w
      omega
theorem bd_ki {e : Ex} (h : ∀ k ∈ e, k ≤ 80) : TS.Bd 128 (ki e) := fun m hm => by
  obtain ⟨k, hk, rfl⟩ := List.mem_map.mp hm
  have := h k hk
  omega
theorem len_ki (e : Ex) : (ki e).length = e.length := by unfold ki; exact List.length_map _
/-! ### products, values -/
def plE (e f : Ex) : Ex := List.zipWith (· + ·) e f
def mulM (a b : PM) : PM := a.flatMap fun p => b.map fun q => (plE p.1 q.1, p.2 * q.2)
theorem lin_map (φ : Ex → Rat) (p : Ex × Rat) : ∀ b : PM, lin φ (b.map fun q => (plE p.1 q.1, p.2 * q.2)) = p.2 * lin (fun f => φ (plE p.1 f)) b
  | [] => by show (0 : Rat) = p.2 * 0; grind
  | q :: s => by
    rw [List.map_cons]
    show p.2 * q.2 * φ (plE p.1 q.1) + lin φ _ = p.2 * (q.2 * φ (plE p.1 q.1) + lin _ s)
    rw [lin_map φ p s]
    grind
theorem lin_mul (φ : Ex → Rat) : ∀ a b : PM, lin φ (mulM a b) = lin (fun e => lin (fun f => φ (plE e f)) b) a
  | [], _ => rfl
  | p :: r, b => by
    have e : mulM (p :: r) b = (b.map fun q => (plE p.1 q.1, p.2 * q.2)) ++ mulM r b := List.flatMap_cons
    rw [e, lin_append, lin_map, lin_mul φ r b]
    rfl
theorem Eqp.mul {a b c d : PM} (h : Eqp a b) (k : Eqp c d) : Eqp (mulM a c) (mulM b d) := fun φ => by
  rw [lin_mul, lin_mul, h]
  exact lin_congr fun p _ => k _
def sclM (c : Rat) (a : PM) : PM := a.map fun p => (p.1, p.2 * c)
theorem lin_scl (φ : Ex → Rat) (c : Rat) : ∀ a : PM, lin φ (sclM c a) = lin φ a * c
  | [] => by show (0 : Rat) = 0 * c; grind
  | p :: r => by
    show p.2 * c * φ p.1 + lin φ (sclM c r) = (p.2 * φ p.1 + lin φ r) * c
    rw [lin_scl φ c r]
    grind
theorem Eqp.scl {a b : PM} (h : Eqp a b) (c : Rat) : Eqp (sclM c a) (sclM c b) := fun φ => by rw [lin_scl, lin_scl, h]
def mon : Ex → List Rat → Rat
  | k :: e, x :: p => x ^ k * mon e p
  | _, _ => 1
def ev (p : List Rat) (m : PM) : Rat := lin (fun e => mon e p) m
theorem mon_add : ∀ (e f : Ex) (p : List Rat), e.length = p.length → f.length = p.length → mon (plE e f) p = mon e p * mon f p
  | [], [], [], _, _ => by show (1 : Rat) = 1 * 1; grind
  | [], _ :: _, [], _, k => nomatch k
  | _ :: _, [], [], h, _ => nomatch h
  | i :: e, j :: f, x :: p, h, k => by
    show x ^ (i + j) * mon (plE e f) p = x ^ i * mon e p * (x ^ j * mon f p)
    rw [mon_add e f p (by simpa using h) (by simpa using k)]
    grind
theorem ev_mul {n E D B F C G : Nat} {a b : PM} {p : List Rat} (ha : PB n E D B a) (hb : PB n F G C b) (hp : p.length = n) : ev p (mulM a b) = ev p a * ev p b := by
  unfold ev
  rw [lin_mul, ← lin_mulr]
  refine lin_congr fun x hx => ?_
  have e : ∀ y ∈ b, mon (plE x.1 y.1) p = mon y.1 p * mon x.1 p := fun y hy => by
    rw [mon_add _ _ _ ((ha x hx).1.trans hp.symm) ((hb y hy).1.trans hp.symm)]
    grind
  rw [lin_congr (m := b) (φ := fun f => mon (plE x.1 f) p) (ψ := fun f => mon f p * mon x.1 p) e, lin_mulr]
  grind
theorem PB.mul {n E D B F C G : Nat} {a b : PM} (ha : PB n E D B a) (hb : PB n F G C b) : PB n (E + F) (D * G) (B * C) (mulM a b) := fun p hp => by
  obtain ⟨x, hx, hp⟩ := List.mem_flatMap.mp hp
  obtain ⟨y, hy, rfl⟩ := List.mem_map.mp hp
  refine ⟨?_, fun k hk => ?_, (ha x hx).2.2.mul (hb y hy).2.2⟩
  · show (plE x.1 y.1).length = n
    unfold plE
    rw [List.length_zipWith, (ha x hx).1, (hb y hy).1, Nat.min_self]
  · obtain ⟨i, hi⟩ := List.mem_iff_getElem?.mp hk
    have hi' : (plE x.1 y.1)[i]? = some k := hi
    unfold plE at hi'
    rw [List.getElem?_zipWith] at hi'
    cases h1 : x.1[i]? with
    | none => rw [h1] at hi'; exact nomatch hi'
    | some u =>
      cases h2 : y.1[i]? with
      | none => rw [h1, h2] at hi'; exact nomatch hi'
      | some v =>
        rw [h1, h2] at hi'
        have e : u + v = k := Option.some.inj hi'
        have := (ha x hx).2.1 u (List.mem_of_getElem? h1)
        have := (hb y hy).2.1 v (List.mem_of_getElem? h2)
        omega
theorem PB.scl {n E D B : Nat} {a : PM} (ha : PB n E D B a) : PB n E D B (sclM (-1) a) := fun p hp => by
  obtain ⟨x, hx, rfl⟩ := List.mem_map.mp hp
  refine ⟨(ha x hx).1, (ha x hx).2.1, ?_⟩
  show Sz D B (x.2 * -1)
  rw [Rat.mul_neg, Rat.mul_one]
  exact (ha x hx).2.2.neg
end AL
set_option Elab.async false
set_option linter.all false
set_option maxRecDepth 100000
/-! dict(pairs) where the keys are tuples, all unlike. -/
namespace AL
open PySem PySem.W PySem.Spec PyProof.Rows L2
theorem stored_all {κ : Type} [DecidableEq κ] : ∀ (ps xs : List (κ × Addr × Value)), ((xs ++ ps).map (·.1)).Nodup → storedAllH xs ps = xs ++ ps
  | [], xs, _ => by rw [List.append_nil]; rfl
  | p :: ps, xs, h => by
    have no : atKey xs p.1 = none := by
      unfold atKey
      rw [Option.map_eq_none_iff, List.find?_eq_none]
      intro x hx z
      rw [List.map_append, List.nodup_append] at h
      exact h.2.2 _ (List.mem_map.mpr ⟨x, hx, rfl⟩) p.1 (by simp) (of_decide_eq_true z)
    have e : storedAllH xs (p :: ps) = storedAllH (storedH xs p.1 p.2.1 p.2.2) ps := rfl
    rw [e, storedH_new no, stored_all ps _ (by rw [List.append_assoc]; exact h), List.append_assoc]
    rfl
section
variable {X : Cx} {pins : List (Addr × Obj)} {σ : L2.St} {H : Hp} {s : Shared}
/-- the pairs as they lie -/
theorem lie_pairs (I : Inv X pins σ H s) {ps : List Addr} {kvs : List (List L2.Key × V)} (h : Paired (fun p (kv : List L2.Key × V) => ∃ b, H p = some (.tup [.ref b, kv.2]) ∧ H b = some (.tup (kv.1.map kV))) ps kvs) :
    ∃ xs : List (List L2.Key × Addr × Value), KT H kvs xs ∧ xs.length = ps.length ∧ ∀ (j : Nat) (x : List L2.Key × Addr × Value), xs[j]? = some x → ∃ p, ps[j]? = some p ∧ PairAt s.heap p (.ref x.2.1) x.2.2 := by
  induction h with
  | nil => exact ⟨[], .nil, rfl, fun j x e => by simp at e⟩
  | @cons p kv ps kvs h t ih =>
    obtain ⟨xs, r, l, q⟩ := ih
    obtain ⟨b, h1, h2⟩ := h
    obtain ⟨_, its, rv, o, ho, hc, n, hd⟩ := (show ObjOk X.prog X.w H s.heap p (.tup [.ref b, kv.2]) from I.hok p _ h1)
    obtain ⟨u, v, rfl, ru, rv2⟩ := vals2 rv
    cases ru
    refine ⟨(kv.1, b, v) :: xs, .cons ⟨rfl, h2, rv2⟩ r, by rw [List.length_cons, List.length_cons, l], fun j x e => ?_⟩
    cases j with
    | zero =>
      cases Option.some.inj e
      exact ⟨p, rfl, .inl ⟨o, ho, hc, n, hd⟩⟩
    | succ j =>
      obtain ⟨p2, e1, e2⟩ := q j x (by simpa using e)
      exact ⟨p2, by simpa using e1, e2⟩
theorem kt_keys {kvs : List (List L2.Key × V)} {xs : List (List L2.Key × Addr × Value)} (r : KT H kvs xs) : kvs.map (·.1) = xs.map (·.1) := by
  induction r with
  | nil => rfl
  | cons h t ih => rw [List.map_cons, List.map_cons, h.1, ih]
end
section
variable {X : Cx}
/-- dict(l), l a list of pairs (tuple, value) with keys all unlike -/
def rDictT (K : PySem.W.Frag) : List V → Hp → VK → Prop := fun vs H Q => ∃ (a : Addr) (ps : List Addr) (kvs : List (List L2.Key × V)), vs = [.ref a] ∧ H a = some (.lst (ps.map V.ref)) ∧ (kvs.map (·.1)).Nodup ∧
  Paired (fun p (kv : List L2.Key × V) => ∃ b, H p = some (.tup [.ref b, kv.2]) ∧ H b = some (.tup (kv.1.map kV))) ps kvs ∧ ∀ p, H p = none → Q (.ref p) (upd H p (.dT kvs))
theorem cr_dictT (hc : X.calm = true) (hu : X.A.units + 64 < cLine) : CallR X (.type "dict") (rDictT X.K) := by
  intro pins s σ H vs us Q I r h
  obtain ⟨a, ps, kvs, rfl, ha, nd, hp, q⟩ := h
  obtain rfl := Vals.ref1 r
  obtain ⟨its, rv, pl, hz⟩ := I.list (SqL.of ha)
  cases refs_at rv
  rw [List.length_map] at hz
  obtain ⟨xs, kt, hl, hx⟩ := lie_pairs I hp
  obtain ⟨o, n, ho, hcl, hd, hdat⟩ := pl
  have P := PairArg.list (prog := X.prog) (w := X.w) a (ps.map Value.ref).toArray (fun j => ps.getD j 0) (xs.map fun x => (Value.ref x.2.1, x.2.2))
  have kis : ∀ h' : Heap, (∀ b o, s.heap.get? b = some o → h'.get? b = some o) → ∀ x ∈ xs, (KDT X).is h' x.1 x.2.1 := fun h' k x hx => by
    obtain ⟨j, hj⟩ := List.mem_iff_getElem?.mp hx
    obtain ⟨e, _, r1, r2, _⟩ := DX.pget kt hj
    have r2' : H x.2.1 = some (.tup (x.1.map kV)) := r1 ▸ r2
    obtain ⟨ok, ik, nk, k1, k2, k3, k4⟩ := (show IsTupleKey (mixKind X.prog X.w) s.heap x.1 x.2.1 from key_of I.hok r2')
    exact ⟨ok, ik, nk, k _ _ k1, k2, k3, k4⟩
  refine call_dict_pairsH (knd := KDT X) (ps := xs) P (I.ok.hd hc) (by show X.A.units + 1 + 1 < cLine; omega) ⟨⟨o, n, ho, hcl, hd, hdat⟩, ?_, fun j k v e => ?_⟩ ⟨(by rw [List.length_map]), fun i key v e => ?_⟩ (fun h' k x hx => kis h' (fun b o z => k b o (Nat.ne_of_lt (Heap.lt_size z)) List.not_mem_nil z) x hx) (by rw [List.length_map, hl]; exact hz) fun h' tk dd kp => ?_
  · rw [List.size_toArray, List.length_map, List.length_map, hl]
  · rw [List.getElem?_map] at e
    cases ex : xs[j]? with
    | none => rw [ex] at e; cases e
    | some x =>
      rw [ex] at e
      cases Option.some.inj e
      obtain ⟨p, e1, e2⟩ := hx j x ex
      have e3 : ps.getD j 0 = p := by rw [List.getD, e1]; rfl
      dsimp only
      rw [e3]
      exact ⟨by rw [List.getElem?_toArray, List.getElem?_map, e1]; rfl, e2⟩
  · have e' : (xs.map fun x => (Value.ref x.2.1, x.2.2))[i]? = some (key, v) := e
    rw [List.getElem?_map] at e'
    cases ex : xs[i]? with
    | none => rw [ex] at e'; cases e'
    | some x =>
      rw [ex] at e'
      cases Option.some.inj e'
      exact ⟨x.1, x.2.1, rfl, rfl⟩
  · have hm : (s.heap.objs.size == sysModules) = false := beq_eq_false_iff_ne.mpr (Nat.ne_of_gt I.big)
    rw [stored_all xs [] (by rw [List.nil_append, ← kt_keys kt]; exact nd), List.nil_append] at dd
    obtain ⟨od, es, ep, d1, d2, d3, d4, _, d6⟩ := dd
    have nw : H s.heap.objs.size = none := I.hok.fresh (Nat.le_refl _)
    refine ⟨.ref s.heap.objs.size, upd H s.heap.objs.size (.dT kvs), I.laid (t' := tk) (fun b o z => kp b o List.not_mem_nil z) (Nat.le_refl _) ⟨?_, hm, xs, kt.keeps fun b ys z => by rw [upd_ne (ne_of_none z nw)]; exact z, od, es, ep, d1, d2, d3, d4, d6⟩, rfl, q _ nw⟩
    rw [Paired.length kt, hl]; exact hz
end
end AL
set_option Elab.async false
set_option linter.all false
set_option maxRecDepth 100000
/-! Loops over a list or a tuple alike; isinstance(x, (list, tuple)); a statement that is not reached. -/
namespace AL
open PySem PySem.Spec PyProof.Rows L2
def SqB (K : PySem.W.Frag) (H : Hp) (a : Addr) (xs : List V) : Bool → Prop
  | true => SqL K H a xs
  | false => SqT K H a xs
def ItB (K : PySem.W.Frag) (a : Addr) : Bool → It
  | true => Itl K a
  | false => Itt K a
def iSeq (K : PySem.W.Frag) (tl : TE) : TI := fun σ H R => tl σ H fun x H1 => ∃ a k, x = .ref a ∧ (∃ xs, SqB K H1 a xs k) ∧ R (ItB K a k) H1
theorem pi_seq {X : Cx} {tg l : Expr} {tl : TE} (hl : PE X l tl) : PI X tg l (iSeq X.K tl) := by
  refine ⟨fun pins s σ H R I h => thn (hl.run pins s σ H _ I h) fun v t ⟨x, H1, J, r, a, k, e, ⟨xs, hs⟩, q⟩ => ?_⟩
  subst e
  cases r
  have fp : ∀ b ∈ [t.heap.objs.size], FpOk X pins H1 b := fun b hb => by
    rw [List.mem_singleton] at hb
    rw [hb]
    exact J.fpOk (Nat.le_refl _) (J.hok.fresh (Nat.le_refl _))
  have kp : ∀ o : Obj, Inv X pins σ H1 { t with heap := t.heap.push o, toks := t.toks } := fun o => J.kept (t' := t.toks) fun b u z => Heap.get?_push_of_some _ z
  cases k with
  | true =>
    obtain ⟨its, _, p, _⟩ := J.list hs
    exact wpAny_pyIter_list p.isList ⟨_, _, _, _, H1, rfl, kp _, turn_list a _, ⟨_, Heap.get?_push_size _ rfl, rfl, rfl⟩, fp, q⟩
  | false =>
    obtain ⟨its, _, p, _⟩ := J.tuple hs
    exact wpAny_pyIter_tuple (show t.heap.IsTuple a its.toArray from p) ⟨_, _, _, _, H1, rfl, kp _, turn_tuple a _, ⟨_, Heap.get?_push_size _ rfl, rfl, rfl⟩, fp, q⟩
theorem for_seq {K : PySem.W.Frag} {k : Bool} {a : Addr} {xs : List V} {g : TG} {tb : TS} {D : Ends} {σ : L2.St} {H : Hp} (Pv : Nat → L2.St → Hp → Prop) (h0 : Pv 0 σ H) (hl : ∀ i σ H, i ≤ xs.length → Pv i σ H → SqB K H a xs k)
    (hs : ∀ i x σ H, xs[i]? = some x → Pv i σ H → g x σ H fun σ2 H2 => tb { D with nx := Pv (i + 1), ct := Pv (i + 1), bk := D.nx } σ2 H2) (hd : ∀ σ H, Pv xs.length σ H → D.nx σ H) :
    ∃ W : Nat → Nat → L2.St → Hp → Prop, (∃ m, W 0 m σ H) ∧ ∀ i m σ H, W i m σ H →
      ((ItB K a k).stop i H ∧ D.nx σ H) ∨ ((ItB K a k).go i H ∧ ∃ N : L2.St → Hp → Prop, (∀ σ' H', N σ' H' → ∃ m', m' < m ∧ W (i + 1) m' σ' H') ∧ ∀ x H', (ItB K a k).yld i H x H' → g x σ H' fun σ2 H2 => tb { D with nx := N, ct := N, bk := D.nx } σ2 H2) := by
  cases k with
  | true => exact for_list Pv h0 hl hs hd
  | false => exact for_tup Pv h0 hl hs hd
theorem lc_seq {K : PySem.W.Frag} {k : Bool} {a : Addr} {xs : List V} {g : TG} {tt : TT} {te : TE} {vs : List Nat} {σ : L2.St} {H1 : Hp} {D : Addr} {Qd : Hp → Prop} (Pv : Nat → Hp → Prop) (h0 : Pv 0 (upd H1 D (.lst []))) (hl : ∀ i H, i ≤ xs.length → Pv i H → SqB K H a xs k)
    (hs : ∀ i x H, xs[i]? = some x → Pv i H → g x (wipe σ vs) H fun σ2 H2 => wipe σ2 vs = wipe σ vs ∧ tt σ2 H2 fun b H3 =>
      if b = true then te σ2 H3 fun y H4 => ∃ acc, H4 D = some (.lst acc) ∧ acc.length < sizeLine ∧ Pv (i + 1) (upd H4 D (.lst (acc ++ [y]))) else Pv (i + 1) H3) (hd : ∀ H, Pv xs.length H → Qd H) :
    ∃ W : Nat → Nat → Hp → Prop, (∃ m, W 0 m (upd H1 D (.lst []))) ∧ ∀ i m H, W i m H →
      ((ItB K a k).stop i H ∧ Qd H) ∨ ((ItB K a k).go i H ∧ ∃ Nx : Hp → Prop, (∀ H', Nx H' → ∃ m', m' < m ∧ W (i + 1) m' H') ∧ ∀ x H', (ItB K a k).yld i H x H' → g x (wipe σ vs) H' fun σ2 H2 => wipe σ2 vs = wipe σ vs ∧ tt σ2 H2 fun b H3 =>
        if b = true then te σ2 H3 fun y H4 => ∃ acc, H4 D = some (.lst acc) ∧ acc.length < sizeLine ∧ Nx (upd H4 D (.lst (acc ++ [y]))) else Nx H3) := by
  cases k with
  | true => exact lc_list Pv h0 hl hs hd
  | false => exact lc_tup Pv h0 hl hs hd
theorem ps_never {X : Cx} {st : Stmt} : PS X st (fun _ _ _ => False) := ⟨fun _ _ _ _ _ _ h => h.elim⟩
end AL
set_option Elab.async false
set_option maxRecDepth 100000
set_option exponentiation.threshold 70000
/-! Polynomials in the heap. -/
namespace AL
open PySem PySem.Spec PyProof.Rows L2
def KeyAt (H : Hp) (k : Addr) (e : Ex) : Prop := H k = some (.tup ((ki e).map V.int))
def EntAt (H : Hp) (b : Addr) (e : Ex × Rat) : Prop := ∃ k r, H b = some (.tup [.ref k, .ref r]) ∧ KeyAt H k e.1 ∧ RQ H r e.2
/-- a term as it may be passed -/
def TermV (K : PySem.W.Frag) (H : Hp) (b : Addr) (e : Ex × Rat) : Prop := ∃ (k : Addr) (v : V) (p : Int) (q : Nat), H b = some (.tup [.ref k, v]) ∧ KeyAt H k e.1 ∧ RatV K H v (some (p, q)) ∧ Mid p q ∧ mkRat p q = e.2
abbrev DRow (H : Hp) (k : List Int × Addr) (e : Ex × Rat) : Prop := k.1 = ki e.1 ∧ RQ H k.2 e.2
def DicM (H : Hp) (a : Addr) (m : PM) : Prop := ∃ ks : List (List Int × Addr), H a = some (.dT (ks.map entI)) ∧ Paired (DRow H) ks m
theorem paired_mono {α β : Type} {R S : α → β → Prop} {as : List α} {bs : List β} (h : Paired R as bs) (k : ∀ a b, R a b → S a b) : Paired S as bs := by
  induction h with
  | nil => exact .nil
  | cons h _ ih => exact .cons (k _ _ h) ih
theorem EntAt.same {H H' : Hp} {b : Addr} {e : Ex × Rat} (h : EntAt H b e) (s : Same H H') : EntAt H' b e := let ⟨k, r, h1, h2, h3⟩ := h; ⟨k, r, s _ _ h1, s _ _ h2, s _ _ h3⟩
theorem TermV.same {K : PySem.W.Frag} {H H' : Hp} {b : Addr} {e : Ex × Rat} (h : TermV K H b e) (s : Same H H') : TermV K H' b e := let ⟨k, v, p, q, h1, h2, h3, h4⟩ := h; ⟨k, v, p, q, s _ _ h1, s _ _ h2, ratV_same h3 s, h4⟩
theorem EntAt.term {K : PySem.W.Frag} {H : Hp} {b : Addr} {e : Ex × Rat} (h : EntAt H b e) (m : Mid e.2.num e.2.den) : TermV K H b e :=
  let ⟨k, r, h1, h2, h3⟩ := h; ⟨k, .ref r, e.2.num, e.2.den, h1, h2, .pair h3 (low_rat _).1, m, Rat.mkRat_self _⟩
theorem DicM.same {H H' : Hp} {a : Addr} {m : PM} (h : DicM H a m) (s : Same H H') : DicM H' a m := let ⟨ks, h1, h2⟩ := h; ⟨ks, s _ _ h1, paired_mono h2 fun _ _ z => ⟨z.1, s _ _ z.2⟩⟩
theorem DicM.tup {H H' : Hp} {a : Addr} {m : PM} (h : DicM H a m) (ha : H' a = H a) (s : ∀ b ys, H b = some (.tup ys) → H' b = some (.tup ys)) : DicM H' a m := let ⟨ks, h1, h2⟩ := h; ⟨ks, by rw [ha]; exact h1, paired_mono h2 fun _ _ z => ⟨z.1, s _ _ z.2⟩⟩
theorem DicM.nil {H : Hp} {a : Addr} (h : H a = some (.dT [])) : DicM H a [] := ⟨[], h, .nil⟩
abbrev keyL (e : Ex) : List L2.Key := (ki e).map Sum.inl
theorem keyL_inj {a b : Ex} (h : keyL a = keyL b) : a = b := ki_inj (inl_inj _ _ h)
theorem keyAt_L {H : Hp} {k : Addr} {e : Ex} (h : KeyAt H k e) : H k = some (.tup ((keyL e).map kV)) := by rw [kV_ints]; exact h
theorem row_get {H : Hp} {e : Ex} : ∀ {ks : List (List Int × Addr)} {m : PM}, Paired (DRow H) ks m → (valV (ks.map entI) (keyL e) = none ∧ getM m e = none) ∨ ∃ r x, valV (ks.map entI) (keyL e) = some (.ref r) ∧ getM m e = some x ∧ RQ H r x
  | _, _, .nil => .inl ⟨rfl, rfl⟩
  | _, _, .cons (a := k) (b := p) (l₁ := ks) (l₂ := m) h t => by
    by_cases z : p.1 = e
    · refine .inr ⟨k.2, p.2, ?_, ?_, h.2⟩
      · rw [List.map_cons, valV_pos (show (entI k).1 = keyL e by show k.1.map Sum.inl = keyL e; rw [h.1, z])]
      · unfold getM; rw [List.find?_cons, decide_eq_true z]; rfl
    · have nz : ¬ (entI k).1 = keyL e := fun w => z (keyL_inj (by rw [← w]; show keyL p.1 = k.1.map Sum.inl; rw [h.1]))
      have g : getM (p :: m) e = getM m e := by unfold getM; rw [List.find?_cons, decide_eq_false z]
      rw [List.map_cons, valV_neg nz, g]
      exact row_get t
/-- d.get(key, zero) -/
theorem dic_get {H : Hp} {a k z : Addr} {m : PM} {e : Ex} (D : DicM H a m) (hk : KeyAt H k e) (hz : RQ H z 0) : ∃ o r, DGet H a (.ref k) o ∧ o.getD (.ref z) = .ref r ∧ RQ H r ((getM m e).getD 0) := by
  obtain ⟨ks, h1, h2⟩ := D
  rcases row_get (e := e) h2 with ⟨v, g⟩ | ⟨r, x, v, g, q⟩
  · exact ⟨_, z, .t h1 (keyAt_L hk), by rw [v]; rfl, by rw [g]; exact hz⟩
  · exact ⟨_, r, .t h1 (keyAt_L hk), by rw [v]; rfl, by rw [g]; exact q⟩
/-- d[key] -/
theorem dic_at {H : Hp} {a k : Addr} {m : PM} {e : Ex} {x : Rat} (D : DicM H a m) (hk : KeyAt H k e) (h : getM m e = some x) : ∃ r, DGet H a (.ref k) (some (.ref r)) ∧ RQ H r x := by
  obtain ⟨ks, h1, h2⟩ := D
  rcases row_get (e := e) h2 with ⟨v, g⟩ | ⟨r, y, v, g, q⟩
  · rw [h] at g; cases g
  · rw [h] at g; cases g
    exact ⟨r, by rw [← v]; exact .t h1 (keyAt_L hk), q⟩
theorem row_put {H : Hp} {e : Ex} {r : Addr} {v : Rat} (hr : RQ H r v) {ks : List (List Int × Addr)} {m : PM} (h : Paired (DRow H) ks m) : ∃ ls : List (List Int × Addr), putK (ks.map entI) (keyL e) (.ref r) = ls.map entI ∧ Paired (DRow H) ls (putM m e v) := by
  have any : (ks.map entI).any (fun kv => decide (kv.1 = keyL e)) = hasM m e := by
    rw [valV_any, has_get]
    rcases row_get (e := e) h with ⟨w, g⟩ | ⟨r, x, w, g, q⟩
    · rw [w, g]; rfl
    · rw [w, g]; rfl
  unfold putK putM
  rw [any]
  by_cases z : hasM m e = true
  · rw [if_pos z, if_pos z]
    refine ⟨ks.map fun k => if k.1 = ki e then (k.1, r) else k, ?_, ?_⟩
    · rw [List.map_map, List.map_map]
      refine List.map_congr_left fun k _ => ?_
      show (if (entI k).1 = keyL e then ((entI k).1, V.ref r) else entI k) = entI (if k.1 = ki e then (k.1, r) else k)
      by_cases w : k.1 = ki e
      · rw [if_pos w, if_pos (show k.1.map Sum.inl = keyL e by rw [w])]
      · rw [if_neg w, if_neg (fun u => w (inl_inj _ _ u))]
    · clear z any
      induction h with
      | nil => exact .nil
      | @cons k p ks m hd _ ih =>
        rw [List.map_cons, List.map_cons]
        refine .cons ?_ ih
        by_cases w : p.1 = e
        · rw [if_pos w, if_pos (by rw [hd.1, w])]
          exact ⟨hd.1, hr⟩
        · rw [if_neg w, if_neg (fun u => w (ki_inj (by rw [← hd.1, u])))]
          exact hd
  · rw [if_neg z, if_neg z]
    refine ⟨ks ++ [(ki e, r)], by rw [List.map_append]; rfl, ?_⟩
    clear z any
    induction h with
    | nil => exact .cons ⟨rfl, hr⟩ .nil
    | cons hd _ ih => exact .cons hd ih
theorem DicM.len {H : Hp} {a : Addr} {m : PM} (D : DicM H a m) : ∃ kvs, H a = some (.dT kvs) ∧ kvs.length = m.length := let ⟨ks, h1, h2⟩ := D; ⟨_, h1, by rw [List.length_map]; exact Paired.length h2⟩
/-- d[key] = ratio -/
theorem dic_put {H : Hp} {a k r : Addr} {m : PM} {e : Ex} {v : Rat} (D : DicM H a m) (hk : KeyAt H k e) (hr : RQ H r v) (few : m.length < sizeLine) : ∃ o, DPut H a (.ref k) (.ref r) (upd H a o) ∧ DicM (upd H a o) a (putM m e v) := by
  obtain ⟨ks, h1, h2⟩ := D
  obtain ⟨ls, e1, e2⟩ := row_put (e := e) hr h2
  refine ⟨.dT (putK (ks.map entI) (keyL e) (.ref r)), .t h1 (keyAt_L hk) (by rw [List.length_map, Paired.length h2]; exact few), ls, by rw [upd_same, e1], paired_mono e2 fun k p z => ⟨z.1, ?_⟩⟩
  have ne : k.2 ≠ a := fun w => by have := z.2; rw [w] at this; rw [show H a = _ from this] at h1; cases h1
  exact Eq.trans (upd_ne ne) z.2
/-- in its order, nothing 0 -/
structure Can (n E D B : Nat) (m : PM) : Prop where
  asc : Asc m
  nz : NZ m
  pb : PB n E D B m
/-- a Poly -/
def PolyAt (CP : Addr) (H : Hp) (x : Addr) (n : Nat) (m : PM) : Prop := ∃ dx T ts, H x = some (.ins CP dx [("size", .int (n : Int)), ("terms", .ref T)]) ∧ H T = some (.tup (ts.map V.ref)) ∧ Paired (EntAt H) ts m
theorem PolyAt.same {CP : Addr} {H H' : Hp} {x : Addr} {n : Nat} {m : PM} (h : PolyAt CP H x n m) (s : Same H H') : PolyAt CP H' x n m := let ⟨dx, T, ts, h1, h2, h3⟩ := h; ⟨dx, T, ts, s _ _ h1, s _ _ h2, paired_mono h3 fun _ _ z => z.same s⟩
/-- what sorted tells -/
theorem sorted_pm {H : Hp} {ks : List (List Int × Addr)} {m : PM} {ps : List (Addr × List Int × Addr)} (h : Paired (DRow H) ks m) (pm : (ps.map (·.2)).Perm ks) : ∃ m' : PM, m'.Perm m ∧ Paired (DRow H) (ps.map (·.2)) m' := by
  generalize ps.map (·.2) = ls at pm
  induction pm generalizing m with
  | nil => cases h; exact ⟨[], .nil, .nil⟩
  | cons x p ih =>
    cases h with
    | cons hd tl =>
      obtain ⟨m', p1, p2⟩ := ih tl
      exact ⟨_ :: m', p1.cons _, .cons hd p2⟩
  | swap x y l =>
    cases h with
    | cons hd tl =>
      cases tl with
      | cons hd2 tl2 => exact ⟨_, List.Perm.swap _ _ _, .cons hd2 (.cons hd tl2)⟩
  | trans p1 p2 i1 i2 =>
    obtain ⟨m', q1, q2⟩ := i2 h
    obtain ⟨m'', q3, q4⟩ := i1 q2
    exact ⟨m'', q3.trans q1, q4⟩
theorem asc_of {H : Hp} {n E D B : Nat} {ls : List (List Int × Addr)} {m : PM} (h : Paired (DRow H) ls m) (o : ls.Pairwise fun e f => TS.code 128 e.1 ≤ TS.code 128 f.1) (nd : (m.map (·.1)).Nodup) (b : PB n E D B m) (hE : E ≤ 80) : Asc m := by
  induction h with
  | nil => exact .nil
  | @cons k p ks m hd tl ih =>
    obtain ⟨o1, o2⟩ := List.pairwise_cons.mp o
    rw [List.map_cons, List.nodup_cons] at nd
    refine List.pairwise_cons.mpr ⟨fun q hq => ?_, ih o2 nd.2 (b.sub fun _ z => List.mem_cons_of_mem _ z)⟩
    obtain ⟨i, hi⟩ := List.mem_iff_getElem?.mp hq
    obtain ⟨k2, e1, e2⟩ := DX.pget tl hi
    have le := o1 k2 (List.mem_of_getElem? e1)
    rw [hd.1, e2.1] at le
    have b1 := b p (List.mem_cons_self ..)
    have b2 := b q (List.mem_cons_of_mem _ hq)
    have ne : cd p.1 ≠ cd q.1 := fun z => nd.1 (List.mem_map.mpr ⟨q, hq, (ki_inj (code_inj (by rw [len_ki, len_ki, b1.1, b2.1]) (bd_ki fun k hk => Nat.le_trans (b1.2.1 k hk) hE) (bd_ki fun k hk => Nat.le_trans (b2.2.1 k hk) hE) z)).symm⟩)
    have le' : cd p.1 ≤ cd q.1 := le
    omega
end AL
namespace AL
open PySem PySem.Spec PyProof.Rows L2
theorem prd_get {α β : Type} {R : α → β → Prop} : ∀ {as : List α} {bs : List β} {i : Nat} {a : α}, Paired R as bs → as[i]? = some a → ∃ b, bs[i]? = some b ∧ R a b
  | _, _, _, _, .nil, h => by simp at h
  | _, _, 0, _, .cons (b := b) r _, h => by
    cases Option.some.inj h
    exact ⟨b, rfl, r⟩
  | _, _, i + 1, _, .cons _ t, h => prd_get (i := i) t (by simpa using h)
theorem prd_len {α β : Type} {R : α → β → Prop} {as : List α} {bs : List β} (h : Paired R as bs) : as.length = bs.length := Paired.length h
theorem prd_snoc {α β : Type} {R : α → β → Prop} {as : List α} {bs : List β} {a : α} {b : β} (h : Paired R as bs) (r : R a b) : Paired R (as ++ [a]) (bs ++ [b]) := by
  induction h with
  | nil => exact .cons r .nil
  | cons q _ ih => exact .cons q ih
theorem map_ref {ts : List Addr} {i : Nat} {x : V} (h : (ts.map V.ref)[i]? = some x) : ∃ b, ts[i]? = some b ∧ x = .ref b := by
  rw [List.getElem?_map] at h
  cases e : ts[i]? with
  | none => rw [e] at h; cases h
  | some b => rw [e] at h; exact ⟨b, rfl, (Option.some.inj h).symm⟩
theorem sz_zero {D B : Nat} (h : 0 < D) : Sz D B 0 := ⟨h, 0, Nat.zero_le _, by simp⟩
theorem PB.getD {n E D B : Nat} {m : PM} (h : PB n E D B m) (h0 : 0 < D) (e : Ex) : Sz D B ((getM m e).getD 0) := by
  cases z : getM m e with
  | none => exact sz_zero h0
  | some x => exact (h _ (get_mem z)).2.2
theorem get_of {m : PM} {e : Ex} {x : Rat} (nd : (m.map (·.1)).Nodup) (h : (e, x) ∈ m) : getM m e = some x := by
  induction m with
  | nil => cases h
  | cons p r ih =>
    rw [List.map_cons, List.nodup_cons] at nd
    unfold getM
    rw [List.find?_cons]
    by_cases w : p.1 = e
    · rw [decide_eq_true w]
      rcases List.mem_cons.mp h with z | z
      · rw [← z]; rfl
      · exact absurd (List.mem_map.mpr ⟨_, z, w.symm⟩) nd.1
    · rw [decide_eq_false w]
      rcases List.mem_cons.mp h with z | z
      · exact absurd (by rw [← z]) w
      · exact ih nd.2 z
/-- the ratio at a key, as keys -/
def MV (m : PM) (y : List Int) : List L2.Key := [Sum.inl ((getM m (y.map Int.toNat)).getD 0).num, Sum.inl (((getM m (y.map Int.toNat)).getD 0).den : Int)]
theorem ki_nat : ∀ e : Ex, (ki e).map Int.toNat = e
  | [] => rfl
  | k :: r => by
    show (k : Int).toNat :: (ki r).map Int.toNat = k :: r
    rw [ki_nat r, Int.toNat_natCast]
theorem rows_M {H : Hp} {n E D B : Nat} {ks : List (List Int × Addr)} {m : PM} (h : Paired (DRow H) ks m) (nd : (m.map (·.1)).Nodup) (pb : PB n E D B m) (hE : E ≤ 80) : ∀ k ∈ ks, H k.2 = some (.tup ((MV m k.1).map kV)) ∧ k.1.length = n ∧ TS.Bd 128 k.1 := by
  intro k hk
  obtain ⟨i, hi⟩ := List.mem_iff_getElem?.mp hk
  obtain ⟨p, e1, e2, e3⟩ := prd_get h hi
  have hp := List.mem_of_getElem? e1
  obtain ⟨b1, b2, b3⟩ := pb p hp
  refine ⟨?_, by rw [e2, len_ki, b1], by rw [e2]; exact bd_ki fun k hk => Nat.le_trans (b2 k hk) hE⟩
  unfold MV
  rw [e2, ki_nat, get_of nd hp]
  exact e3
theorem join_pb {n E D B : Nat} {l : PM} (pb : PB n E D B l) (i : Nat) (hi : i ≤ l.length) : PB n E D (B * i) (joinM [] (l.take i)) := by
  have z := PB.join (m := []) (B := 0) (l := l.take i) (fun p hp => nomatch hp) (pb.sub fun p hp => List.mem_of_mem_take hp)
  rw [List.length_take, Nat.min_eq_left hi, Nat.zero_add] at z
  exact z
theorem low6 {x : Nat} (h : x < 2 ^ 5999) : x < 2 ^ 6000 := Nat.lt_trans h (Nat.pow_lt_pow_right (by decide) (by decide))
theorem nz_take_true {m : PM} {i : Nat} {p : Ex × Rat} (h : m[i]? = some p) (hp : p.2 ≠ 0) : nzM (m.take (i + 1)) = nzM (m.take i) ++ [p] := by
  unfold nzM
  rw [List.take_add_one, h, List.filter_append]
  simp [hp]
theorem nz_take_false {m : PM} {i : Nat} {p : Ex × Rat} (h : m[i]? = some p) (hp : p.2 = 0) : nzM (m.take (i + 1)) = nzM (m.take i) := by
  unfold nzM
  rw [List.take_add_one, h, List.filter_append]
  simp [hp]
theorem num_zero {x : Rat} : x.num = 0 ↔ x = 0 := Rat.num_eq_zero
theorem nz_NZ (m : PM) : NZ (nzM m) := fun _ hp => of_decide_eq_true (List.mem_filter.mp hp).2
theorem nz_asc {m : PM} (h : Asc m) : Asc (nzM m) := List.Pairwise.sublist List.filter_sublist h
theorem nz_len (m : PM) : (nzM m).length ≤ m.length := List.length_filter_le _ _
end AL
namespace AL
open PySem PySem.Spec PyProof.Rows L2
theorem EntAt.tups {H H' : Hp} {b : Addr} {e : Ex × Rat} (h : EntAt H b e) (s : ∀ c ys, H c = some (.tup ys) → H' c = some (.tup ys)) : EntAt H' b e := let ⟨k, r, h1, h2, h3⟩ := h; ⟨k, r, s _ _ h1, s _ _ h2, s _ _ h3⟩
theorem upd_tups {H : Hp} {a : Addr} {o p : HO} (h : H a = some p) (np : ∀ ys, p ≠ .tup ys) : ∀ c ys, H c = some (.tup ys) → upd H a o c = some (.tup ys) := fun c ys z => by
  rw [upd_ne (fun w => by rw [w, h] at z; exact np ys (Option.some.inj z))]
  exact z
theorem perm_can {H : Hp} {n E D B : Nat} {m m' : PM} {ls : List (List Int × Addr)} (pm : m'.Perm m) (h : Paired (DRow H) ls m') (o : ls.Pairwise fun e f => TS.code 128 e.1 ≤ TS.code 128 f.1) (nd : (m.map (·.1)).Nodup) (b : PB n E D B m) (hE : E ≤ 80) :
    Can n E D B (nzM m') ∧ Eqp (nzM m') m ∧ (nzM m').length ≤ m.length := by
  have nd' : (m'.map (·.1)).Nodup := (List.Perm.nodup_iff (pm.map _)).mpr nd
  have b' : PB n E D B m' := b.sub fun p hp => pm.mem_iff.mp hp
  exact ⟨⟨nz_asc (asc_of h o nd' b' hE), nz_NZ _, b'.nz⟩, (nz_eqp m').trans fun φ => lin_perm φ pm, by rw [← pm.length_eq]; exact nz_len m'⟩
end AL
set_option Elab.async false
set_option linter.all false
set_option maxRecDepth 100000
set_option maxHeartbeats 2000000
/-! any(l), l a list of ints. -/
namespace AL
open PySem PySem.Spec PyProof.Rows L2
section
variable {X : Cx}
theorem truth_ints {prog : Program} {w : World} {A : Around} {ks : List Int} {its : List Value} (e : IntsAre its ks) :
    TruthOf prog w A (fun i v => its.toArray[i]? = some v) (fun i => decide (ks.getD i 0 ≠ 0)) := fun i v s Q E hv hq => by
  have hv' : its[i]? = some v := by simpa using hv
  obtain ⟨t, rfl⟩ := IntsAre.int_at e i v hv'
  refine PySem.P.truthy_int ?_
  have hq' : Q (decide (ks.getD i 0 ≠ 0)) s := hq
  have b : ∀ k : Int, (k != 0) = decide (k ≠ 0) := fun k => by
    by_cases z : k = 0
    · rw [z]; rfl
    · rw [decide_eq_true z]; exact bne_iff_ne.mpr z
  rw [b]
  exact hq'
theorem any_rangeI : ∀ ks : List Int, (List.range ks.length).any (fun i => decide (ks.getD i 0 ≠ 0)) = ks.any fun k => decide (k ≠ 0)
  | [] => rfl
  | b :: bs => by
    rw [List.length_cons, List.range_succ_eq_map, List.any_cons, List.any_map, List.any_cons, ← any_rangeI bs]
    all_goals rfl
def rAnyI (K : PySem.W.Frag) : List V → Hp → VK → Prop := fun vs H Q => ∃ (a : Addr) (ks : List Int), vs = [V.ref a] ∧ SqL K H a (ks.map V.int) ∧ Q (.bl (ks.any fun k => decide (k ≠ 0))) H
theorem cr_anyI (hc : X.calm = true) : CallR X (.builtin "any") (rAnyI X.K) := by
  intro pins s σ H vs us Q I r h
  obtain ⟨a, ks, rfl, hs, q⟩ := h
  obtain ⟨its, rv, hl, _⟩ := I.list hs
  rw [Vals.ref1 r]
  have hb : IntsAre its ks := by simpa using Vals.ints rv
  have ln := IntsAre.length hb
  refine call_any_walk (iter_any hl.isList fun s₂ e2 st hne => ?_)
  subst e2
  refine ⟨_, _, _, _, _, _, _, rfl, Walks.list (A := X.A.in1) (I.ok.hd hc) _ a hne its.toArray, st, truth_ints hb, fun h' tk hk => ?_⟩
  refine ⟨.bl _, H, I.kept fun b o eo => hk b o (fun hmem => ?_) (Heap.get?_push_of_some _ eo), ?_, q⟩
  · rcases List.mem_cons.mp hmem with e1 | hmem
    · exact absurd (e1 ▸ Heap.lt_size eo) (Nat.lt_irrefl _)
    · cases hmem
  · show Value.bool _ = Value.bool _
    rw [← any_rangeI, List.size_toArray, ln]
end
end AL
set_option Elab.async false
set_option linter.all false
set_option maxRecDepth 100000
set_option maxHeartbeats 2000000
/-! zip(a, b), each of them a list or a tuple. -/
namespace AL
open PySem PySem.Spec PyProof.Rows L2
def itB (h : Heap) (it a : Addr) (i : Nat) : Bool → Prop
  | true => h.IsListIter it a i
  | false => h.IsTupleIter it a i
def sqB (h : Heap) (a : Addr) (its : Array Value) : Bool → Prop
  | true => h.IsList a its
  | false => h.IsTuple a its
theorem drawsB {prog : Program} {w : World} {A : Around} (hh : A.handled = none) (k : Bool) (it a : Addr) (ne : a ≠ it) (its : Array Value) : Draws prog w A it [it, a] its.size (fun i v => its[i]? = some v) (fun i h => itB h it a i k ∧ sqB h a its k) := by
  cases k with
  | true => exact Draws.list hh it a ne its
  | false => exact Draws.tuple hh it a ne its
theorem itB_obj {h : Heap} {it a : Addr} {i : Nat} {k : Bool} (z : itB h it a i k) : ∃ o, h.get? it = some o ∧ ∀ v, o.data ≠ .cell v := by
  cases k with
  | true => obtain ⟨o, e1, _, e2⟩ := z; exact ⟨o, e1, fun v q => by rw [e2] at q; cases q⟩
  | false => obtain ⟨o, e1, _, e2⟩ := z; exact ⟨o, e1, fun v q => by rw [e2] at q; cases q⟩
theorem itB_at {h h' : Heap} {it a : Addr} {i : Nat} {k : Bool} (z : itB h it a i k) (e : ∀ o, h.get? it = some o → h'.get? it = some o) : itB h' it a i k := by
  cases k with
  | true => exact Heap.IsListIter.at z e
  | false => exact Heap.IsTupleIter.at z e
theorem SqB.raw {X : Cx} {pins : List (Addr × Obj)} {σ : L2.St} {H : Hp} {s : Shared} {a : Addr} {xs : List V} {k : Bool} (I : Inv X pins σ H s) (h : SqB X.K H a xs k) : ∃ its : List Value, Vals xs its ∧ sqB s.heap a its.toArray k ∧ a < s.heap.objs.size := by
  cases k with
  | true =>
    obtain ⟨its, rv, p, _⟩ := I.list h
    exact ⟨its, rv, p.isList, p.lt⟩
  | false =>
    obtain ⟨its, rv, p, _⟩ := I.tuple h
    obtain ⟨o, g, _⟩ := id p
    exact ⟨its, rv, p, Heap.lt_size g⟩
theorem SqB.inj {X : Cx} {pins : List (Addr × Obj)} {σ : L2.St} {H : Hp} {s : Shared} {a : Addr} {xs ys : List V} {k : Bool} (I : Inv X pins σ H s) (h : SqB X.K H a xs k) (g : SqB X.K H a ys k) : xs = ys := by
  cases k with
  | true => exact I.list_inj h g
  | false => exact I.tuple_inj h g
def ItzB (K : PySem.W.Frag) (a b : Addr) (k l : Bool) : It :=
  ⟨fun i H => ∃ (xs ys : List V) (x y : V), SqB K H a xs k ∧ SqB K H b ys l ∧ xs[i]? = some x ∧ ys[i]? = some y,
    fun i H v H' => ∃ T x y, v = .ref T ∧ H T = none ∧ H' = upd H T (.tup [x, y]) ∧ (∀ xs, SqB K H a xs k → xs[i]? = some x) ∧ ∀ ys, SqB K H b ys l → ys[i]? = some y,
    fun i H => ∃ xs ys : List V, SqB K H a xs k ∧ SqB K H b ys l ∧ i ≤ xs.length ∧ i ≤ ys.length ∧ (xs.length = i ∨ ys.length = i)⟩
theorem turn_zipB {P : Program} {w : World} {K : PySem.W.Frag} {elts : List Expr} {kk : Nat} {tpos : Pos} {a b z TI TO i1 i2 : Addr} {k l : Bool} (S : ZipSep2 z TI TO i1 i2 [i1, a] [i2, b]) (n1 : a ≠ i1) (n2 : b ≠ i2) :
    Turn P w K (.Tuple elts kk tpos) (ItzB K a b k l) [z, TI, TO, i1, i2] z (fun i h => IsZip h z TI TO .none ∧ IsTupOf2 h TI (.ref i1) (.ref i2) ∧ (∃ x y, IsTupOf2 h TO x y) ∧ itB h i1 a i k ∧ itB h i2 b i l) where
  mem := by simp
  obj := fun i h st c hc => by
    obtain ⟨hz, hTI, ⟨x, y, hTO⟩, g1, g2⟩ := st
    have m : c = z ∨ c = TI ∨ c = TO ∨ c = i1 ∨ c = i2 := by simpa using hc
    rcases m with q | q | q | q | q
    · rw [q]; exact ⟨_, hz, fun v q => nomatch q⟩
    · rw [q]; exact ⟨_, hTI, fun v q => nomatch q⟩
    · rw [q]; exact ⟨_, hTO, fun v q => nomatch q⟩
    · rw [q]; exact itB_obj g1
    · rw [q]; exact itB_obj g2
  keep := fun i h h' st kp => by
    obtain ⟨hz, hTI, ⟨x, y, hTO⟩, g1, g2⟩ := st
    exact ⟨kp z (by simp) _ hz, kp TI (by simp) _ hTI, ⟨x, y, kp TO (by simp) _ hTO⟩, itB_at g1 fun o q => kp i1 (by simp) o q, itB_at g2 fun o q => kp i2 (by simp) o q⟩
  item := by
    intro X hP hw hK hc i pins s σ H E I hf st hg
    subst hP hw hK
    obtain ⟨hz, hTI, ⟨x0, y0, hTO⟩, g1, g2⟩ := st
    obtain ⟨xs, ys, x, y, hqx, hqy, hx, hy⟩ := hg
    obtain ⟨its, rv, p, _⟩ := hqx.raw I
    obtain ⟨jts, rw2, p2, _⟩ := hqy.raw I
    obtain ⟨u, hu, ru⟩ := rv.get hx
    obtain ⟨v, hv, ru2⟩ := rw2.get hy
    have hzl : z < s.heap.objs.size := Heap.lt_size hz
    have lu : i < its.toArray.size := by have := (List.getElem?_eq_some_iff.mp hu).1; simpa using this
    have lv : i < jts.toArray.size := by have := (List.getElem?_eq_some_iff.mp hv).1; simpa using this
    refine wpAny_pyNext_zipD2_item S (drawsB (prog := X.prog) (w := X.w) (A := X.A.in1) (I.ok.hd hc) k i1 a n1 its.toArray) (drawsB (prog := X.prog) (w := X.w) (A := X.A.in1) (I.ok.hd hc) l i2 b n2 jts.toArray) hz hTI hTO ⟨g1, p⟩ ⟨g2, p2⟩ lu lv fun u1 v1 h' tk e1 e2 z' TO' st1 st2 hT hsz hk => ?_
    have eu : u1 = u := by
      have w : its.toArray[i]? = some u := by simpa using hu
      exact (Option.some.inj (w.symm.trans e1)).symm
    have ev : v1 = v := by
      have w : jts.toArray[i]? = some v := by simpa using hv
      exact (Option.some.inj (w.symm.trans e2)).symm
    subst eu ev
    refine ⟨_, rfl, wpAny_letOwnedTupleGo_zip (s := { s with heap := h', toks := tk }) z' fun h'' z'' sb => ?_⟩
    have hT2 : h''.get? s.heap.objs.size = some { cls := .type "tuple", data := .seq #[u1, v1] } := (sb.2 _ (Nat.ne_of_gt hzl)).trans hT
    have new : ObjOk X.prog X.w (upd H s.heap.objs.size (.tup [x, y])) h'' s.heap.objs.size (.tup [x, y]) :=
      ⟨by show 2 ≤ sizeLine; decide, [u1, v1], .cons ru (.cons ru2 .nil), ⟨_, hT2, rfl, _, rfl⟩⟩
    have I1 : Inv X pins σ (upd H s.heap.objs.size (.tup [x, y])) { s with heap := h'', toks := tk } :=
      I.turnedNew (t' := tk) (ch := [z, TI, TO, i1, i2]) (fun c o hb q => (sb.2 c (fun w => hb (by simp [w]))).trans (hk c o (fun w => hb (by simp [w])) (fun w => hb (by simp [w])) (fun w => hb (by simp [w])) (fun w => hb (by simp [w])) q)) hf (Nat.le_refl _) new
    refine ⟨.ref s.heap.objs.size, _, I1, rfl, ⟨_, x, y, rfl, I.hok.fresh (Nat.le_refl _), rfl, fun q hq => by rw [hq.inj I hqx]; exact hx, fun q hq => by rw [hq.inj I hqy]; exact hy⟩, ⟨z'', ?_, ⟨u1, v1, ?_⟩, ?_, ?_⟩, fun c hcm => ?_⟩
    · exact (sb.2 _ S.TIz).trans (hk _ _ S.TIz S.TITO S.TIi1 S.TIi2 hTI)
    · exact (sb.2 _ S.TOz).trans TO'
    · exact itB_at st1.1 fun o q => (sb.2 _ (fun w => S.zf1 (by rw [← w]; simp))).trans q
    · exact itB_at st2.1 fun o q => (sb.2 _ (fun w => S.zf2 (by rw [← w]; simp))).trans q
    · have lt : c < s.heap.objs.size := by
        have m : c = z ∨ c = TI ∨ c = TO ∨ c = i1 ∨ c = i2 := by simpa using hcm
        rcases m with q | q | q | q | q
        · rw [q]; exact hzl
        · rw [q]; exact Heap.lt_size hTI
        · rw [q]; exact Heap.lt_size hTO
        · rw [q]; obtain ⟨_, w, _⟩ := itB_obj g1; exact Heap.lt_size w
        · rw [q]; obtain ⟨_, w, _⟩ := itB_obj g2; exact Heap.lt_size w
      rw [upd_ne (Nat.ne_of_lt lt)]
      exact (hf c hcm).1
  done := by
    intro X hP hw hK hc i pins s σ H E I hf st hg
    subst hP hw hK
    obtain ⟨hz, hTI, ⟨x0, y0, hTO⟩, g1, g2⟩ := st
    obtain ⟨xs, ys, hqx, hqy, le1, le2, hend⟩ := hg
    obtain ⟨its, rv, p, _⟩ := hqx.raw I
    obtain ⟨jts, rw2, p2, _⟩ := hqy.raw I
    have l1 := rv.length
    have l2 := rw2.length
    refine wpAny_pyNext_zipD2_end S (drawsB (prog := X.prog) (w := X.w) (A := X.A.in1) (I.ok.hd hc) k i1 a n1 its.toArray) (drawsB (prog := X.prog) (w := X.w) (A := X.A.in1) (I.ok.hd hc) l i2 b n2 jts.toArray) hz hTI hTO ⟨g1, p⟩ ⟨g2, p2⟩ (by simp; omega) (by simp; omega) (by simp; omega) fun h' tk hk => ⟨rfl, ?_⟩
    exact I.turnedL (t' := tk) (ch := [z, TI, TO, i1, i2]) (fun c o hb q => hk c o (fun w => hb (by simp [w])) (fun w => hb (by simp [w])) (fun w => hb (by simp [w])) (fun w => hb (by simp [w])) q) hf
  self := fun A i s Q E st h => wpAny_pyIter_zip st.1 h
theorem beginsB (k : Bool) (a : Addr) (its : Array Value) : ∃ o, Begins (.ref a) o (fun h => sqB h a its k) ∧ ∀ (h : Heap) (it : Addr), h.get? it = some o → itB h it a 0 k := by
  cases k with
  | true => exact ⟨_, begins_list a its, fun h it e => ⟨_, e, rfl, rfl⟩⟩
  | false => exact ⟨_, begins_tuple a its, fun h it e => ⟨_, e, rfl, rfl⟩⟩
def iZipB (K : PySem.W.Frag) (ta : TA) : TI := fun σ H R => ta σ H fun vs H1 => ∃ a b k l xs ys, vs = [.ref a, .ref b] ∧ SqB K H1 a xs k ∧ SqB K H1 b ys l ∧ R (ItzB K a b k l) H1
theorem pi_zipB {X : Cx} {e e2 : Expr} {ta : TA} {p pos tpos : Pos} {elts : List Expr} {kk : Nat} (hg : Gl X "zip") (hm : X.mg "zip" = none) (ha : PA X [e, e2] ta)
    (hs : starEach [e, e2] X.env = (false, eval e X.env) :: starEach [e2] X.env := by rfl) (hpl : (backTo pos (starEach [e2] X.env)).any (·.1) = false := by rfl) :
    PI X (.Tuple elts kk tpos) (.Call (.Name "zip" p) [e, e2] [] pos) (iZipB X.K ta) := by
  refine ⟨fun pins s σ H R I h => ?_⟩
  refine Call_ (ld_blt I hg hm PyProof.Rows.boot_zip (PyProof.Rows.callWith_type1 (thn (ha.run pos pins s σ H _ I h) fun us s1 ⟨vs, H1, I1, r1, q1⟩ => ?_) hs hpl))
  obtain ⟨a, b, k, l, xs, ys, ex, hqx, hqy, q⟩ := q1
  subst ex
  cases r1 with
  | cons r rr =>
  cases rr with
  | cons r' rr =>
  cases rr
  cases r
  cases r'
  obtain ⟨its, rv, p1, la⟩ := hqx.raw I1
  obtain ⟨jts, rw2, p2, lb⟩ := hqy.raw I1
  obtain ⟨o1, B1, s1i⟩ := beginsB k a its.toArray
  obtain ⟨o2, B2, s2i⟩ := beginsB l b jts.toArray
  refine zip_begins2 B1 B2 p1 p2 fun h' hz hTI hTO hi1 hi2 hsz hk => wpAny_pyIter_zip hz ?_
  have I2 : Inv X pins σ H1 { s1 with heap := h' } := I1.kept (t' := s1.toks) hk
  have S := zip_sep2 (N := s1.heap.objs.size) (fp1 := [a]) (fp2 := [b]) (fun c hc => by rw [List.mem_singleton.mp hc]; exact la) (fun c hc => by rw [List.mem_singleton.mp hc]; exact lb)
  have fresh5 : ∀ c, c ∈ [s1.heap.objs.size + 4, s1.heap.objs.size + 2, s1.heap.objs.size + 3, s1.heap.objs.size, s1.heap.objs.size + 1] → FpOk X pins H1 c := fun c hcm => by
    have m : c = s1.heap.objs.size + 4 ∨ c = s1.heap.objs.size + 2 ∨ c = s1.heap.objs.size + 3 ∨ c = s1.heap.objs.size ∨ c = s1.heap.objs.size + 1 := by simpa using hcm
    have le : s1.heap.objs.size ≤ c := by
      rcases m with z | z | z | z | z <;> rw [z]
      · exact Nat.le_add_right _ _
      · exact Nat.le_add_right _ _
      · exact Nat.le_add_right _ _
      · exact Nat.le_refl _
      · exact Nat.le_add_right _ _
    exact I1.fpOk le (I1.hok.fresh le)
  exact ⟨s1.heap.objs.size + 4, [s1.heap.objs.size + 4, s1.heap.objs.size + 2, s1.heap.objs.size + 3, s1.heap.objs.size, s1.heap.objs.size + 1], _, _, H1, rfl, I2, turn_zipB S (Nat.ne_of_lt la) (Nat.ne_of_lt (Nat.lt_succ_of_lt lb)), ⟨hz, hTI, ⟨_, _, hTO⟩, s1i _ _ hi1, s2i _ _ hi2⟩, fresh5, q⟩
theorem walk_zipB {K : PySem.W.Frag} {a b : Addr} {k l : Bool} {xs ys : List V} {n : Nat} (hn : n = min xs.length ys.length) : Walk (ItzB K a b k l) n (fun H => SqB K H a xs k ∧ SqB K H b ys l) (YPair (fun i => xs[i]?) (fun i => ys[i]?)) := by
  subst hn
  refine ⟨fun i _ hi q => ?_, fun _ q => ⟨xs, ys, q.1, q.2, by omega, by omega, by omega⟩, fun i H v H' _ q y => ?_⟩
  · exact ⟨xs, ys, xs[i], ys[i], q.1, q.2, by simp [show i < xs.length by omega], by simp [show i < ys.length by omega]⟩
  · obtain ⟨T, x, z, g1, g2, g3, g4, g5⟩ := y
    exact ⟨T, x, z, g1, g2, g3, g4 xs q.1, g5 ys q.2⟩
end AL
set_option Elab.async false
set_option linter.all false
set_option maxRecDepth 100000
set_option maxHeartbeats 4000000
/-! zip(a, b, c), each of them a list or a tuple. -/
namespace AL
open PySem PySem.Spec PyProof.Rows L2
def Itz3 (K : PySem.W.Frag) (a b c : Addr) (k l m : Bool) : It :=
  ⟨fun i H => ∃ (xs ys zs : List V) (x y u : V), SqB K H a xs k ∧ SqB K H b ys l ∧ SqB K H c zs m ∧ xs[i]? = some x ∧ ys[i]? = some y ∧ zs[i]? = some u,
    fun i H v H' => ∃ T x y u, v = .ref T ∧ H T = none ∧ H' = upd H T (.tup [x, y, u]) ∧ (∀ xs, SqB K H a xs k → xs[i]? = some x) ∧ (∀ ys, SqB K H b ys l → ys[i]? = some y) ∧ ∀ zs, SqB K H c zs m → zs[i]? = some u,
    fun i H => ∃ xs ys zs : List V, SqB K H a xs k ∧ SqB K H b ys l ∧ SqB K H c zs m ∧ i ≤ xs.length ∧ i ≤ ys.length ∧ i ≤ zs.length ∧ (xs.length = i ∨ ys.length = i ∨ zs.length = i)⟩
theorem turn_zip3 {P : Program} {w : World} {K : PySem.W.Frag} {elts : List Expr} {kk : Nat} {tpos : Pos} {a b c z TI TO i1 i2 i3 : Addr} {k l m : Bool} (S : ZipSep3 z TI TO i1 i2 i3 [i1, a] [i2, b] [i3, c]) (n1 : a ≠ i1) (n2 : b ≠ i2) (n3 : c ≠ i3) :
    Turn P w K (.Tuple elts kk tpos) (Itz3 K a b c k l m) [z, TI, TO, i1, i2, i3] z (fun i h => IsZip h z TI TO .none ∧ IsTupOf3 h TI (.ref i1) (.ref i2) (.ref i3) ∧ (∃ x y u, IsTupOf3 h TO x y u) ∧ itB h i1 a i k ∧ itB h i2 b i l ∧ itB h i3 c i m) where
  mem := by simp
  obj := fun i h st q hq => by
    obtain ⟨hz, hTI, ⟨x, y, u, hTO⟩, g1, g2, g3⟩ := st
    have mm : q = z ∨ q = TI ∨ q = TO ∨ q = i1 ∨ q = i2 ∨ q = i3 := by simpa using hq
    rcases mm with e | e | e | e | e | e
    · rw [e]; exact ⟨_, hz, fun v q => nomatch q⟩
    · rw [e]; exact ⟨_, hTI, fun v q => nomatch q⟩
    · rw [e]; exact ⟨_, hTO, fun v q => nomatch q⟩
    · rw [e]; exact itB_obj g1
    · rw [e]; exact itB_obj g2
    · rw [e]; exact itB_obj g3
  keep := fun i h h' st kp => by
    obtain ⟨hz, hTI, ⟨x, y, u, hTO⟩, g1, g2, g3⟩ := st
    exact ⟨kp z (by simp) _ hz, kp TI (by simp) _ hTI, ⟨x, y, u, kp TO (by simp) _ hTO⟩, itB_at g1 fun o q => kp i1 (by simp) o q, itB_at g2 fun o q => kp i2 (by simp) o q, itB_at g3 fun o q => kp i3 (by simp) o q⟩
  item := by
    intro X hP hw hK hc i pins s σ H E I hf st hg
    subst hP hw hK
    obtain ⟨hz, hTI, ⟨x0, y0, u0, hTO⟩, g1, g2, g3⟩ := st
    obtain ⟨xs, ys, zs, x, y, u, hqx, hqy, hqz, hx, hy, hu0⟩ := hg
    obtain ⟨its, rv, p, _⟩ := hqx.raw I
    obtain ⟨jts, rw2, p2, _⟩ := hqy.raw I
    obtain ⟨kts, rw3, p3, _⟩ := hqz.raw I
    obtain ⟨vu, hu, ru⟩ := rv.get hx
    obtain ⟨vv, hv, ru2⟩ := rw2.get hy
    obtain ⟨vw, hw3, ru3⟩ := rw3.get hu0
    have hzl : z < s.heap.objs.size := Heap.lt_size hz
    have lu : i < its.toArray.size := by have := (List.getElem?_eq_some_iff.mp hu).1; simpa using this
    have lv : i < jts.toArray.size := by have := (List.getElem?_eq_some_iff.mp hv).1; simpa using this
    have lw : i < kts.toArray.size := by have := (List.getElem?_eq_some_iff.mp hw3).1; simpa using this
    refine wpAny_pyNext_zipD3_item S (drawsB (prog := X.prog) (w := X.w) (A := X.A.in1) (I.ok.hd hc) k i1 a n1 its.toArray) (drawsB (prog := X.prog) (w := X.w) (A := X.A.in1) (I.ok.hd hc) l i2 b n2 jts.toArray) (drawsB (prog := X.prog) (w := X.w) (A := X.A.in1) (I.ok.hd hc) m i3 c n3 kts.toArray) hz hTI hTO ⟨g1, p⟩ ⟨g2, p2⟩ ⟨g3, p3⟩ lu lv lw fun u1 v1 w1 h' tk e1 e2 e3 z' TO' st1 st2 st3 hT hsz hk => ?_
    have eu : u1 = vu := by
      have w : its.toArray[i]? = some vu := by simpa using hu
      exact (Option.some.inj (w.symm.trans e1)).symm
    have ev : v1 = vv := by
      have w : jts.toArray[i]? = some vv := by simpa using hv
      exact (Option.some.inj (w.symm.trans e2)).symm
    have ew : w1 = vw := by
      have w : kts.toArray[i]? = some vw := by simpa using hw3
      exact (Option.some.inj (w.symm.trans e3)).symm
    subst eu ev ew
    refine ⟨_, rfl, wpAny_letOwnedTupleGo_zip (s := { s with heap := h', toks := tk }) z' fun h'' z'' sb => ?_⟩
    have hT2 : h''.get? s.heap.objs.size = some { cls := .type "tuple", data := .seq #[u1, v1, w1] } := (sb.2 _ (Nat.ne_of_gt hzl)).trans hT
    have new : ObjOk X.prog X.w (upd H s.heap.objs.size (.tup [x, y, u])) h'' s.heap.objs.size (.tup [x, y, u]) :=
      ⟨by show 3 ≤ sizeLine; decide, [u1, v1, w1], .cons ru (.cons ru2 (.cons ru3 .nil)), ⟨_, hT2, rfl, _, rfl⟩⟩
    have I1 : Inv X pins σ (upd H s.heap.objs.size (.tup [x, y, u])) { s with heap := h'', toks := tk } :=
      I.turnedNew (t' := tk) (ch := [z, TI, TO, i1, i2, i3]) (fun q o hb qq => (sb.2 q (fun w => hb (by simp [w]))).trans (hk q o (fun w => hb (by simp [w])) (fun w => hb (by simp [w])) (fun w => hb (by simp [w])) (fun w => hb (by simp [w])) (fun w => hb (by simp [w])) qq)) hf (Nat.le_refl _) new
    refine ⟨.ref s.heap.objs.size, _, I1, rfl, ⟨_, x, y, u, rfl, I.hok.fresh (Nat.le_refl _), rfl, fun q hq => by rw [hq.inj I hqx]; exact hx, fun q hq => by rw [hq.inj I hqy]; exact hy, fun q hq => by rw [hq.inj I hqz]; exact hu0⟩, ⟨z'', ?_, ⟨u1, v1, w1, ?_⟩, ?_, ?_, ?_⟩, fun q hcm => ?_⟩
    · exact (sb.2 _ S.TIz).trans (hk _ _ S.TIz S.TITO S.TIi1 S.TIi2 S.TIi3 hTI)
    · exact (sb.2 _ S.TOz).trans TO'
    · exact itB_at st1.1 fun o q => (sb.2 _ (fun w => S.zf1 (by rw [← w]; simp))).trans q
    · exact itB_at st2.1 fun o q => (sb.2 _ (fun w => S.zf2 (by rw [← w]; simp))).trans q
    · exact itB_at st3.1 fun o q => (sb.2 _ (fun w => S.zf3 (by rw [← w]; simp))).trans q
    · have lt : q < s.heap.objs.size := by
        have mm : q = z ∨ q = TI ∨ q = TO ∨ q = i1 ∨ q = i2 ∨ q = i3 := by simpa using hcm
        rcases mm with e | e | e | e | e | e
        · rw [e]; exact hzl
        · rw [e]; exact Heap.lt_size hTI
        · rw [e]; exact Heap.lt_size hTO
        · rw [e]; obtain ⟨_, w, _⟩ := itB_obj g1; exact Heap.lt_size w
        · rw [e]; obtain ⟨_, w, _⟩ := itB_obj g2; exact Heap.lt_size w
        · rw [e]; obtain ⟨_, w, _⟩ := itB_obj g3; exact Heap.lt_size w
      rw [upd_ne (Nat.ne_of_lt lt)]
      exact (hf q hcm).1
  done := by
    intro X hP hw hK hc i pins s σ H E I hf st hg
    subst hP hw hK
    obtain ⟨hz, hTI, ⟨x0, y0, u0, hTO⟩, g1, g2, g3⟩ := st
    obtain ⟨xs, ys, zs, hqx, hqy, hqz, le1, le2, le3, hend⟩ := hg
    obtain ⟨its, rv, p, _⟩ := hqx.raw I
    obtain ⟨jts, rw2, p2, _⟩ := hqy.raw I
    obtain ⟨kts, rw3, p3, _⟩ := hqz.raw I
    have l1 := rv.length
    have l2 := rw2.length
    have l3 := rw3.length
    refine wpAny_pyNext_zipD3_end S (drawsB (prog := X.prog) (w := X.w) (A := X.A.in1) (I.ok.hd hc) k i1 a n1 its.toArray) (drawsB (prog := X.prog) (w := X.w) (A := X.A.in1) (I.ok.hd hc) l i2 b n2 jts.toArray) (drawsB (prog := X.prog) (w := X.w) (A := X.A.in1) (I.ok.hd hc) m i3 c n3 kts.toArray) hz hTI hTO ⟨g1, p⟩ ⟨g2, p2⟩ ⟨g3, p3⟩ (by simp; omega) (by simp; omega) (by simp; omega) (by simp; omega) fun h' tk hk => ⟨rfl, ?_⟩
    exact I.turnedL (t' := tk) (ch := [z, TI, TO, i1, i2, i3]) (fun q o hb qq => hk q o (fun w => hb (by simp [w])) (fun w => hb (by simp [w])) (fun w => hb (by simp [w])) (fun w => hb (by simp [w])) (fun w => hb (by simp [w])) qq) hf
  self := fun A i s Q E st h => wpAny_pyIter_zip st.1 h
def iZip3 (K : PySem.W.Frag) (ta : TA) : TI := fun σ H R => ta σ H fun vs H1 => ∃ a b c k l m xs ys zs, vs = [.ref a, .ref b, .ref c] ∧ SqB K H1 a xs k ∧ SqB K H1 b ys l ∧ SqB K H1 c zs m ∧ R (Itz3 K a b c k l m) H1
theorem pi_zip3 {X : Cx} {e e2 e3 : Expr} {ta : TA} {p pos tpos : Pos} {elts : List Expr} {kk : Nat} (hg : Gl X "zip") (hm : X.mg "zip" = none) (ha : PA X [e, e2, e3] ta)
    (hs : starEach [e, e2, e3] X.env = (false, eval e X.env) :: starEach [e2, e3] X.env := by rfl) (hpl : (backTo pos (starEach [e2, e3] X.env)).any (·.1) = false := by rfl) :
    PI X (.Tuple elts kk tpos) (.Call (.Name "zip" p) [e, e2, e3] [] pos) (iZip3 X.K ta) := by
  refine ⟨fun pins s σ H R I h => ?_⟩
  refine Call_ (ld_blt I hg hm PyProof.Rows.boot_zip (PyProof.Rows.callWith_type1 (thn (ha.run pos pins s σ H _ I h) fun us s1 ⟨vs, H1, I1, r1, q1⟩ => ?_) hs hpl))
  obtain ⟨a, b, c, k, l, m, xs, ys, zs, ex, hqx, hqy, hqz, q⟩ := q1
  subst ex
  cases r1 with
  | cons r rr =>
  cases rr with
  | cons r' rr =>
  cases rr with
  | cons r'' rr =>
  cases rr
  cases r
  cases r'
  cases r''
  obtain ⟨its, rv, p1, la⟩ := hqx.raw I1
  obtain ⟨jts, rw2, p2, lb⟩ := hqy.raw I1
  obtain ⟨kts, rw3, p3, lc⟩ := hqz.raw I1
  obtain ⟨o1, B1, s1i⟩ := beginsB k a its.toArray
  obtain ⟨o2, B2, s2i⟩ := beginsB l b jts.toArray
  obtain ⟨o3, B3, s3i⟩ := beginsB m c kts.toArray
  refine zip_begins3 B1 B2 B3 p1 p2 p3 fun h' hz hTI hTO hi1 hi2 hi3 hsz hk => wpAny_pyIter_zip hz ?_
  have I2 : Inv X pins σ H1 { s1 with heap := h' } := I1.kept (t' := s1.toks) hk
  have S := zip_sep3 (N := s1.heap.objs.size) (fp1 := [a]) (fp2 := [b]) (fp3 := [c]) (fun q hc => by rw [List.mem_singleton.mp hc]; exact la) (fun q hc => by rw [List.mem_singleton.mp hc]; exact lb) (fun q hc => by rw [List.mem_singleton.mp hc]; exact lc)
  have fresh5 : ∀ q, q ∈ [s1.heap.objs.size + 5, s1.heap.objs.size + 3, s1.heap.objs.size + 4, s1.heap.objs.size, s1.heap.objs.size + 1, s1.heap.objs.size + 2] → FpOk X pins H1 q := fun q hcm => by
    have mm : q = s1.heap.objs.size + 5 ∨ q = s1.heap.objs.size + 3 ∨ q = s1.heap.objs.size + 4 ∨ q = s1.heap.objs.size ∨ q = s1.heap.objs.size + 1 ∨ q = s1.heap.objs.size + 2 := by simpa using hcm
    have le : s1.heap.objs.size ≤ q := by
      rcases mm with z | z | z | z | z | z <;> rw [z]
      · exact Nat.le_add_right _ _
      · exact Nat.le_add_right _ _
      · exact Nat.le_add_right _ _
      · exact Nat.le_refl _
      · exact Nat.le_add_right _ _
      · exact Nat.le_add_right _ _
    exact I1.fpOk le (I1.hok.fresh le)
  exact ⟨s1.heap.objs.size + 5, [s1.heap.objs.size + 5, s1.heap.objs.size + 3, s1.heap.objs.size + 4, s1.heap.objs.size, s1.heap.objs.size + 1, s1.heap.objs.size + 2], _, _, H1, rfl, I2, turn_zip3 S (Nat.ne_of_lt la) (Nat.ne_of_lt (Nat.lt_succ_of_lt lb)) (Nat.ne_of_lt (Nat.lt_succ_of_lt (Nat.lt_succ_of_lt lc))), ⟨hz, hTI, ⟨_, _, _, hTO⟩, s1i _ _ hi1, s2i _ _ hi2, s3i _ _ hi3⟩, fresh5, q⟩
theorem walk_zip3 {K : PySem.W.Frag} {a b c : Addr} {k l m : Bool} {xs ys zs : List V} {n : Nat} (hn : n = min (min xs.length ys.length) zs.length) : Walk (Itz3 K a b c k l m) n (fun H => SqB K H a xs k ∧ SqB K H b ys l ∧ SqB K H c zs m) (fun i H v H' => ∃ T x y u, v = .ref T ∧ H T = none ∧ H' = upd H T (.tup [x, y, u]) ∧ xs[i]? = some x ∧ ys[i]? = some y ∧ zs[i]? = some u) := by
  subst hn
  refine ⟨fun i _ hi q => ?_, fun _ q => ⟨xs, ys, zs, q.1, q.2.1, q.2.2, by omega, by omega, by omega, by omega⟩, fun i H v H' _ q y => ?_⟩
  · exact ⟨xs, ys, zs, xs[i], ys[i], zs[i], q.1, q.2.1, q.2.2, by simp [show i < xs.length by omega], by simp [show i < ys.length by omega], by simp [show i < zs.length by omega]⟩
  · obtain ⟨T, x, z, u, g1, g2, g3, g4, g5, g6⟩ := y
    exact ⟨T, x, z, u, g1, g2, g3, g4 xs q.1, g5 ys q.2.1, g6 zs q.2.2⟩
end AL
set_option Elab.async false
set_option linter.all false
set_option maxRecDepth 100000
/-! rows of integers, their spans over the ratios, reduced rows: the mathematics -/
namespace AL
abbrev Rw := List Int
def vl (x : Rw) : Nat → Int := fun j => x.getD j 0
/-- the place of the first item that is not 0 -/
def piv : Rw → Nat
  | [] => 0
  | x :: r => if x = 0 then piv r + 1 else 0
def comb (m : Int) (x : Rw) (t : Int) (y : Rw) : Rw := List.zipWith (fun a b => m * a + t * b) x y
def gcdR (x : Rw) : Nat := x.foldl (fun s v => Nat.gcd s v.natAbs) 0
def sgR (x : Rw) : Int := if vl x (piv x) < 0 then -((gcdR x : Nat) : Int) else ((gcdR x : Nat) : Int)
def prim (x : Rw) : Rw := x.map fun v => v.fdiv (sgR x)
def woG (x : Rw) (p : Nat) (h : Rw) : Nat := Nat.gcd (vl x p).natAbs (vl h p).natAbs
def wo (x : Rw) (p : Nat) (h : Rw) : Rw := if vl x p = 0 then x else comb ((vl h p).fdiv (woG x p h)) x (-((vl x p).fdiv (woG x p h))) h
def clr (F : List Rw) (x : Rw) : Rw := F.foldl (fun x h => wo x (piv h) h) x
def upR (p : Rw) (h : Rw) : Rw := if vl h (piv p) = 0 then h else prim (wo h (piv p) p)
def allZ (x : Rw) : Prop := ∀ v ∈ x, v = 0
instance (x : Rw) : Decidable (allZ x) := by unfold allZ; infer_instance
def stepS (F : List Rw) (r : Rw) : List Rw := if allZ (clr F r) then F else F.map (upR (prim (clr F r))) ++ [prim (clr F r)]
def spn (rows : List Rw) : List Rw := rows.foldl stepS []
theorem vl_get {x : Rw} {j : Nat} {v : Int} (h : x[j]? = some v) : vl x j = v := by unfold vl; rw [List.getD_eq_getElem?_getD, h]; rfl
theorem vl_out {x : Rw} {j : Nat} (h : x.length ≤ j) : vl x j = 0 := by unfold vl; rw [List.getD_eq_getElem?_getD, List.getElem?_eq_none h]; rfl
theorem vl_at {x : Rw} {j : Nat} (h : j < x.length) : x[j]? = some (vl x j) := by
  unfold vl; rw [List.getD_eq_getElem?_getD, List.getElem?_eq_getElem h]; rfl
theorem vl_mem {x : Rw} {j : Nat} (h : j < x.length) : vl x j ∈ x := List.mem_of_getElem? (vl_at h)
theorem vl_ext {x y : Rw} (h : x.length = y.length) (e : ∀ j, vl x j = vl y j) : x = y := by
  refine List.ext_getElem h fun j h1 h2 => ?_
  have := e j
  have a := vl_at h1
  have b := vl_at h2
  rw [List.getElem?_eq_getElem h1] at a
  rw [List.getElem?_eq_getElem h2] at b
  have a' := Option.some.inj a
  have b' := Option.some.inj b
  omega
theorem vl_map {x : Rw} {f : Int → Int} (h0 : f 0 = 0) (j : Nat) : vl (x.map f) j = f (vl x j) := by
  by_cases h : j < x.length
  · exact vl_get (by rw [List.getElem?_map, vl_at h]; rfl)
  · rw [vl_out (by rw [List.length_map]; omega), vl_out (by omega), h0]
theorem pos_r {a b : Int} (ha : 0 < a) (h : 0 < a * b) : 0 < b := by
  rcases Int.lt_trichotomy b 0 with w | w | w
  · have := Int.mul_neg_of_pos_of_neg ha w; omega
  · rw [w, Int.mul_zero] at h; omega
  · exact w
theorem comb_len {m t : Int} {x y : Rw} (h : x.length = y.length) : (comb m x t y).length = x.length := by unfold comb; rw [List.length_zipWith, h, Nat.min_self]
theorem comb_vl {m t : Int} {x y : Rw} (h : x.length = y.length) (j : Nat) : vl (comb m x t y) j = m * vl x j + t * vl y j := by
  by_cases hj : j < x.length
  · exact vl_get (by unfold comb; rw [List.getElem?_zipWith, vl_at hj, vl_at (by omega : j < y.length)])
  · rw [vl_out (by rw [comb_len h]; omega), vl_out (by omega : x.length ≤ j), vl_out (by omega : y.length ≤ j)]; simp
theorem piv_spec : ∀ {x : Rw}, ¬ allZ x → piv x < x.length ∧ vl x (piv x) ≠ 0 ∧ ∀ j, j < piv x → vl x j = 0
  | [], h => absurd (fun v hv => nomatch hv) h
  | a :: r, h => by
    unfold piv
    by_cases z : a = 0
    · rw [if_pos z]
      have hr : ¬ allZ r := fun w => h fun v hv => by
        rcases List.mem_cons.mp hv with e | e
        · rw [e, z]
        · exact w v e
      obtain ⟨h1, h2, h3⟩ := piv_spec hr
      refine ⟨by rw [List.length_cons]; omega, ?_, fun j hj => ?_⟩
      · show vl (a :: r) (piv r + 1) ≠ 0
        exact h2
      · cases j with
        | zero => exact z
        | succ j => exact h3 j (by omega)
    · rw [if_neg z]
      exact ⟨by simp, z, fun j hj => by omega⟩
theorem piv_zero : ∀ {x : Rw}, allZ x → piv x = x.length
  | [], _ => rfl
  | a :: r, h => by
    unfold piv
    rw [if_pos (h a (List.mem_cons_self ..)), piv_zero fun v hv => h v (List.mem_cons_of_mem _ hv)]; rfl
theorem not_allZ {x : Rw} {j : Nat} (h : vl x j ≠ 0) : ¬ allZ x := fun z => by
  by_cases hj : j < x.length
  · exact h (z _ (vl_mem hj))
  · exact h (vl_out (by omega))
theorem allZ_vl {x : Rw} (h : allZ x) (j : Nat) : vl x j = 0 := by
  by_cases hj : j < x.length
  · exact h _ (vl_mem hj)
  · exact vl_out (by omega)
theorem piv_is {x : Rw} {p : Nat} (h : vl x p ≠ 0) (z : ∀ j, j < p → vl x j = 0) : piv x = p := by
  obtain ⟨_, h2, h3⟩ := piv_spec (not_allZ h)
  rcases Nat.lt_trichotomy (piv x) p with w | w | w
  · exact absurd (z _ w) h2
  · exact w
  · exact absurd (h3 p w) h
theorem gcdR_fold : ∀ (x : Rw) (s : Nat), x.foldl (fun s v => Nat.gcd s v.natAbs) s ∣ s ∧ ∀ v ∈ x, x.foldl (fun s v => Nat.gcd s v.natAbs) s ∣ v.natAbs
  | [], s => ⟨Nat.dvd_refl _, fun v hv => nomatch hv⟩
  | a :: r, s => by
    obtain ⟨h1, h2⟩ := gcdR_fold r (Nat.gcd s a.natAbs)
    refine ⟨Nat.dvd_trans h1 (Nat.gcd_dvd_left _ _), fun v hv => ?_⟩
    rcases List.mem_cons.mp hv with rfl | hv
    · exact Nat.dvd_trans h1 (Nat.gcd_dvd_right _ _)
    · exact h2 v hv
theorem gcdR_dvd {x : Rw} {v : Int} (h : v ∈ x) : gcdR x ∣ v.natAbs := (gcdR_fold x 0).2 v h
theorem gcdR_pos {x : Rw} (h : ¬ allZ x) : 0 < gcdR x := by
  obtain ⟨h1, h2, _⟩ := piv_spec h
  have d := gcdR_dvd (vl_mem h1)
  refine Nat.pos_of_ne_zero fun z => ?_
  rw [z] at d
  have := Nat.eq_zero_of_zero_dvd d
  omega
theorem sgR_abs (x : Rw) : (sgR x).natAbs = gcdR x := by unfold sgR; split <;> omega
theorem sgR_ne {x : Rw} (h : ¬ allZ x) : sgR x ≠ 0 := fun z => by
  have a := sgR_abs x
  have := gcdR_pos h
  rw [z] at a
  simp at a; omega
theorem sgR_dvd {x : Rw} {v : Int} (h : v ∈ x) : sgR x ∣ v := by
  have d := gcdR_dvd h
  rw [← sgR_abs] at d
  exact Int.natAbs_dvd_natAbs.mp d
theorem fdiv_ex {g v : Int} (g0 : g ≠ 0) (h : g ∣ v) : g * v.fdiv g = v := by
  obtain ⟨k, rfl⟩ := h
  rw [Int.mul_comm g k, Int.mul_fdiv_cancel _ g0, Int.mul_comm]
theorem prim_len (x : Rw) : (prim x).length = x.length := List.length_map _
theorem prim_vl {x : Rw} (h : ¬ allZ x) (j : Nat) : sgR x * vl (prim x) j = vl x j := by
  by_cases hj : j < x.length
  · have e : vl (prim x) j = (vl x j).fdiv (sgR x) := vl_get (by unfold prim; rw [List.getElem?_map, vl_at hj]; rfl)
    rw [e, fdiv_ex (sgR_ne h) (sgR_dvd (vl_mem hj))]
  · rw [vl_out (by rw [prim_len]; omega), vl_out (by omega : x.length ≤ j), Int.mul_zero]
theorem prim_piv {x : Rw} (h : ¬ allZ x) : piv (prim x) = piv x := by
  obtain ⟨_, h2, h3⟩ := piv_spec h
  refine piv_is (fun z => h2 ?_) fun j hj => ?_
  · rw [← prim_vl h, z, Int.mul_zero]
  · have := prim_vl h j
    rw [h3 j hj] at this
    exact (Int.mul_eq_zero.mp this).resolve_left (sgR_ne h)
theorem prim_pos {x : Rw} (h : ¬ allZ x) : 0 < vl (prim x) (piv x) := by
  obtain ⟨_, h2, h3⟩ := piv_spec h
  have e := prim_vl h (piv x)
  have g := gcdR_pos h
  by_cases w : vl x (piv x) < 0
  · have s : sgR x < 0 := by unfold sgR; rw [if_pos w]; omega
    rw [← e] at w
    rcases Int.lt_trichotomy (vl (prim x) (piv x)) 0 with z | z | z
    · have := Int.mul_pos_of_neg_of_neg s z; omega
    · rw [z] at w; simp at w
    · exact z
  · have s : 0 < sgR x := by unfold sgR; rw [if_neg w]; omega
    have p : 0 < vl x (piv x) := by omega
    rw [← e] at p
    exact pos_r s p
theorem prim_nz {x : Rw} (h : ¬ allZ x) : ¬ allZ (prim x) := not_allZ (j := piv x) (by have := prim_pos h; omega)
/-- m times x and t times h -/
theorem wo_lin {x h : Rw} {p : Nat} (hl : x.length = h.length) (hp : 0 < vl h p) : ∃ m t : Int, 0 < m ∧ (wo x p h).length = x.length ∧ (∀ j, vl (wo x p h) j = m * vl x j + t * vl h j) ∧ vl (wo x p h) p = 0 := by
  unfold wo
  by_cases z : vl x p = 0
  · rw [if_pos z]
    exact ⟨1, 0, by decide, rfl, fun j => by simp, z⟩
  · rw [if_neg z]
    have gp : 0 < woG x p h := Nat.gcd_pos_of_pos_right _ (by omega)
    have d1 : ((woG x p h : Nat) : Int) ∣ vl h p := Int.ofNat_dvd_left.mpr (Nat.gcd_dvd_right _ _)
    have d2 : ((woG x p h : Nat) : Int) ∣ vl x p := Int.ofNat_dvd_left.mpr (Nat.gcd_dvd_left _ _)
    have g0 : ((woG x p h : Nat) : Int) ≠ 0 := by omega
    have e1 := fdiv_ex g0 d1
    have e2 := fdiv_ex g0 d2
    refine ⟨_, _, ?_, comb_len hl, comb_vl hl, ?_⟩
    · rw [← e1] at hp
      exact pos_r (by omega) hp
    · rw [comb_vl hl]
      generalize (vl h p).fdiv (woG x p h) = a at *
      generalize (vl x p).fdiv (woG x p h) = b at *
      rw [← e1, ← e2]
      have : a * (↑(woG x p h) * b) = b * (↑(woG x p h) * a) := by rw [Int.mul_left_comm, Int.mul_comm a b, ← Int.mul_left_comm]
      rw [this, Int.neg_mul]; omega
/-- spans -/
inductive Spn (S : (Nat → Int) → Prop) : (Nat → Int) → Prop
  | mem {x} : S x → Spn S x
  | zero : Spn S fun _ => 0
  | lin {x y} (m t : Int) : Spn S x → Spn S y → Spn S fun j => m * x j + t * y j
  | div {x} {s : Int} : s ≠ 0 → (Spn S fun j => s * x j) → Spn S x
def inR (F : List Rw) : (Nat → Int) → Prop := fun φ => ∃ f ∈ F, φ = vl f
theorem Spn.trans {S T : (Nat → Int) → Prop} {x : Nat → Int} (h : Spn S x) (k : ∀ y, S y → Spn T y) : Spn T x := by
  induction h with
  | mem h => exact k _ h
  | zero => exact .zero
  | lin m t _ _ i1 i2 => exact .lin m t i1 i2
  | div s0 _ i => exact .div s0 i
theorem Spn.of {S : (Nat → Int) → Prop} {x y : Nat → Int} (h : Spn S x) (e : ∀ j, y j = x j) : Spn S y := by
  have : y = x := funext e
  rw [this]; exact h
/-- what is closed like a span -/
structure Cls0 (R : (Nat → Int) → Prop) : Prop where
  zero : R fun _ => 0
  lin : ∀ {x y} (m t : Int), R x → R y → R fun j => m * x j + t * y j
  div : ∀ {x} {s : Int}, s ≠ 0 → (R fun j => s * x j) → R x
theorem Spn.clo {S R : (Nat → Int) → Prop} (c : Cls0 R) {x : Nat → Int} (h : Spn S x) (k : ∀ y, S y → R y) : R x := by
  induction h with
  | mem h => exact k _ h
  | zero => exact c.zero
  | lin m t _ _ i1 i2 => exact c.lin m t i1 i2
  | div s0 _ i => exact c.div s0 i
/-- reduced rows, in any order -/
structure Rref (W : Nat) (F : List Rw) : Prop where
  len : ∀ f ∈ F, f.length = W
  pos : ∀ f ∈ F, 0 < vl f (piv f)
  off : F.Pairwise fun f h => vl f (piv h) = 0 ∧ vl h (piv f) = 0
theorem clr_zero {W : Nat} : ∀ {F : List Rw} {x : Rw}, (∀ f ∈ F, f.length = W) → (∀ f ∈ F, 0 < vl f (piv f)) → x.length = W → ∀ {p : Nat}, vl x p = 0 → (∀ f ∈ F, vl f p = 0) → vl (clr F x) p = 0
  | [], _, _, _, _, _, h, _ => h
  | f :: F, x, hl, hp, lx, p, h, z => by
    obtain ⟨m, t, _, l, e, _⟩ := wo_lin (x := x) (h := f) (lx.trans (hl f (List.mem_cons_self ..)).symm) (hp f (List.mem_cons_self ..))
    refine clr_zero (F := F) (fun g hg => hl g (List.mem_cons_of_mem _ hg)) (fun g hg => hp g (List.mem_cons_of_mem _ hg)) (l.trans lx) ?_ fun g hg => z g (List.mem_cons_of_mem _ hg)
    rw [e, h, z f (List.mem_cons_self ..)]; simp
theorem clr_spec {W : Nat} : ∀ {F : List Rw} {x : Rw}, Rref W F → x.length = W → (clr F x).length = W ∧ (∀ f ∈ F, vl (clr F x) (piv f) = 0) ∧ (∀ T : (Nat → Int) → Prop, (∀ f ∈ F, Spn T (vl f)) → (Spn T (vl x) ↔ Spn T (vl (clr F x))))
  | [], x, _, lx => ⟨lx, (fun f hf => nomatch hf), fun T _ => Iff.rfl⟩
  | f :: F, x, R, lx => by
    have hf := List.mem_cons_self (a := f) (l := F)
    obtain ⟨m, t, m0, l, e, z⟩ := wo_lin (x := x) (h := f) (p := piv f) (lx.trans (R.len f hf).symm) (R.pos f hf)
    have o := List.pairwise_cons.mp R.off
    have R' : Rref W F := ⟨fun g hg => R.len g (List.mem_cons_of_mem _ hg), fun g hg => R.pos g (List.mem_cons_of_mem _ hg), o.2⟩
    obtain ⟨h1, h2, h3⟩ := clr_spec (F := F) (x := wo x (piv f) f) R' (l.trans lx)
    refine ⟨h1, fun g hg => ?_, fun T k => ?_⟩
    · rcases List.mem_cons.mp hg with rfl | hg
      · exact clr_zero R'.len R'.pos (l.trans lx) z fun h hh => (o.1 h hh).2
      · exact h2 g hg
    · refine Iff.trans ?_ (h3 T fun g hg => k g (List.mem_cons_of_mem _ hg))
      have kf := k f hf
      constructor
      · intro s
        exact (Spn.lin m t s kf).of e
      · intro s
        have w := Spn.lin 1 (-t) s kf
        refine Spn.div (s := m) (by omega) (w.of fun j => ?_)
        rw [e]
        rw [Int.one_mul, Int.neg_mul]; omega
theorem Spn.prim {T : (Nat → Int) → Prop} {x : Rw} (h : ¬ allZ x) : Spn T (vl (prim x)) ↔ Spn T (vl x) := by
  have e := prim_vl h
  constructor
  · intro s
    exact (Spn.lin (sgR x) 0 s s).of fun j => by rw [Int.zero_mul, Int.add_zero, e]
  · intro s
    exact .div (sgR_ne h) (s.of e)
theorem wo_nz {x p : Rw} (hl : x.length = p.length) (hp : 0 < vl p (piv p)) (hx : 0 < vl x (piv x)) (pz : vl p (piv x) = 0) : ¬ allZ (wo x (piv p) p) := by
  obtain ⟨m, t, m0, _, e, _⟩ := wo_lin (x := x) (h := p) hl hp
  refine not_allZ (j := piv x) ?_
  rw [e, pz, Int.mul_zero, Int.add_zero]
  exact fun z => (Int.mul_eq_zero.mp z).elim (by omega) (by omega)
/-- one of the rows, a new one behind -/
theorem upR_spec {W : Nat} {h p : Rw} (lh : h.length = W) (lp : p.length = W) (hh : 0 < vl h (piv h)) (hp : 0 < vl p (piv p)) (pz : vl p (piv h) = 0) :
    (upR p h).length = W ∧ piv (upR p h) = piv h ∧ 0 < vl (upR p h) (piv h) ∧ vl (upR p h) (piv p) = 0 ∧ (∀ j, vl h j = 0 → vl p j = 0 → vl (upR p h) j = 0) ∧ ∀ T : (Nat → Int) → Prop, Spn T (vl p) → (Spn T (vl h) ↔ Spn T (vl (upR p h))) := by
  unfold upR
  by_cases z : vl h (piv p) = 0
  · rw [if_pos z]
    exact ⟨lh, rfl, hh, z, fun j e _ => e, fun T _ => Iff.rfl⟩
  rw [if_neg z]
  obtain ⟨m, t, m0, l, e, ez⟩ := wo_lin (x := h) (h := p) (p := piv p) (lh.trans lp.symm) hp
  have nz := wo_nz (lh.trans lp.symm) hp hh pz
  have lt : piv h < piv p := by
    rcases Nat.lt_trichotomy (piv h) (piv p) with w | w | w
    · exact w
    · rw [w] at pz; omega
    · exact absurd ((piv_spec (not_allZ (j := piv h) (by omega))).2.2 _ w) z
  have pj : ∀ j, j ≤ piv h → vl p j = 0 := fun j hj => (piv_spec (not_allZ (j := piv p) (by omega))).2.2 j (by omega)
  have hj := (piv_spec (x := h) (not_allZ (j := piv h) (by omega))).2.2
  have pw : piv (wo h (piv p) p) = piv h := piv_is (by
    rw [e, pz, Int.mul_zero, Int.add_zero]
    exact fun w => (Int.mul_eq_zero.mp w).elim (by omega) (by omega)) fun j w => by rw [e, hj j w, pj j (by omega)]; simp
  have pv := prim_vl nz
  have back : ∀ j, vl (wo h (piv p) p) j = 0 → vl (prim (wo h (piv p) p)) j = 0 := fun j w => by
    have := pv j
    rw [w] at this
    exact (Int.mul_eq_zero.mp this).resolve_left (sgR_ne nz)
  refine ⟨by rw [prim_len, l, lh], by rw [prim_piv nz, pw], ?_, back _ ez, fun j h1 h2 => back j (by rw [e, h1, h2]; simp), fun T sp => ?_⟩
  · have := prim_pos nz
    rw [pw] at this; exact this
  · refine Iff.trans ?_ (Spn.prim nz).symm
    constructor
    · intro s; exact (Spn.lin m t s sp).of e
    · intro s
      refine Spn.div (s := m) (by omega) ((Spn.lin 1 (-t) s sp).of fun j => ?_)
      rw [e, Int.one_mul, Int.neg_mul]; omega
theorem step_spec {W : Nat} {F : List Rw} {r : Rw} (R : Rref W F) (lr : r.length = W) : Rref W (stepS F r) ∧ ∀ T : (Nat → Int) → Prop, ((∀ f ∈ F, Spn T (vl f)) ∧ Spn T (vl r)) ↔ ∀ f ∈ stepS F r, Spn T (vl f) := by
  obtain ⟨c1, c2, c3⟩ := clr_spec R lr
  unfold stepS
  by_cases z : allZ (clr F r)
  · rw [if_pos z]
    refine ⟨R, fun T => ⟨fun h => h.1, fun h => ⟨h, ?_⟩⟩⟩
    exact (c3 T h).mpr (Spn.zero.of (allZ_vl z))
  rw [if_neg z]
  have lp : (prim (clr F r)).length = W := (prim_len _).trans c1
  have pp : 0 < vl (prim (clr F r)) (piv (prim (clr F r))) := by rw [prim_piv z]; exact prim_pos z
  have pz : ∀ f ∈ F, vl (prim (clr F r)) (piv f) = 0 := fun f hf => by
    have e := prim_vl z (piv f)
    rw [c2 f hf] at e
    exact (Int.mul_eq_zero.mp e).resolve_left (sgR_ne z)
  have sp : ∀ T : (Nat → Int) → Prop, Spn T (vl (prim (clr F r))) ↔ Spn T (vl (clr F r)) := fun T => Spn.prim z
  generalize prim (clr F r) = p at lp pp pz sp
  have U : ∀ f ∈ F, _ := fun f hf => upR_spec (R.len f hf) lp (R.pos f hf) pp (pz f hf)
  refine ⟨⟨fun g hg => ?_, fun g hg => ?_, ?_⟩, fun T => ⟨fun h g hg => ?_, fun h => ?_⟩⟩
  · rcases List.mem_append.mp hg with hg | hg
    · obtain ⟨f, hf, rfl⟩ := List.mem_map.mp hg
      exact (U f hf).1
    · rw [List.mem_singleton.mp hg]; exact lp
  · rcases List.mem_append.mp hg with hg | hg
    · obtain ⟨f, hf, rfl⟩ := List.mem_map.mp hg
      rw [(U f hf).2.1]; exact (U f hf).2.2.1
    · rw [List.mem_singleton.mp hg]; exact pp
  · rw [List.pairwise_append]
    refine ⟨?_, List.pairwise_singleton .., fun g hg q hq => ?_⟩
    · rw [List.pairwise_map]
      refine List.Pairwise.imp_of_mem (fun {f h} hf hh o => ?_) R.off
      rw [(U f hf).2.1, (U h hh).2.1]
      exact ⟨(U f hf).2.2.2.2.1 _ o.1 (pz h hh), (U h hh).2.2.2.2.1 _ o.2 (pz f hf)⟩
    · obtain ⟨f, hf, rfl⟩ := List.mem_map.mp hg
      rw [List.mem_singleton.mp hq, (U f hf).2.1]
      exact ⟨(U f hf).2.2.2.1, pz f hf⟩
  · have hp : Spn T (vl p) := (sp T).mpr ((c3 T h.1).mp h.2)
    rcases List.mem_append.mp hg with hg | hg
    · obtain ⟨f, hf, rfl⟩ := List.mem_map.mp hg
      exact ((U f hf).2.2.2.2.2 T hp).mp (h.1 f hf)
    · rw [List.mem_singleton.mp hg]; exact hp
  · have hp : Spn T (vl p) := h p (List.mem_append_right _ (List.mem_singleton.mpr rfl))
    have hF : ∀ f ∈ F, Spn T (vl f) := fun f hf => ((U f hf).2.2.2.2.2 T hp).mpr (h _ (List.mem_append_left _ (List.mem_map.mpr ⟨f, hf, rfl⟩)))
    exact ⟨hF, (c3 T hF).mpr ((sp T).mp hp)⟩
theorem spn_go {W : Nat} : ∀ {rows F : List Rw}, Rref W F → (∀ r ∈ rows, r.length = W) → Rref W (rows.foldl stepS F) ∧ ∀ T : (Nat → Int) → Prop, ((∀ f ∈ F, Spn T (vl f)) ∧ ∀ r ∈ rows, Spn T (vl r)) ↔ ∀ f ∈ rows.foldl stepS F, Spn T (vl f)
  | [], F, R, _ => ⟨R, fun T => ⟨fun h => h.1, fun h => ⟨h, fun r hr => nomatch hr⟩⟩⟩
  | r :: rows, F, R, hl => by
    obtain ⟨R1, s1⟩ := step_spec R (hl r (List.mem_cons_self ..))
    obtain ⟨R2, s2⟩ := spn_go (rows := rows) R1 fun q hq => hl q (List.mem_cons_of_mem _ hq)
    refine ⟨R2, fun T => Iff.trans ?_ (s2 T)⟩
    rw [← s1 T, and_assoc]
    exact and_congr_right fun _ => ⟨fun h => ⟨h r (List.mem_cons_self ..), fun q hq => h q (List.mem_cons_of_mem _ hq)⟩, fun h q hq => by
      rcases List.mem_cons.mp hq with rfl | hq
      · exact h.1
      · exact h.2 q hq⟩
theorem rref_nil (W : Nat) : Rref W [] := ⟨(fun f hf => nomatch hf), (fun f hf => nomatch hf), .nil⟩
/-- span_of tells reduced rows of the same span -/
theorem spn_spec {W : Nat} {rows : List Rw} (hl : ∀ r ∈ rows, r.length = W) : Rref W (spn rows) ∧ (∀ r ∈ rows, Spn (inR (spn rows)) (vl r)) ∧ ∀ f ∈ spn rows, Spn (inR rows) (vl f) := by
  obtain ⟨R, s⟩ := spn_go (rref_nil W) hl
  refine ⟨R, ?_, ?_⟩
  · exact ((s (inR (spn rows))).mpr fun f hf => .mem ⟨f, hf, rfl⟩).2
  · exact (s (inR rows)).mp ⟨(fun f hf => nomatch hf), fun r hr => .mem ⟨r, hr, rfl⟩⟩
/-- sums of multiples of rows -/
def sumF (as : List Int) (F : List Rw) (j : Nat) : Int := (List.zipWith (fun a f => a * vl f j) as F).sum
theorem sumF_lin : ∀ {as bs : List Int} {F : List Rw} (m t : Int) (j : Nat), as.length = F.length → bs.length = F.length → sumF (List.zipWith (fun a b => m * a + t * b) as bs) F j = m * sumF as F j + t * sumF bs F j
  | [], [], [], m, t, j, _, _ => by unfold sumF; simp
  | a :: as, b :: bs, f :: F, m, t, j, h1, h2 => by
    have ih := sumF_lin (as := as) (bs := bs) (F := F) m t j (by simpa using h1) (by simpa using h2)
    unfold sumF at ih ⊢
    simp only [List.zipWith_cons_cons, List.sum_cons, ih]
    rw [Int.mul_add, Int.mul_add, Int.add_mul, Int.mul_assoc, Int.mul_assoc]
    omega
  | [], _ :: _, [], _, _, _, _, h => nomatch h
  | _ :: _, _, [], _, _, _, h, _ => nomatch h
  | [], _, _ :: _, _, _, _, h, _ => nomatch h
  | _ :: _, [], _ :: _, _, _, _, _, h => nomatch h
theorem sumF_zero : ∀ (F : List Rw) (j : Nat), sumF (F.map fun _ => 0) F j = 0
  | [], _ => rfl
  | f :: F, j => by
    have ih := sumF_zero F j
    unfold sumF at ih ⊢
    simp only [List.map_cons, List.zipWith_cons_cons, List.sum_cons, ih]; simp
theorem sumF_one : ∀ {F : List Rw} {f : Rw}, f ∈ F → ∃ as : List Int, as.length = F.length ∧ ∀ j, vl f j = sumF as F j
  | g :: F, f, h => by
    rcases List.mem_cons.mp h with rfl | h
    · refine ⟨1 :: F.map fun _ => 0, by simp, fun j => ?_⟩
      have := sumF_zero F j
      unfold sumF at this ⊢
      simp only [List.zipWith_cons_cons, List.sum_cons, this]; simp
    · obtain ⟨as, l, e⟩ := sumF_one h
      refine ⟨0 :: as, by simp [l], fun j => ?_⟩
      rw [e j]
      unfold sumF
      simp
/-- a multiple of what lies in the span is a sum of multiples of the rows -/
theorem span_sum {F : List Rw} {x : Nat → Int} (h : Spn (inR F) x) : ∃ (m : Int) (as : List Int), m ≠ 0 ∧ as.length = F.length ∧ ∀ j, m * x j = sumF as F j := by
  refine Spn.clo (R := fun x => ∃ (m : Int) (as : List Int), m ≠ 0 ∧ as.length = F.length ∧ ∀ j, m * x j = sumF as F j) ⟨?_, ?_, ?_⟩ h ?_
  · exact ⟨1, F.map fun _ => 0, by decide, by simp, fun j => by rw [sumF_zero, Int.mul_zero]⟩
  · rintro x y p q ⟨m, as, m0, la, ea⟩ ⟨n, bs, n0, lb, eb⟩
    refine ⟨m * n, List.zipWith (fun a b => (p * n) * a + (q * m) * b) as bs, Int.mul_ne_zero m0 n0, by rw [List.length_zipWith, la, lb, Nat.min_self], fun j => ?_⟩
    rw [sumF_lin _ _ _ la lb, ← ea, ← eb]
    grind
  · rintro x s s0 ⟨m, as, m0, la, ea⟩
    refine ⟨m * s, as, Int.mul_ne_zero m0 s0, la, fun j => ?_⟩
    rw [← ea, Int.mul_assoc]
  · rintro y ⟨f, hf, rfl⟩
    obtain ⟨as, l, e⟩ := sumF_one hf
    exact ⟨1, as, by decide, l, fun j => by rw [Int.one_mul]; exact e j⟩
/-- at a pivot only its own row tells -/
theorem sumF_at : ∀ {F : List Rw} {as : List Int} {i : Nat} {f : Rw} {a : Int} {p : Nat}, as.length = F.length → F[i]? = some f → as[i]? = some a → (∀ k g, F[k]? = some g → k ≠ i → vl g p = 0) → sumF as F p = a * vl f p
  | [], _, _, _, _, _, _, h, _, _ => by simp at h
  | g :: F, [], _, _, _, _, h, _, _, _ => nomatch h
  | g :: F, b :: as, 0, f, a, p, hl, hf, ha, z => by
    cases Option.some.inj hf
    cases Option.some.inj ha
    have r : ∀ {F : List Rw} {as : List Int}, (∀ g ∈ F, vl g p = 0) → sumF as F p = 0 := fun {F} => by
      induction F with
      | nil => intro as _; unfold sumF; cases as <;> rfl
      | cons h F ih =>
        intro as k
        cases as with
        | nil => rfl
        | cons c as =>
          have := ih (as := as) fun g hg => k g (List.mem_cons_of_mem _ hg)
          unfold sumF at this ⊢
          rw [List.zipWith_cons_cons, List.sum_cons, this, k h (List.mem_cons_self ..)]; simp
    have w := r (F := F) (as := as) fun h hh => by
      obtain ⟨k, hk⟩ := List.mem_iff_getElem?.mp hh
      exact z (k + 1) h (by simpa using hk) (by omega)
    unfold sumF at w ⊢
    rw [List.zipWith_cons_cons, List.sum_cons, w, Int.add_zero]
  | g :: F, b :: as, i + 1, f, a, p, hl, hf, ha, z => by
    have ih := sumF_at (F := F) (as := as) (i := i) (f := f) (a := a) (p := p) (by simpa using hl) (by simpa using hf) (by simpa using ha) fun k h hk ne => z (k + 1) h (by simpa using hk) (by omega)
    have w := z 0 g rfl (by omega)
    unfold sumF at ih ⊢
    rw [List.zipWith_cons_cons, List.sum_cons, ih, w]; simp
theorem rref_off {W : Nat} {F : List Rw} (R : Rref W F) {i k : Nat} {f g : Rw} (hi : F[i]? = some f) (hk : F[k]? = some g) (ne : k ≠ i) : vl g (piv f) = 0 := by
  obtain ⟨li, ei⟩ := List.getElem?_eq_some_iff.mp hi
  obtain ⟨lk, ek⟩ := List.getElem?_eq_some_iff.mp hk
  have o := List.pairwise_iff_getElem.mp R.off
  rcases Nat.lt_or_gt_of_ne ne with w | w
  · have := o k i lk li w
    rw [ei, ek] at this; exact this.1
  · have := o i k li lk w
    rw [ei, ek] at this; exact this.2
/-- what is 0 at all pivots but one is a multiple of this one's row -/
theorem span_one {W : Nat} {F : List Rw} (R : Rref W F) {x : Nat → Int} (h : Spn (inR F) x) {i : Nat} {f : Rw} (hi : F[i]? = some f) (z : ∀ k g, F[k]? = some g → k ≠ i → x (piv g) = 0) : ∀ j, vl f (piv f) * x j = x (piv f) * vl f j := by
  obtain ⟨m, as, m0, la, e⟩ := span_sum h
  have ai : ∀ {k : Nat} {g : Rw}, F[k]? = some g → ∃ a, as[k]? = some a ∧ m * x (piv g) = a * vl g (piv g) := fun {k g} hk => by
    have lk : k < as.length := by have := (List.getElem?_eq_some_iff.mp hk).1; omega
    refine ⟨as[k], List.getElem?_eq_getElem lk, ?_⟩
    rw [e]
    exact sumF_at la hk (List.getElem?_eq_getElem lk) fun k' g' hk' ne => rref_off R hk hk' ne
  obtain ⟨a, ha, ea⟩ := ai hi
  have zero : ∀ {k : Nat} {g : Rw} {b : Int}, F[k]? = some g → as[k]? = some b → k ≠ i → b = 0 := fun {k g b} hk hb ne => by
    obtain ⟨b', hb', eb⟩ := ai hk
    rw [hb] at hb'
    cases Option.some.inj hb'
    rw [z k g hk ne, Int.mul_zero] at eb
    have p := R.pos g (List.mem_of_getElem? hk)
    exact (Int.mul_eq_zero.mp eb.symm).resolve_right (by omega)
  intro j
  have sj : sumF as F j = a * vl f j := by
    have go : ∀ {F : List Rw} {as : List Int} {i : Nat}, as.length = F.length → F[i]? = some f → as[i]? = some a → (∀ k b, as[k]? = some b → k ≠ i → b = 0) → sumF as F j = a * vl f j := fun {F} => by
      induction F with
      | nil => intro as i _ h; simp at h
      | cons g F ih =>
        intro as i hl hf ha z
        cases as with
        | nil => cases hl
        | cons b as =>
          cases i with
          | zero =>
            cases Option.some.inj hf
            cases Option.some.inj ha
            have r : ∀ {as : List Int} {F : List Rw}, (∀ b ∈ as, b = 0) → sumF as F j = 0 := fun {as} => by
              induction as with
              | nil => intro F _; unfold sumF; cases F <;> rfl
              | cons c as ih2 =>
                intro F k
                cases F with
                | nil => rfl
                | cons h F =>
                  have := ih2 (F := F) fun g hg => k g (List.mem_cons_of_mem _ hg)
                  unfold sumF at this ⊢
                  rw [List.zipWith_cons_cons, List.sum_cons, this, k c (List.mem_cons_self ..)]; simp
            have w := r (as := as) (F := F) fun b hb => by
              obtain ⟨k, hk⟩ := List.mem_iff_getElem?.mp hb
              exact z (k + 1) b (by simpa using hk) (by omega)
            unfold sumF at w ⊢
            rw [List.zipWith_cons_cons, List.sum_cons, w, Int.add_zero]
          | succ i =>
            have := ih (as := as) (i := i) (by simpa using hl) (by simpa using hf) (by simpa using ha) fun k b hk ne => z (k + 1) b (by simpa using hk) (by omega)
            have w := z 0 b rfl (by omega)
            unfold sumF at this ⊢
            rw [List.zipWith_cons_cons, List.sum_cons, this, w]; simp
    refine go la hi ha fun k b hk ne => ?_
    have lk : k < F.length := by have := (List.getElem?_eq_some_iff.mp hk).1; omega
    exact zero (List.getElem?_eq_getElem lk) hk ne
  have e1 := e j
  rw [sj] at e1
  -- m x j = a f j, m x p = a f p
  have : m * (vl f (piv f) * x j) = m * (x (piv f) * vl f j) := by
    have u1 : m * (vl f (piv f) * x j) = vl f (piv f) * (m * x j) := by grind
    have u2 : m * (x (piv f) * vl f j) = (m * x (piv f)) * vl f j := by grind
    rw [u1, u2, e1, ea]; grind
  exact Int.eq_of_mul_eq_mul_left m0 this
theorem span_none {W : Nat} {F : List Rw} (R : Rref W F) {x : Nat → Int} (h : Spn (inR F) x) (z : ∀ g ∈ F, x (piv g) = 0) : ∀ j, x j = 0 := by
  intro j
  cases F with
  | nil =>
    obtain ⟨m, as, m0, la, e⟩ := span_sum h
    have := e j
    have w : sumF as [] j = 0 := by unfold sumF; cases as <;> rfl
    rw [w] at this
    exact (Int.mul_eq_zero.mp this).resolve_left m0
  | cons f F =>
    have := span_one R h (i := 0) (f := f) rfl (fun k g hk _ => z g (List.mem_of_getElem? hk)) j
    rw [z f (List.mem_cons_self ..), Int.zero_mul] at this
    have p := R.pos f (List.mem_cons_self ..)
    exact (Int.mul_eq_zero.mp this).resolve_left (by omega)
end AL
namespace AL
/-! ### sizes -/
def Bb (b : Nat) (x : Rw) : Prop := ∀ j, (vl x j).natAbs < 2 ^ b
theorem fdiv_le {g v : Int} (g0 : g ≠ 0) (h : g ∣ v) : (v.fdiv g).natAbs ≤ v.natAbs := by
  have e := fdiv_ex g0 h
  generalize v.fdiv g = q at e
  rw [← e, Int.natAbs_mul]
  exact Nat.le_mul_of_pos_left _ (by omega)
theorem Bb.mono {b c : Nat} {x : Rw} (h : Bb b x) (le : b ≤ c) : Bb c x := fun j => Nat.lt_of_lt_of_le (h j) (Nat.pow_le_pow_right (by decide) le)
theorem woG_ne {x h : Rw} {p : Nat} (hp : 0 < vl h p) : ((woG x p h : Nat) : Int) ≠ 0 ∧ ((woG x p h : Nat) : Int) ∣ vl h p ∧ ((woG x p h : Nat) : Int) ∣ vl x p := by
  have gp : 0 < woG x p h := Nat.gcd_pos_of_pos_right _ (by omega)
  exact ⟨by omega, Int.ofNat_dvd_left.mpr (Nat.gcd_dvd_right _ _), Int.ofNat_dvd_left.mpr (Nat.gcd_dvd_left _ _)⟩
theorem wo_bb {x h : Rw} {p a b : Nat} (hl : x.length = h.length) (hp : 0 < vl h p) (bx : Bb a x) (bh : Bb b h) : Bb (a + b + 1) (wo x p h) := by
  unfold wo
  by_cases z : vl x p = 0
  · rw [if_pos z]; exact bx.mono (by omega)
  rw [if_neg z]
  obtain ⟨g0, d1, d2⟩ := woG_ne (x := x) hp
  intro j
  rw [comb_vl hl]
  have m1 := fdiv_le g0 d1
  have m2 := fdiv_le g0 d2
  have h1 : ((vl h p).fdiv (woG x p h) * vl x j).natAbs ≤ (2 ^ b - 1) * (2 ^ a - 1) := by
    rw [Int.natAbs_mul]
    exact Nat.mul_le_mul (by have := bh p; omega) (by have := bx j; omega)
  have h2 : (-((vl x p).fdiv (woG x p h)) * vl h j).natAbs ≤ (2 ^ a - 1) * (2 ^ b - 1) := by
    rw [Int.natAbs_mul, Int.natAbs_neg]
    exact Nat.mul_le_mul (by have := bx p; omega) (by have := bh j; omega)
  have tri := Int.natAbs_add_le ((vl h p).fdiv (woG x p h) * vl x j) (-((vl x p).fdiv (woG x p h)) * vl h j)
  have pa := Nat.two_pow_pos a
  have pb := Nat.two_pow_pos b
  have e : 2 ^ (a + b + 1) = 2 * (2 ^ a * 2 ^ b) := by rw [Nat.pow_succ, Nat.pow_add, Nat.mul_comm]
  have le1 : (2 ^ b - 1) * (2 ^ a - 1) ≤ (2 ^ b - 1) * 2 ^ a := Nat.mul_le_mul_left _ (by omega)
  have le2 : (2 ^ a - 1) * (2 ^ b - 1) ≤ (2 ^ b - 1) * 2 ^ a := by rw [Nat.mul_comm]; exact le1
  have le3 : (2 ^ b - 1) * 2 ^ a = 2 ^ a * 2 ^ b - 2 ^ a := by rw [Nat.sub_mul, Nat.one_mul, Nat.mul_comm]
  have le4 : 2 ^ a ≤ 2 ^ a * 2 ^ b := Nat.le_mul_of_pos_right _ pb
  rw [e]
  omega
theorem prim_bb {x : Rw} {b : Nat} (h : ¬ allZ x) (bx : Bb b x) : Bb b (prim x) := fun j => by
  have e := prim_vl h j
  have g := sgR_ne h
  have : (vl (prim x) j).natAbs ≤ (vl x j).natAbs := by
    rw [← e, Int.natAbs_mul]
    exact Nat.le_mul_of_pos_left _ (by omega)
  have := bx j
  omega
theorem clr_bb {W m : Nat} : ∀ {F : List Rw} {x : Rw} {b : Nat}, (∀ f ∈ F, f.length = W) → (∀ f ∈ F, 0 < vl f (piv f)) → (∀ f ∈ F, Bb m f) → x.length = W → Bb b x → Bb (b + F.length * (m + 1)) (clr F x)
  | [], x, b, _, _, _, _, bx => by simpa [clr] using bx
  | f :: F, x, b, hl, hp, hb, lx, bx => by
    have hf := List.mem_cons_self (a := f) (l := F)
    obtain ⟨_, _, _, l, _, _⟩ := wo_lin (x := x) (h := f) (p := piv f) (lx.trans (hl f hf).symm) (hp f hf)
    have w := clr_bb (F := F) (x := wo x (piv f) f) (b := b + m + 1) (fun g hg => hl g (List.mem_cons_of_mem _ hg)) (fun g hg => hp g (List.mem_cons_of_mem _ hg)) (fun g hg => hb g (List.mem_cons_of_mem _ hg)) (l.trans lx) (wo_bb (lx.trans (hl f hf).symm) (hp f hf) bx (hb f hf))
    refine w.mono ?_
    rw [List.length_cons, Nat.succ_mul]; omega
def szN (b : Nat) : Nat → Nat
  | 0 => 0
  | k + 1 => (k + 1) * (szN b k + 1) + b
theorem szN_le (b k : Nat) : szN b k ≤ szN b (k + 1) := by
  show szN b k ≤ (k + 1) * (szN b k + 1) + b
  have : 1 * (szN b k + 1) ≤ (k + 1) * (szN b k + 1) := Nat.mul_le_mul_right _ (by omega)
  omega
theorem szN_mono (b : Nat) {k l : Nat} (h : k ≤ l) : szN b k ≤ szN b l := by
  induction h with
  | refl => exact Nat.le_refl _
  | step _ ih => exact Nat.le_trans ih (szN_le b _)
theorem b_szN (b k : Nat) : b ≤ szN b (k + 1) := by show b ≤ (k + 1) * (szN b k + 1) + b; omega
theorem step_bb {W b k : Nat} {F : List Rw} {r : Rw} (R : Rref W F) (lr : r.length = W) (lF : F.length ≤ k) (bF : ∀ f ∈ F, Bb (szN b k) f) (br : Bb b r) : (stepS F r).length ≤ k + 1 ∧ ∀ f ∈ stepS F r, Bb (szN b (k + 1)) f := by
  obtain ⟨c1, c2, c3⟩ := clr_spec R lr
  have cb := clr_bb R.len R.pos bF lr br
  have cb' : Bb (b + k * (szN b k + 1)) (clr F r) := cb.mono (Nat.add_le_add_left (Nat.mul_le_mul_right _ lF) _)
  unfold stepS
  by_cases z : allZ (clr F r)
  · rw [if_pos z]
    exact ⟨by omega, fun f hf => (bF f hf).mono (szN_le b k)⟩
  rw [if_neg z]
  refine ⟨by rw [List.length_append, List.length_map]; simp; omega, fun g hg => ?_⟩
  have pb := prim_bb z cb'
  have lp : (prim (clr F r)).length = W := (prim_len _).trans c1
  have pp : 0 < vl (prim (clr F r)) (piv (prim (clr F r))) := by rw [prim_piv z]; exact prim_pos z
  have pz : ∀ f ∈ F, vl (prim (clr F r)) (piv f) = 0 := fun f hf => by
    have e := prim_vl z (piv f)
    rw [c2 f hf] at e
    exact (Int.mul_eq_zero.mp e).resolve_left (sgR_ne z)
  have e2 : szN b (k + 1) = szN b k + (b + k * (szN b k + 1)) + 1 := by
    show (k + 1) * (szN b k + 1) + b = _
    rw [Nat.succ_mul]; omega
  rcases List.mem_append.mp hg with hg | hg
  · obtain ⟨f, hf, rfl⟩ := List.mem_map.mp hg
    unfold upR
    by_cases y : vl f (piv (prim (clr F r))) = 0
    · rw [if_pos y]; exact (bF f hf).mono (szN_le b k)
    · rw [if_neg y]
      refine prim_bb (wo_nz ((R.len f hf).trans lp.symm) pp (R.pos f hf) (pz f hf)) ?_
      have w := wo_bb (p := piv (prim (clr F r))) ((R.len f hf).trans lp.symm) pp (bF f hf) pb
      rw [e2]; exact w
  · rw [List.mem_singleton.mp hg, e2]
    exact pb.mono (by omega)
theorem spn_bb {W b : Nat} : ∀ {rows F : List Rw} {k : Nat}, Rref W F → F.length ≤ k → (∀ f ∈ F, Bb (szN b k) f) → (∀ r ∈ rows, r.length = W) → (∀ r ∈ rows, Bb b r) → (rows.foldl stepS F).length ≤ k + rows.length ∧ ∀ f ∈ rows.foldl stepS F, Bb (szN b (k + rows.length)) f
  | [], F, k, _, lF, bF, _, _ => ⟨by simpa using lF, by simpa using bF⟩
  | r :: rows, F, k, R, lF, bF, hl, hb => by
    obtain ⟨s1, s2⟩ := step_bb R (hl r (List.mem_cons_self ..)) lF bF (hb r (List.mem_cons_self ..))
    have w := spn_bb (rows := rows) (k := k + 1) (step_spec R (hl r (List.mem_cons_self ..))).1 s1 s2 (fun q hq => hl q (List.mem_cons_of_mem _ hq)) fun q hq => hb q (List.mem_cons_of_mem _ hq)
    rw [List.length_cons, show k + (rows.length + 1) = k + 1 + rows.length by omega]
    exact w
theorem spn_size {W b : Nat} {rows : List Rw} (hl : ∀ r ∈ rows, r.length = W) (hb : ∀ r ∈ rows, Bb b r) : (spn rows).length ≤ rows.length ∧ ∀ f ∈ spn rows, Bb (szN b rows.length) f := by
  have := spn_bb (rows := rows) (F := []) (k := 0) (rref_nil W) (Nat.le_refl _) (fun f hf => nomatch hf) hl hb
  rw [Nat.zero_add] at this
  exact this
theorem any_allZ (x : Rw) : (x.any fun k => decide (k ≠ 0)) = decide (¬ allZ x) := by
  rw [Bool.eq_iff_iff, List.any_eq_true, decide_eq_true_iff]
  constructor
  · rintro ⟨v, hv, e⟩ z
    exact of_decide_eq_true e (z v hv)
  · intro h
    obtain ⟨h1, h2, _⟩ := piv_spec h
    exact ⟨_, vl_mem h1, decide_eq_true h2⟩
theorem gcdR_take {x : Rw} {i : Nat} {v : Int} (h : x[i]? = some v) : gcdR (x.take (i + 1)) = Nat.gcd (gcdR (x.take i)) v.natAbs := by
  unfold gcdR
  rw [List.take_add_one, h, List.foldl_append]; rfl
end AL
set_option Elab.async false
set_option linter.all false
set_option maxRecDepth 100000
/-! determinants: by the first row, over lists of places; spans and minors -/
namespace AL
abbrev Fn := Nat → Int
/-- a first row, expanded -/
def exq (r : Fn) : (List Nat → Int) → List Nat → Int
  | _, [] => 0
  | F, p :: P => r p * F P - exq r (fun Q => F (p :: Q)) P
def det : List Fn → List Nat → Int
  | [], [] => 1
  | [], _ :: _ => 0
  | r :: R, P => exq r (det R) P
theorem exq_congr {r : Fn} : ∀ {P : List Nat} {F G : List Nat → Int}, (∀ Q, Q.length + 1 = P.length → (∀ q ∈ Q, q ∈ P) → F Q = G Q) → exq r F P = exq r G P
  | [], _, _, _ => rfl
  | p :: P, F, G, h => by
    show r p * F P - exq r _ P = r p * G P - exq r _ P
    rw [h P rfl fun q hq => List.mem_cons_of_mem _ hq, exq_congr (P := P) (F := fun Q => F (p :: Q)) (G := fun Q => G (p :: Q)) fun Q l k => h (p :: Q) (by rw [List.length_cons, List.length_cons, l]) fun q hq => by
      rcases List.mem_cons.mp hq with e | e
      · rw [e]; exact List.mem_cons_self ..
      · exact List.mem_cons_of_mem _ (k q e)]
theorem exq_lin (r : Fn) (a b : Int) : ∀ (P : List Nat) (F G : List Nat → Int), exq r (fun Q => a * F Q + b * G Q) P = a * exq r F P + b * exq r G P
  | [], _, _ => by show (0 : Int) = a * 0 + b * 0; omega
  | p :: P, F, G => by
    show r p * (a * F P + b * G P) - exq r (fun Q => a * F (p :: Q) + b * G (p :: Q)) P = a * (r p * F P - exq r (fun Q => F (p :: Q)) P) + b * (r p * G P - exq r (fun Q => G (p :: Q)) P)
    rw [exq_lin r a b P]
    grind
theorem exq_zero (r : Fn) : ∀ P : List Nat, exq r (fun _ => 0) P = 0
  | [] => rfl
  | p :: P => by show r p * 0 - exq r (fun _ => 0) P = 0; rw [exq_zero r P]; omega
theorem exq_rlin (r s : Fn) (a b : Int) : ∀ (P : List Nat) (F : List Nat → Int), exq (fun j => a * r j + b * s j) F P = a * exq r F P + b * exq s F P
  | [], _ => by show (0 : Int) = a * 0 + b * 0; omega
  | p :: P, F => by
    show (a * r p + b * s p) * F P - exq (fun j => a * r j + b * s j) (fun Q => F (p :: Q)) P = a * (r p * F P - exq r (fun Q => F (p :: Q)) P) + b * (s p * F P - exq s (fun Q => F (p :: Q)) P)
    rw [exq_rlin r s a b P]
    grind
theorem exq_swap (x y : Fn) : ∀ (P : List Nat) (F : List Nat → Int), exq x (fun Q => exq y F Q) P = - exq y (fun Q => exq x F Q) P
  | [], _ => rfl
  | p :: P, F => by
    have ih := exq_swap x y P (fun Q => F (p :: Q))
    have e1 : exq x (fun Q => exq y F (p :: Q)) P = y p * exq x F P + (-1) * exq x (fun Q => exq y (fun Q => F (p :: Q)) Q) P := by
      rw [← exq_lin]
      exact exq_congr fun Q _ _ => by show y p * F Q - _ = _; grind
    have e2 : exq y (fun Q => exq x F (p :: Q)) P = x p * exq y F P + (-1) * exq y (fun Q => exq x (fun Q => F (p :: Q)) Q) P := by
      rw [← exq_lin]
      exact exq_congr fun Q _ _ => by show x p * F Q - _ = _; grind
    show x p * exq y F P - exq x (fun Q => exq y F (p :: Q)) P = -(y p * exq x F P - exq y (fun Q => exq x F (p :: Q)) P)
    rw [e1, e2, ih]
    grind
theorem det_swap (x y : Fn) (B : List Fn) : ∀ (A : List Fn) (P : List Nat), det (A ++ x :: y :: B) P = - det (A ++ y :: x :: B) P
  | [], P => exq_swap x y P (det B)
  | a :: A, P => by
    show exq a (det (A ++ x :: y :: B)) P = - exq a (det (A ++ y :: x :: B)) P
    rw [exq_congr (G := fun Q => (-1) * det (A ++ y :: x :: B) Q + 0 * det (A ++ y :: x :: B) Q) fun Q _ _ => by rw [det_swap x y B A Q]; grind, exq_lin]
    have : exq a (fun Q => det (A ++ y :: x :: B) Q) P = exq a (det (A ++ y :: x :: B)) P := rfl
    grind
theorem det_lin (x y : Fn) (m t : Int) (B : List Fn) : ∀ (A : List Fn) (P : List Nat), det (A ++ (fun j => m * x j + t * y j) :: B) P = m * det (A ++ x :: B) P + t * det (A ++ y :: B) P
  | [], P => exq_rlin x y m t P (det B)
  | a :: A, P => by
    show exq a (det (A ++ (fun j => m * x j + t * y j) :: B)) P = m * exq a (det (A ++ x :: B)) P + t * exq a (det (A ++ y :: B)) P
    rw [exq_congr (G := fun Q => m * det (A ++ x :: B) Q + t * det (A ++ y :: B) Q) fun Q _ _ => det_lin x y m t B A Q]
    exact exq_lin a m t P _ _
theorem exq_rzero : ∀ (P : List Nat) (F : List Nat → Int), exq (fun _ => 0) F P = 0
  | [], _ => rfl
  | p :: P, F => by show 0 * F P - exq (fun _ => 0) _ P = 0; rw [exq_rzero P]; omega
theorem det_zero (B : List Fn) : ∀ (A : List Fn) (P : List Nat), det (A ++ (fun _ => 0) :: B) P = 0
  | [], P => exq_rzero P (det B)
  | a :: A, P => by
    show exq a (det (A ++ (fun _ => 0) :: B)) P = 0
    rw [exq_congr (G := fun _ => 0) fun Q _ _ => det_zero B A Q, exq_zero]
theorem det_two (x : Fn) (C : List Fn) : ∀ (B A : List Fn) (P : List Nat), det (A ++ x :: (B ++ x :: C)) P = 0
  | [], A, P => by
    have h := det_swap x x C A P
    show det (A ++ x :: x :: C) P = 0
    omega
  | b :: B, A, P => by
    have h := det_swap x b (B ++ x :: C) A P
    have ih := det_two x C B (A ++ [b]) P
    rw [List.append_assoc] at ih
    show det (A ++ x :: b :: (B ++ x :: C)) P = 0
    rw [h]
    have : det (A ++ b :: x :: (B ++ x :: C)) P = 0 := ih
    omega
/-- a row that stands twice -/
theorem det_dup {R : List Fn} (h : ¬ R.Nodup) (P : List Nat) : det R P = 0 := by
  have : ∃ A x B C, R = A ++ x :: (B ++ x :: C) := by
    clear P
    induction R with
    | nil => exact absurd List.nodup_nil h
    | cons r R ih =>
      by_cases m : r ∈ R
      · obtain ⟨B, C, e⟩ := List.append_of_mem m
        exact ⟨[], r, B, C, by rw [e]; rfl⟩
      · obtain ⟨A, x, B, C, e⟩ := ih fun n => h (List.nodup_cons.mpr ⟨m, n⟩)
        exact ⟨r :: A, x, B, C, by rw [e]; rfl⟩
  obtain ⟨A, x, B, C, rfl⟩ := this
  exact det_two x C B A P
/-- what is 0 with a row in a place is so for its span -/
theorem det_cls (A B : List Fn) (P : List Nat) : Cls0 fun x => det (A ++ x :: B) P = 0 :=
  ⟨det_zero B A P, fun {x y} m t hx hy => by rw [det_lin, hx, hy]; omega, fun {x s} s0 h => by
    have e := det_lin x x s 0 B A P
    rw [show (fun j => s * x j + 0 * x j) = fun j => s * x j from funext fun j => by omega, h] at e
    have : s * det (A ++ x :: B) P = 0 := by omega
    exact (Int.mul_eq_zero.mp this).resolve_left s0⟩
theorem nodup_sub {α : Type} [DecidableEq α] : ∀ {G F : List α}, G.Nodup → (∀ g ∈ G, g ∈ F) → G.length ≤ F.length
  | [], _, _, _ => Nat.zero_le _
  | g :: G, F, n, h => by
    obtain ⟨n1, n2⟩ := List.nodup_cons.mp n
    have ih := nodup_sub (F := F.erase g) n2 fun x hx => (List.mem_erase_of_ne (fun e => n1 (by rw [← e]; exact hx))).mpr (h x (List.mem_cons_of_mem _ hx))
    rw [List.length_erase_of_mem (h g (List.mem_cons_self ..))] at ih
    have : 0 < F.length := List.length_pos_of_mem (h g (List.mem_cons_self ..))
    rw [List.length_cons]; omega
noncomputable local instance : DecidableEq Fn := fun _ _ => Classical.propDecidable _
/-- more rows of a span than it has generators: their minors are 0 -/
theorem det_many {F : List Fn} (P : List Nat) : ∀ {X G : List Fn}, (∀ g ∈ G, g ∈ F) → (∀ x ∈ X, Spn (fun y => y ∈ F) x) → F.length < G.length + X.length → det (G ++ X) P = 0
  | [], G, hg, _, l => by
    rw [List.append_nil]
    refine det_dup (fun n => ?_) P
    have := nodup_sub n hg
    simp at l; omega
  | x :: X, G, hg, hx, l => by
    refine Spn.clo (det_cls G X P) (hx x (List.mem_cons_self ..)) fun y hy => ?_
    have ih := det_many (F := F) P (X := X) (G := G ++ [y]) (fun g hh => by
      rcases List.mem_append.mp hh with e | e
      · exact hg g e
      · rw [List.mem_singleton.mp e]; exact hy) (fun z hz => hx z (List.mem_cons_of_mem _ hz)) (by rw [List.length_append, List.length_singleton]; rw [List.length_cons] at l; omega)
    rw [List.append_assoc] at ih
    exact ih
theorem det_last_zero : ∀ {R : List Fn} {x : Fn} {P : List Nat}, (∀ p ∈ P, x p = 0) → det (R ++ [x]) P = 0
  | [], x, P, h => by
    show exq x (det []) P = 0
    have go : ∀ (P : List Nat) (F : List Nat → Int), (∀ p ∈ P, x p = 0) → exq x F P = 0 := fun P => by
      induction P with
      | nil => exact fun _ _ => rfl
      | cons p P ih =>
        intro F h
        show x p * F P - exq x _ P = 0
        rw [h p (List.mem_cons_self ..), ih _ fun q hq => h q (List.mem_cons_of_mem _ hq)]; omega
    exact go P _ h
  | r :: R, x, P, h => by
    show exq r (det (R ++ [x])) P = 0
    rw [exq_congr (G := fun _ => 0) fun Q _ k => det_last_zero fun p hp => h p (k p hp), exq_zero]
theorem exq_snoc (r : Fn) (q : Nat) : ∀ (P : List Nat) (F : List Nat → Int), ∃ e : Int, exq r F (P ++ [q]) = exq r (fun Q => F (Q ++ [q])) P + e * F P
  | [], F => ⟨r q, by show r q * F [] - 0 = 0 + r q * F []; omega⟩
  | p :: P, F => by
    obtain ⟨e, h⟩ := exq_snoc r q P (fun Q => F (p :: Q))
    refine ⟨-e, ?_⟩
    show r p * F (P ++ [q]) - exq r (fun Q => F (p :: Q)) (P ++ [q]) = (r p * F (P ++ [q]) - exq r (fun Q => F (p :: (Q ++ [q]))) P) + -e * F (p :: P)
    rw [h]; grind
/-- a last row that is 0 at all places but the last -/
theorem det_block : ∀ {R : List Fn} {x : Fn} {P : List Nat} {q : Nat}, (∀ p ∈ P, x p = 0) → P.length = R.length → det (R ++ [x]) (P ++ [q]) = det R P * x q
  | [], x, [], q, _, _ => by show x q * 1 - 0 = 1 * x q; omega
  | [], x, p :: P, q, _, l => by simp at l
  | r :: R, x, P, q, h, l => by
    show exq r (det (R ++ [x])) (P ++ [q]) = exq r (det R) P * x q
    obtain ⟨e, w⟩ := exq_snoc r q P (det (R ++ [x]))
    rw [w, det_last_zero h, exq_congr (G := fun Q => x q * det R Q + 0 * det R Q) fun Q lq k => by
      rw [det_block (fun p hp => h p (k p hp)) (by rw [List.length_cons] at l; omega)]; grind, exq_lin]
    have : exq r (fun Q => det R Q) P = exq r (det R) P := rfl
    grind
/-- the sum of minors is bounded -/
theorem exq_bd {r : Fn} {B C : Nat} : ∀ {P : List Nat} {F : List Nat → Int}, (∀ p ∈ P, (r p).natAbs ≤ B) → (∀ Q, Q.length + 1 = P.length → (∀ q ∈ Q, q ∈ P) → (F Q).natAbs ≤ C) → (exq r F P).natAbs ≤ P.length * (B * C)
  | [], _, _, _ => Nat.zero_le _
  | p :: P, F, hr, hF => by
    have ih := exq_bd (r := r) (B := B) (C := C) (P := P) (F := fun Q => F (p :: Q)) (fun q hq => hr q (List.mem_cons_of_mem _ hq)) fun Q l k => hF (p :: Q) (by rw [List.length_cons, List.length_cons, l]) fun q hq => by
      rcases List.mem_cons.mp hq with e | e
      · rw [e]; exact List.mem_cons_self ..
      · exact List.mem_cons_of_mem _ (k q e)
    have h1 := Nat.mul_le_mul (hr p (List.mem_cons_self ..)) (hF P rfl fun q hq => List.mem_cons_of_mem _ hq)
    rw [← Int.natAbs_mul] at h1
    show (r p * F P - exq r (fun Q => F (p :: Q)) P).natAbs ≤ (P.length + 1) * (B * C)
    rw [Nat.succ_mul]
    omega
def facB (B : Nat) : Nat → Nat
  | 0 => 1
  | n + 1 => (n + 1) * (B * facB B n)
theorem det_bd {B : Nat} : ∀ {R : List Fn} {P : List Nat}, (∀ r ∈ R, ∀ p ∈ P, (r p).natAbs ≤ B) → (det R P).natAbs ≤ facB B R.length
  | [], [], _ => (show (1 : Int).natAbs ≤ 1 by decide)
  | [], _ :: _, _ => by show (0 : Int).natAbs ≤ 1; decide
  | r :: R, P, h => by
    show (exq r (det R) P).natAbs ≤ _
    by_cases l : P.length = R.length + 1
    · have w := exq_bd (r := r) (B := B) (C := facB B R.length) (P := P) (F := det R) (h r (List.mem_cons_self ..)) fun Q _ k => det_bd fun s hs p hp => h s (List.mem_cons_of_mem _ hs) p (k p hp)
      rw [l] at w
      exact w
    · have z : ∀ (R : List Fn) (Q : List Nat), Q.length ≠ R.length → det R Q = 0 := fun R => by
        induction R with
        | nil =>
          intro Q h
          cases Q with
          | nil => exact absurd rfl h
          | cons _ _ => rfl
        | cons s R ih =>
          intro Q h
          show exq s (det R) Q = 0
          rw [exq_congr (G := fun _ => 0) fun Q' l' _ => ih Q' (by rw [List.length_cons] at h; omega), exq_zero]
      rw [exq_congr (G := fun _ => 0) fun Q lq _ => z R Q (by omega), exq_zero]
      exact Nat.zero_le _

/-- whole sums -/
inductive Lat (S : Fn → Prop) : Fn → Prop
  | mem {x} : S x → Lat S x
  | zero : Lat S fun _ => 0
  | lin {x y} (m t : Int) : Lat S x → Lat S y → Lat S fun j => m * x j + t * y j
theorem Lat.trans {S T : Fn → Prop} {x : Fn} (h : Lat S x) (k : ∀ y, S y → Lat T y) : Lat T x := by
  induction h with
  | mem h => exact k _ h
  | zero => exact .zero
  | lin m t _ _ i1 i2 => exact .lin m t i1 i2
theorem Lat.of {S : Fn → Prop} {x y : Fn} (h : Lat S x) (e : ∀ j, y j = x j) : Lat S y := by
  have : y = x := funext e
  rw [this]; exact h
theorem Lat.spn {S : Fn → Prop} {x : Fn} (h : Lat S x) : Spn S x := by
  induction h with
  | mem h => exact .mem h
  | zero => exact .zero
  | lin m t _ _ i1 i2 => exact .lin m t i1 i2
theorem exq_last (r : Fn) (q : Nat) : ∀ (P : List Nat), ∃ e : Int, ∀ F : List Nat → Int, exq r F (P ++ [q]) = exq r (fun Q => F (Q ++ [q])) P + (-1) ^ P.length * r q * F P
  | [] => ⟨0, fun F => by show r q * F [] - 0 = 0 + 1 * r q * F []; rw [Int.one_mul]; omega⟩
  | p :: P => by
    obtain ⟨_, h⟩ := exq_last r q P
    refine ⟨0, fun F => ?_⟩
    show r p * F (P ++ [q]) - exq r (fun Q => F (p :: Q)) (P ++ [q]) = (r p * F (P ++ [q]) - exq r (fun Q => F (p :: (Q ++ [q]))) P) + (-1) ^ (P.length + 1) * r q * F (p :: P)
    rw [h, Int.pow_succ]; grind
theorem exq_lat {S : Fn → Prop} (r : Fn) : ∀ (P : List Nat) (G : List Nat → Fn), (∀ Q, Lat S (G Q)) → Lat S fun c => exq r (fun Q => G Q c) P
  | [], _, _ => .zero
  | p :: P, G, h => by
    have ih := exq_lat r P (fun Q => G (p :: Q)) fun Q => h _
    refine (Lat.lin (r p) (-1) (h P) ih).of fun c => ?_
    show r p * G P c - exq r (fun Q => G (p :: Q) c) P = _
    omega
/-- expanded along the last row and place -/
theorem det_col (x : Fn) : ∀ (R : List Fn) (P : List Nat), Lat (fun y => y ∈ R) fun c => det (R ++ [x]) (P ++ [c]) - det R P * x c
  | [], [] => Lat.zero.of fun c => by show (x c * 1 - 0) - 1 * x c = 0; omega
  | [], p :: P => by
    refine Lat.zero.of fun c => ?_
    have h : ∀ (P : List Nat) (F : List Nat → Int), (∀ Q, F Q = det [] Q) → 2 ≤ P.length → exq x F P = 0 := fun P => by
      induction P with
      | nil => exact fun _ _ _ => rfl
      | cons p P ih =>
        intro F hF l
        show x p * F P - exq x (fun Q => F (p :: Q)) P = 0
        have z : exq x (fun Q => F (p :: Q)) P = 0 := by rw [exq_congr (G := fun _ => 0) fun Q _ _ => by rw [hF]; rfl, exq_zero]
        rw [z, hF]
        cases P with
        | nil => simp at l
        | cons q P => show x p * 0 - 0 = 0; omega
    show exq x (det []) (p :: P ++ [c]) - 0 * x c = 0
    rw [h _ _ (fun _ => rfl) (by simp)]; omega
  | r :: R, P => by
    have ih := det_col x R
    have up : ∀ {y : Fn}, Lat (fun y => y ∈ R) y → Lat (fun y => y ∈ r :: R) y := fun h => h.trans fun y hy => .mem (List.mem_cons_of_mem _ hy)
    have g := exq_lat (S := fun y => y ∈ r :: R) r P (fun Q c => det (R ++ [x]) (Q ++ [c]) - det R Q * x c) fun Q => up (ih Q)
    refine (Lat.lin 1 ((-1) ^ P.length * det (R ++ [x]) P) g (.mem (List.mem_cons_self ..))).of fun c => ?_
    show exq r (det (R ++ [x])) (P ++ [c]) - exq r (det R) P * x c = _
    obtain ⟨_, w⟩ := exq_last r c P
    rw [w]
    have e : exq r (fun Q => det (R ++ [x]) (Q ++ [c]) - det R Q * x c) P = exq r (fun Q => det (R ++ [x]) (Q ++ [c])) P - exq r (det R) P * x c := by
      rw [exq_congr (G := fun Q => 1 * det (R ++ [x]) (Q ++ [c]) + (-(x c)) * det R Q) fun Q _ _ => by grind, exq_lin]
      have : exq r (fun Q => det R Q) P = exq r (det R) P := rfl
      rw [this]; grind
    rw [e]; grind
end AL
set_option Elab.async false
set_option linter.all false
set_option maxRecDepth 100000
/-! rank by whole steps with exact quotients -/
namespace AL
abbrev vR (F : List Rw) : List Fn := F.map vl
theorem inR_mem {F : List Rw} {x : Fn} : (x ∈ vR F) ↔ inR F x := by
  unfold inR
  rw [List.mem_map]
  exact ⟨fun ⟨f, h, e⟩ => ⟨f, h, e.symm⟩, fun ⟨f, h, e⟩ => ⟨f, h, e.symm⟩⟩
theorem spn_in {F : List Rw} {x : Fn} : Spn (fun y => y ∈ vR F) x ↔ Spn (inR F) x :=
  ⟨fun h => h.trans fun _ hy => .mem (inR_mem.mp hy), fun h => h.trans fun _ hy => .mem (inR_mem.mpr hy)⟩
/-- so many rows are independent, and all others hang on them -/
structure RankIs (rows : List Rw) (s : Nat) : Prop where
  ex : ∃ (B : List Rw) (P : List Nat), B.length = s ∧ P.length = s ∧ (∀ b ∈ B, Spn (inR rows) (vl b)) ∧ det (vR B) P ≠ 0 ∧ ∀ r ∈ rows, Spn (inR B) (vl r)
/-- a minor that is not 0 says how many generators there are at least -/
theorem minor_le {F B : List Rw} {P : List Nat} (h : ∀ b ∈ B, Spn (inR F) (vl b)) (d : det (vR B) P ≠ 0) : B.length ≤ F.length := by
  refine Classical.byContradiction fun c => d ?_
  refine det_many (F := vR F) (X := vR B) (G := []) P (fun g hg => nomatch hg) (fun x hx => ?_) (by simp; omega)
  obtain ⟨b, hb, rfl⟩ := List.mem_map.mp hx
  exact spn_in.mpr (h b hb)
theorem RankIs.le {rows F : List Rw} {s : Nat} (h : RankIs rows s) (k : ∀ r ∈ rows, Spn (inR F) (vl r)) : s ≤ F.length := by
  obtain ⟨B, P, l, _, h1, h2, _⟩ := h.ex
  rw [← l]
  refine minor_le (fun b hb => ?_) h2
  refine (h1 b hb).trans ?_
  rintro y ⟨r, hr, rfl⟩
  exact k r hr
theorem RankIs.le_of {rows more : List Rw} {s t : Nat} (h : RankIs rows s) (h' : RankIs more t) (k : ∀ r ∈ rows, Spn (inR more) (vl r)) : s ≤ t := by
  obtain ⟨B', P', l', _, _, _, h3'⟩ := h'.ex
  rw [← l']
  refine h.le fun r hr => (k r hr).trans ?_
  rintro y ⟨q, hq, rfl⟩
  exact h3' q hq
/-- the same rank: the smaller span is the whole one -/
theorem RankIs.all {rows more : List Rw} {s : Nat} (h : RankIs rows s) (h' : RankIs more s) (k : ∀ r ∈ rows, Spn (inR more) (vl r)) : ∀ r ∈ more, Spn (inR rows) (vl r) := by
  obtain ⟨B, P, l, lP, h1, h2, _⟩ := h.ex
  obtain ⟨B', P', l', _, h1', _, h3'⟩ := h'.ex
  intro r hr
  -- the minor of B and r at P and any place is 0
  have z : ∀ q, det (vR B ++ [vl r]) (P ++ [q]) = 0 := fun q => by
    refine det_many (F := vR B') (X := vR B ++ [vl r]) (G := []) (P ++ [q]) (fun g hg => nomatch hg) (fun x hx => ?_) (by simp; omega)
    rcases List.mem_append.mp hx with hx | hx
    · obtain ⟨b, hb, rfl⟩ := List.mem_map.mp hx
      refine spn_in.mpr (((h1 b hb).trans ?_))
      rintro y ⟨q, hq, rfl⟩
      refine (k q hq).trans ?_
      rintro y ⟨q, hq, rfl⟩
      exact h3' q hq
    · rw [List.mem_singleton.mp hx]
      exact spn_in.mpr (h3' r hr)
  -- expanded along the last row: d r is a sum of the rows of B
  have c := (det_col (vl r) (vR B) P).spn
  refine Spn.trans (S := inR B) (Spn.div (s := -det (vR B) P) (by omega) ((spn_in.mp c).of fun q => ?_)) ?_
  · rw [z q]; grind
  · rintro y ⟨b, hb, rfl⟩
    exact h1 b hb

/-! ### the whole steps of the rank -/
/-- behind s pivots, ahead of the column k: d is the last pivot -/
structure Bar (W s k : Nat) (rows left : List Rw) (d : Int) (R : List Rw) (P : List Nat) : Prop where
  pm : R.Perm rows
  ll : left.length = R.length
  lw : ∀ r ∈ left, r.length = W
  sn : s ≤ R.length
  lP : P.length = s
  Pk : ∀ p ∈ P, p < k
  dd : d = det (vR (R.take s)) P
  d0 : d ≠ 0
  sp : ∀ j, s ≤ j → j < R.length → Spn (inR (R.take s)) fun c => vl (left.getD j []) c - d * vl (R.getD j []) c
  z : ∀ j, s ≤ j → j < R.length → ∀ c, c < k → vl (left.getD j []) c = 0
theorem bar_start {W : Nat} {rows : List Rw} (h : ∀ r ∈ rows, r.length = W) : Bar W 0 0 rows rows 1 rows [] :=
  ⟨.refl _, rfl, h, Nat.zero_le _, rfl, (fun p hp => nomatch hp), rfl, by decide, fun j _ _ => Spn.zero.of fun c => by omega, fun j _ _ c hc => by omega⟩
theorem bar_skip {W s k : Nat} {rows left R : List Rw} {d : Int} {P : List Nat} (b : Bar W s k rows left d R P) (h : ∀ j, s ≤ j → j < R.length → vl (left.getD j []) k = 0) : Bar W s (k + 1) rows left d R P :=
  ⟨b.pm, b.ll, b.lw, b.sn, b.lP, fun p hp => Nat.lt_succ_of_lt (b.Pk p hp), b.dd, b.d0, b.sp, fun j h1 h2 c hc => by
    rcases Nat.lt_or_eq_of_le (Nat.le_of_lt_succ hc) with w | w
    · exact b.z j h1 h2 c w
    · rw [w]; exact h j h1 h2⟩
/-- what stands there are minors -/
theorem bar_minor {W s k : Nat} {rows left R : List Rw} {d : Int} {P : List Nat} (b : Bar W s k rows left d R P) {j : Nat} (h1 : s ≤ j) (h2 : j < R.length) (c : Nat) : vl (left.getD j []) c = det (vR (R.take s) ++ [vl (R.getD j [])]) (P ++ [c]) := by
  have lT : (vR (R.take s)).length = s := by rw [List.length_map, List.length_take, Nat.min_eq_left b.sn]
  have e1 := det_block (R := vR (R.take s)) (x := vl (left.getD j [])) (P := P) (q := c) (fun p hp => b.z j h1 h2 p (b.Pk p hp)) (by rw [b.lP, lT])
  rw [← b.dd] at e1
  have e2 : det (vR (R.take s) ++ [fun c => 1 * (vl (left.getD j []) c - d * vl (R.getD j []) c) + d * vl (R.getD j []) c]) (P ++ [c]) = 1 * 0 + d * det (vR (R.take s) ++ [vl (R.getD j [])]) (P ++ [c]) := by
    rw [det_lin (fun c => vl (left.getD j []) c - d * vl (R.getD j []) c) (vl (R.getD j [])) 1 d [] (vR (R.take s)) (P ++ [c])]
    congr 2
    refine Spn.clo (det_cls (vR (R.take s)) [] (P ++ [c])) (b.sp j h1 h2) ?_
    rintro y ⟨f, hf, rfl⟩
    exact det_dup (fun n => by
      have := (List.nodup_append.mp n).2.2 (vl f) (List.mem_map.mpr ⟨f, hf, rfl⟩) (vl f) (List.mem_singleton.mpr rfl)
      exact this rfl) _
  rw [show (fun c => 1 * (vl (left.getD j []) c - d * vl (R.getD j []) c) + d * vl (R.getD j []) c) = vl (left.getD j []) from funext fun c => by omega, e1] at e2
  exact Int.eq_of_mul_eq_mul_left b.d0 (by omega)
theorem take_swap {α : Type} {R : List α} {s f : Nat} (hs : s < R.length) (hf : s ≤ f) (hl : f < R.length) : ((R.set s R[f]).set f R[s]).take s = R.take s := by
  refine List.ext_getElem (by simp) fun j h1 h2 => ?_
  have : j < s := by simp at h1; omega
  rw [List.getElem_take, List.getElem_take, List.getElem_set, List.getElem_set, if_neg (by omega), if_neg (by omega)]
theorem getD_swap {R : List Rw} {s f j : Nat} (hs : s < R.length) (hl : f < R.length) (hj : j < R.length) : ((R.set s R[f]).set f R[s]).getD j [] = R.getD (if j = f then s else if j = s then f else j) [] := by
  rw [List.getD_eq_getElem?_getD, List.getD_eq_getElem?_getD]
  by_cases e1 : j = f
  · subst e1
    rw [if_pos rfl, List.getElem?_set_self (by rw [List.length_set]; omega), List.getElem?_eq_getElem hs]
  · rw [if_neg e1, List.getElem?_set_ne (fun z => e1 z.symm)]
    by_cases e2 : j = s
    · subst e2
      rw [if_pos rfl, List.getElem?_set_self (by omega), List.getElem?_eq_getElem hl]
    · rw [if_neg e2, List.getElem?_set_ne (fun z => e2 z.symm)]
/-- two rows behind change their places -/
theorem bar_swap {W s k : Nat} {rows left R : List Rw} {d : Int} {P : List Nat} (b : Bar W s k rows left d R P) {f : Nat} (hs : s < left.length) (hf : s ≤ f) (hl : f < left.length) : ∃ R', Bar W s k rows ((left.set s left[f]).set f left[s]) d R' P ∧ R'.length = R.length := by
  have ll := b.ll
  have hs' : s < R.length := by omega
  have hl' : f < R.length := by omega
  refine ⟨(R.set s R[f]).set f R[s], ⟨(List.set_set_perm hs' hl').trans b.pm, by simp [ll], fun r hr => ?_, by simp; omega, b.lP, b.Pk, ?_, b.d0, fun j h1 h2 => ?_, fun j h1 h2 c hc => ?_⟩, by simp⟩
  · exact b.lw r ((List.set_set_perm hs hl).mem_iff.mp hr)
  · rw [take_swap hs' hf hl']; exact b.dd
  · rw [List.length_set, List.length_set] at h2
    rw [take_swap hs' hf hl', getD_swap hs hl (by omega), getD_swap hs' hl' h2]
    refine b.sp _ ?_ ?_ <;> split <;> (try split) <;> omega
  · rw [List.length_set, List.length_set] at h2
    rw [getD_swap hs hl (by omega)]
    refine b.z _ ?_ ?_ c hc <;> split <;> (try split) <;> omega
/-- one row behind the lead, less what the lead takes of it -/
def barR (lead r : Rw) (k : Nat) (d : Int) : Rw := List.zipWith (fun one two => (one * vl lead k - two * vl r k).fdiv d) r lead
theorem take_getD {R : List Rw} {s : Nat} (h : s < R.length) : R.take (s + 1) = R.take s ++ [R.getD s []] := by
  rw [List.take_add_one, List.getD_eq_getElem?_getD, List.getElem?_eq_getElem h]; rfl
theorem barR_len {lead r : Rw} {k : Nat} {d : Int} (h : r.length = lead.length) : (barR lead r k d).length = r.length := by unfold barR; rw [List.length_zipWith, h, Nat.min_self]
theorem bar_exact {W s k : Nat} {rows left R : List Rw} {d : Int} {P : List Nat} (b : Bar W s k rows left d R P) (hs : s < R.length) (hk : vl (left.getD s []) k ≠ 0) {j : Nat} (h1 : s < j) (h2 : j < R.length) :
    ∀ c, d * vl (barR (left.getD s []) (left.getD j []) k d) c = vl (left.getD j []) c * vl (left.getD s []) k - vl (left.getD s []) c * vl (left.getD j []) k := by
  have lT : (vR (R.take s)).length = s := by rw [List.length_map, List.length_take, Nat.min_eq_left b.sn]
  have lS : (vR (R.take (s + 1))).length = s + 1 := by rw [List.length_map, List.length_take]; omega
  have dS : det (vR (R.take (s + 1))) (P ++ [k]) = vl (left.getD s []) k := by
    rw [bar_minor b (Nat.le_refl s) hs k, take_getD hs]
    unfold vR
    rw [List.map_append]; rfl
  have lw : ∀ i, i < R.length → (left.getD i []).length = W := fun i hi => by
    have ll := b.ll
    rw [List.getD_eq_getElem?_getD, List.getElem?_eq_getElem (by omega)]
    exact b.lw _ (List.getElem_mem _)
  intro c
  -- the vector y, 0 at the old places and at k
  have yz : ∀ p ∈ P ++ [k], vl (left.getD j []) p * vl (left.getD s []) k - vl (left.getD s []) p * vl (left.getD j []) k = 0 := fun p hp => by
    rcases List.mem_append.mp hp with h | h
    · rw [b.z j (by omega) h2 p (b.Pk p h), b.z s (Nat.le_refl _) hs p (b.Pk p h)]; simp
    · rw [List.mem_singleton.mp h]; grind
  have e1 := det_block (R := vR (R.take (s + 1))) (x := fun c => vl (left.getD j []) c * vl (left.getD s []) k - vl (left.getD s []) c * vl (left.getD j []) k) (P := P ++ [k]) (q := c) yz (by rw [lS, List.length_append, b.lP]; rfl)
  rw [dS] at e1
  have up : ∀ {x : Fn}, Spn (inR (R.take s)) x → Spn (inR (R.take (s + 1))) x := fun h => h.trans fun y ⟨f, hf, e⟩ => .mem ⟨f, by rw [take_getD hs]; exact List.mem_append_left _ hf, e⟩
  have ms : Spn (inR (R.take (s + 1))) (vl (R.getD s [])) := .mem ⟨_, by rw [take_getD hs]; exact List.mem_append_right _ (List.mem_singleton.mpr rfl), rfl⟩
  have leadS : Spn (inR (R.take (s + 1))) (vl (left.getD s [])) := (Spn.lin 1 d (up (b.sp s (Nat.le_refl _) hs)) ms).of fun c => by omega
  have rest : Spn (inR (R.take (s + 1))) fun c => vl (left.getD s []) k * (vl (left.getD j []) c - d * vl (R.getD j []) c) + (-(vl (left.getD j []) k)) * vl (left.getD s []) c := .lin _ _ (up (b.sp j (by omega) h2)) leadS
  have e2 : det (vR (R.take (s + 1)) ++ [fun c => 1 * (vl (left.getD s []) k * (vl (left.getD j []) c - d * vl (R.getD j []) c) + (-(vl (left.getD j []) k)) * vl (left.getD s []) c) + (d * vl (left.getD s []) k) * vl (R.getD j []) c]) (P ++ [k] ++ [c]) = 1 * 0 + (d * vl (left.getD s []) k) * det (vR (R.take (s + 1)) ++ [vl (R.getD j [])]) (P ++ [k] ++ [c]) := by
    rw [det_lin (fun c => vl (left.getD s []) k * (vl (left.getD j []) c - d * vl (R.getD j []) c) + (-(vl (left.getD j []) k)) * vl (left.getD s []) c) (vl (R.getD j [])) 1 (d * vl (left.getD s []) k) [] (vR (R.take (s + 1))) (P ++ [k] ++ [c])]
    congr 2
    refine Spn.clo (det_cls (vR (R.take (s + 1))) [] (P ++ [k] ++ [c])) rest ?_
    rintro y ⟨f, hf, rfl⟩
    exact det_dup (fun n => by
      have := (List.nodup_append.mp n).2.2 (vl f) (List.mem_map.mpr ⟨f, hf, rfl⟩) (vl f) (List.mem_singleton.mpr rfl)
      exact this rfl) _
  rw [show (fun c => 1 * (vl (left.getD s []) k * (vl (left.getD j []) c - d * vl (R.getD j []) c) + (-(vl (left.getD j []) k)) * vl (left.getD s []) c) + (d * vl (left.getD s []) k) * vl (R.getD j []) c) = fun c => vl (left.getD j []) c * vl (left.getD s []) k - vl (left.getD s []) c * vl (left.getD j []) k from funext fun c => by grind, e1] at e2
  have dv : vl (left.getD j []) c * vl (left.getD s []) k - vl (left.getD s []) c * vl (left.getD j []) k = d * det (vR (R.take (s + 1)) ++ [vl (R.getD j [])]) (P ++ [k] ++ [c]) := by
    refine Int.eq_of_mul_eq_mul_left hk ?_
    rw [e2]; grind
  have l1 := lw j h2
  have l2 := lw s hs
  by_cases hc : c < W
  · have e : vl (barR (left.getD s []) (left.getD j []) k d) c = (vl (left.getD j []) c * vl (left.getD s []) k - vl (left.getD s []) c * vl (left.getD j []) k).fdiv d := vl_get (by
      unfold barR
      rw [List.getElem?_zipWith, vl_at (by omega), vl_at (by omega)])
    rw [e, fdiv_ex b.d0 ⟨_, dv⟩]
  · rw [vl_out (by rw [barR_len (by omega)]; omega), vl_out (by omega : (left.getD j []).length ≤ c), vl_out (by omega : (left.getD s []).length ≤ c)]
    simp
theorem bar_step {W s k : Nat} {rows left left' R : List Rw} {d : Int} {P : List Nat} (b : Bar W s k rows left d R P) (hs : s < R.length) (hk : vl (left.getD s []) k ≠ 0) (ll : left'.length = R.length) (h' : ∀ j, j < R.length → left'.getD j [] = if s < j then barR (left.getD s []) (left.getD j []) k d else left.getD j []) : Bar W (s + 1) (k + 1) rows left' (vl (left.getD s []) k) R (P ++ [k]) := by
  have lb := b.ll
  have lw : ∀ i, i < R.length → (left.getD i []).length = W := fun i hi => by
    rw [List.getD_eq_getElem?_getD, List.getElem?_eq_getElem (by omega)]
    exact b.lw _ (List.getElem_mem _)
  have ex := fun {j : Nat} (h1 : s < j) (h2 : j < R.length) => bar_exact b hs hk h1 h2
  refine ⟨b.pm, ll, fun r hr => ?_, hs, by rw [List.length_append, b.lP]; rfl, fun p hp => ?_, ?_, hk, fun j h1 h2 => ?_, fun j h1 h2 c hc => ?_⟩
  · obtain ⟨j, hj⟩ := List.mem_iff_getElem?.mp hr
    have jl := (List.getElem?_eq_some_iff.mp hj).1
    have e := h' j (by omega)
    rw [List.getD_eq_getElem?_getD, hj] at e
    have e' : r = if s < j then barR (left.getD s []) (left.getD j []) k d else left.getD j [] := e
    rw [e']
    split
    · rw [barR_len (by rw [lw j (by omega), lw s hs])]; exact lw j (by omega)
    · exact lw j (by omega)
  · rcases List.mem_append.mp hp with h | h
    · exact Nat.lt_succ_of_lt (b.Pk p h)
    · rw [List.mem_singleton.mp h]; exact Nat.lt_succ_self _
  · rw [bar_minor b (Nat.le_refl s) hs k, take_getD hs]
    unfold vR
    rw [List.map_append]; rfl
  · rw [h' j h2, if_pos (by omega)]
    have up : ∀ {x : Fn}, Spn (inR (R.take s)) x → Spn (inR (R.take (s + 1))) x := fun h => h.trans fun y ⟨f, hf, e⟩ => .mem ⟨f, by rw [take_getD hs]; exact List.mem_append_left _ hf, e⟩
    have ms : Spn (inR (R.take (s + 1))) (vl (R.getD s [])) := .mem ⟨_, by rw [take_getD hs]; exact List.mem_append_right _ (List.mem_singleton.mpr rfl), rfl⟩
    have leadS : Spn (inR (R.take (s + 1))) (vl (left.getD s [])) := (Spn.lin 1 d (up (b.sp s (Nat.le_refl _) hs)) ms).of fun c => by omega
    refine Spn.div b.d0 ((Spn.lin (vl (left.getD s []) k) (-(vl (left.getD j []) k)) (up (b.sp j (by omega) h2)) leadS).of fun c => ?_)
    have e := ex (by omega : s < j) h2 c
    grind
  · rw [h' j h2, if_pos (by omega)]
    have e := ex (by omega : s < j) h2 c
    have : vl (left.getD j []) c * vl (left.getD s []) k - vl (left.getD s []) c * vl (left.getD j []) k = 0 := by
      rcases Nat.lt_or_eq_of_le (Nat.le_of_lt_succ hc) with w | w
      · rw [b.z j (by omega) h2 c w, b.z s (Nat.le_refl _) hs c w]; simp
      · rw [w]; grind
    rw [this] at e
    exact (Int.mul_eq_zero.mp e).resolve_left b.d0
theorem bar_end {W s k : Nat} {rows left R : List Rw} {d : Int} {P : List Nat} (b : Bar W s k rows left d R P) (h : W ≤ k ∨ s = R.length) : RankIs rows s := by
  refine ⟨R.take s, P, by rw [List.length_take, Nat.min_eq_left b.sn], b.lP, fun x hx => .mem ⟨x, b.pm.mem_iff.mp (List.mem_of_mem_take hx), rfl⟩, by rw [← b.dd]; exact b.d0, fun r hr => ?_⟩
  obtain ⟨j, hj⟩ := List.mem_iff_getElem?.mp (b.pm.mem_iff.mpr hr)
  have jl := (List.getElem?_eq_some_iff.mp hj).1
  by_cases c : j < s
  · exact .mem ⟨r, List.mem_of_getElem? (by rw [List.getElem?_take, if_pos c]; exact hj), rfl⟩
  · rcases h with h | h
    · have e : R.getD j [] = r := by rw [List.getD_eq_getElem?_getD, hj]; rfl
      have sp := b.sp j (by omega) jl
      rw [e] at sp
      refine Spn.div (s := -d) (by have := b.d0; omega) (sp.of fun q => ?_)
      have z : vl (left.getD j []) q = 0 := by
        by_cases hq : q < k
        · exact b.z j (by omega) jl q hq
        · have lw : (left.getD j []).length = W := by
            have ll := b.ll
            rw [List.getD_eq_getElem?_getD, List.getElem?_eq_getElem (by omega)]
            exact b.lw _ (List.getElem_mem _)
          exact vl_out (by omega)
      rw [z]; grind
    · omega
/-- the bound of what stands there -/
theorem bar_bd {W s k B : Nat} {rows left R : List Rw} {d : Int} {P : List Nat} (b : Bar W s k rows left d R P) (hB : ∀ r ∈ rows, ∀ v ∈ r, v.natAbs ≤ B) {j : Nat} (h1 : s ≤ j) (h2 : j < R.length) (c : Nat) : (vl (left.getD j []) c).natAbs ≤ facB B (s + 1) := by
  rw [bar_minor b h1 h2 c]
  have vb : ∀ r ∈ R, ∀ p, (vl r p).natAbs ≤ B := fun r hr p => by
    by_cases d : p < r.length
    · exact hB r (b.pm.mem_iff.mp hr) _ (vl_mem d)
    · rw [vl_out (by omega)]; exact Nat.zero_le _
  have w := det_bd (B := B) (R := vR (R.take s) ++ [vl (R.getD j [])]) (P := P ++ [c]) fun x hx p _ => by
    rcases List.mem_append.mp hx with hx | hx
    · obtain ⟨r, hr, rfl⟩ := List.mem_map.mp hx
      exact vb r (List.mem_of_mem_take hr) p
    · rw [List.mem_singleton.mp hx]
      refine vb _ ?_ p
      rw [List.getD_eq_getElem?_getD, List.getElem?_eq_getElem h2]
      exact List.getElem_mem _
  rw [List.length_append, List.length_map, List.length_take, Nat.min_eq_left b.sn] at w
  exact w
end AL
set_option Elab.async false
set_option linter.all false
set_option maxRecDepth 100000
/-! rows with rising pivots, Hermite's form: lattices and sizes -/
namespace AL
/-! ### places that change, or stand twice -/
theorem exq_csw (r : Fn) (p q : Nat) (B : List Nat) : ∀ (A : List Nat) (F : List Nat → Int), (∀ A' B', F (A' ++ p :: q :: B') = - F (A' ++ q :: p :: B')) → exq r F (A ++ p :: q :: B) = - exq r F (A ++ q :: p :: B)
  | [], F, h => by
    have e : exq r (fun Q => F (p :: q :: Q)) B = - exq r (fun Q => F (q :: p :: Q)) B := by
      rw [exq_congr (G := fun Q => (-1) * F (q :: p :: Q) + 0 * F (q :: p :: Q)) fun Q _ _ => by have := h [] Q; simp only [List.nil_append] at this; rw [this]; omega, exq_lin]; omega
    show r p * F (q :: B) - (r q * F (p :: B) - exq r (fun Q => F (p :: q :: Q)) B) = -(r q * F (p :: B) - (r p * F (q :: B) - exq r (fun Q => F (q :: p :: Q)) B))
    rw [e]; omega
  | a :: A, F, h => by
    have ih := exq_csw r p q B A (fun Q => F (a :: Q)) fun A' B' => h (a :: A') B'
    show r a * F (A ++ p :: q :: B) - exq r (fun Q => F (a :: Q)) (A ++ p :: q :: B) = -(r a * F (A ++ q :: p :: B) - exq r (fun Q => F (a :: Q)) (A ++ q :: p :: B))
    rw [ih, h A B]; grind
theorem det_csw (p q : Nat) : ∀ (R : List Fn) (A B : List Nat), det R (A ++ p :: q :: B) = - det R (A ++ q :: p :: B)
  | [], [], _ => rfl
  | [], _ :: _, _ => rfl
  | r :: R, A, B => exq_csw r p q B A (det R) fun A' B' => det_csw p q R A' B'
theorem det_ctwo (R : List Fn) (c : Nat) (C : List Nat) : ∀ (B A : List Nat), det R (A ++ c :: (B ++ c :: C)) = 0
  | [], A => by
    have h := det_csw c c R A C
    show det R (A ++ c :: c :: C) = 0
    omega
  | b :: B, A => by
    have h := det_csw c b R A (B ++ c :: C)
    have ih := det_ctwo R c C B (A ++ [b])
    rw [List.append_assoc] at ih
    show det R (A ++ c :: b :: (B ++ c :: C)) = 0
    rw [h]
    have : det R (A ++ b :: c :: (B ++ c :: C)) = 0 := ih
    omega
theorem exq_at {S : Fn → Prop} {r : Fn} (hr : S r) (P2 : List Nat) : ∀ (P1 : List Nat) (F : List Nat → Int), (∀ A B, Lat S fun c => F (A ++ c :: B)) → Lat S fun c => exq r F (P1 ++ c :: P2)
  | [], F, h => by
    have g := exq_lat (S := S) r P2 (fun Q c => F (c :: Q)) fun Q => h [] Q
    refine (Lat.lin (F P2) (-1) (.mem hr) g).of fun c => ?_
    show r c * F P2 - exq r (fun Q => F (c :: Q)) P2 = _
    grind
  | p :: P1, F, h => by
    have ih := exq_at hr P2 P1 (fun Q => F (p :: Q)) fun A B => h (p :: A) B
    refine (Lat.lin (r p) (-1) (h P1 P2) ih).of fun c => ?_
    show r p * F (P1 ++ c :: P2) - exq r (fun Q => F (p :: Q)) (P1 ++ c :: P2) = _
    omega
theorem det_at : ∀ (R : List Fn) (P1 P2 : List Nat), Lat (fun y => y ∈ R) fun c => det R (P1 ++ c :: P2)
  | [], [], _ => Lat.zero.of fun _ => rfl
  | [], _ :: _, _ => Lat.zero.of fun _ => rfl
  | r :: R, P1, P2 => exq_at (S := fun y => y ∈ r :: R) (List.mem_cons_self ..) P2 P1 (det R) fun A B => (det_at R A B).trans fun y hy => .mem (List.mem_cons_of_mem _ hy)
theorem exq_zcol {r : Fn} {p : Nat} (hr : r p = 0) : ∀ {P : List Nat} {F : List Nat → Int}, (∀ Q, p ∈ Q → F Q = 0) → p ∈ P → exq r F P = 0
  | [], _, _, h => nomatch h
  | q :: P, F, hF, h => by
    show r q * F P - exq r (fun Q => F (q :: Q)) P = 0
    by_cases c : p ∈ P
    · rw [hF P c, exq_zcol hr (P := P) (F := fun Q => F (q :: Q)) (fun Q k => hF _ (List.mem_cons_of_mem _ k)) c]; omega
    · have e : p = q := (List.mem_cons.mp h).resolve_right c
      subst e
      rw [hr, exq_congr (G := fun _ => 0) fun Q _ _ => hF _ (List.mem_cons_self ..), exq_zero]; omega
theorem det_zcol {p : Nat} : ∀ {R : List Fn} {P : List Nat}, (∀ r ∈ R, r p = 0) → p ∈ P → det R P = 0
  | [], _ :: _, _, _ => rfl
  | [], [], _, h => nomatch h
  | r :: R, P, h, hp => exq_zcol (h r (List.mem_cons_self ..)) (fun Q k => det_zcol (fun s hs => h s (List.mem_cons_of_mem _ hs)) k) hp
theorem facB_pos {B : Nat} (h : 1 ≤ B) : ∀ n, 1 ≤ facB B n
  | 0 => Nat.le_refl _
  | n + 1 => by
    have := facB_pos h n
    show 1 ≤ (n + 1) * (B * facB B n)
    exact Nat.mul_pos (by omega) (Nat.mul_pos h this)
theorem facB_step {B : Nat} (h : 1 ≤ B) (n : Nat) : facB B n ≤ facB B (n + 1) := by
  show facB B n ≤ (n + 1) * (B * facB B n)
  have h1 : 1 * facB B n ≤ B * facB B n := Nat.mul_le_mul_right _ h
  have h2 : 1 * (B * facB B n) ≤ (n + 1) * (B * facB B n) := Nat.mul_le_mul_right _ (by omega)
  omega
theorem facB_mono {B : Nat} (h : 1 ≤ B) {m n : Nat} (l : m ≤ n) : facB B m ≤ facB B n := by
  induction l with
  | refl => exact Nat.le_refl _
  | step _ ih => exact Nat.le_trans ih (facB_step h _)
/-! ### rising pivots -/
structure Ech (W : Nat) (F : List Rw) : Prop where
  len : ∀ f ∈ F, f.length = W
  nz : ∀ f ∈ F, vl f (piv f) ≠ 0
  asc : F.Pairwise fun f h => piv f < piv h
theorem Ech.tail {W : Nat} {f : Rw} {F : List Rw} (h : Ech W (f :: F)) : Ech W F := ⟨fun g hg => h.len g (List.mem_cons_of_mem _ hg), fun g hg => h.nz g (List.mem_cons_of_mem _ hg), (List.pairwise_cons.mp h.asc).2⟩
theorem ahead_zero {f : Rw} (h : vl f (piv f) ≠ 0) : ∀ j, j < piv f → vl f j = 0 := (piv_spec (not_allZ h)).2.2
theorem Ech.head {W : Nat} {f : Rw} {F : List Rw} (h : Ech W (f :: F)) : ∀ g ∈ F, ∀ j, j ≤ piv f → vl g j = 0 := fun g hg j hj => by
  have := (List.pairwise_cons.mp h.asc).1 g hg
  exact ahead_zero (h.nz g (List.mem_cons_of_mem _ hg)) j (by omega)
theorem lat_cons {f : Rw} {F : List Rw} {x : Fn} (h : Lat (inR (f :: F)) x) : ∃ a y, Lat (inR F) y ∧ ∀ j, x j = a * vl f j + y j := by
  induction h with
  | @mem x h =>
    obtain ⟨g, hg, rfl⟩ := h
    rcases List.mem_cons.mp hg with rfl | hg
    · exact ⟨1, fun _ => 0, .zero, fun j => by simp⟩
    · exact ⟨0, vl g, .mem ⟨g, hg, rfl⟩, fun j => by omega⟩
  | zero => exact ⟨0, fun _ => 0, .zero, fun j => by simp⟩
  | lin m t _ _ i1 i2 =>
    obtain ⟨a, y, hy, ea⟩ := i1
    obtain ⟨b, z, hz, eb⟩ := i2
    exact ⟨m * a + t * b, _, .lin m t hy hz, fun j => by dsimp only; rw [ea, eb]; grind⟩
theorem spn_cons {f : Rw} {F : List Rw} {x : Fn} (h : Spn (inR (f :: F)) x) : ∃ m a y, m ≠ 0 ∧ Spn (inR F) y ∧ ∀ j, m * x j = a * vl f j + y j := by
  refine Spn.clo (R := fun x => ∃ m a y, m ≠ 0 ∧ Spn (inR F) y ∧ ∀ j, m * x j = a * vl f j + y j) ⟨?_, ?_, ?_⟩ h ?_
  · exact ⟨1, 0, fun _ => 0, by decide, .zero, fun j => by simp⟩
  · rintro x y p q ⟨m, a, u, m0, hu, ea⟩ ⟨n, b, v, n0, hv, eb⟩
    exact ⟨m * n, (p * n) * a + (q * m) * b, _, Int.mul_ne_zero m0 n0, .lin (p * n) (q * m) hu hv, fun j => by
      have h1 := ea j
      have h2 := eb j
      dsimp only
      have e : m * n * (p * x j + q * y j) = (p * n) * (m * x j) + (q * m) * (n * y j) := by grind
      rw [e, h1, h2]; grind⟩
  · rintro x s s0 ⟨m, a, u, m0, hu, ea⟩
    exact ⟨m * s, a, u, Int.mul_ne_zero m0 s0, hu, fun j => by rw [← ea j, Int.mul_assoc]⟩
  · rintro y ⟨g, hg, rfl⟩
    rcases List.mem_cons.mp hg with rfl | hg
    · exact ⟨1, 1, fun _ => 0, by decide, .zero, fun j => by simp⟩
    · exact ⟨1, 0, vl g, by decide, .mem ⟨g, hg, rfl⟩, fun j => by omega⟩
/-- a pivot divides what is 0 at the pivots ahead -/
theorem ech_dvd {W : Nat} : ∀ {F : List Rw} {x : Fn}, Ech W F → Lat (inR F) x → ∀ {f : Rw}, f ∈ F → (∀ g ∈ F, piv g < piv f → x (piv g) = 0) → vl f (piv f) ∣ x (piv f)
  | [], _, _, _, _, h, _ => nomatch h
  | e :: F, x, E, h, f, hf, z => by
    obtain ⟨a, y, hy, ex⟩ := lat_cons h
    have y0 : ∀ j, j ≤ piv e → y j = 0 := fun j hj => by
      have : ∀ y, Lat (inR F) y → y j = 0 := fun y h => by
        induction h with
        | mem h => obtain ⟨g, hg, rfl⟩ := h; exact E.head g hg j hj
        | zero => rfl
        | lin m t _ _ i1 i2 => dsimp only; rw [i1, i2]; omega
      exact this y hy
    rcases List.mem_cons.mp hf with rfl | hf
    · rw [ex, y0 _ (Nat.le_refl _), Int.add_zero]
      exact ⟨a, Int.mul_comm ..⟩
    · have lt := (List.pairwise_cons.mp E.asc).1 f hf
      have xe := z e (List.mem_cons_self ..) lt
      rw [ex, y0 _ (Nat.le_refl _), Int.add_zero] at xe
      have a0 := (Int.mul_eq_zero.mp xe).resolve_right (E.nz e (List.mem_cons_self ..))
      have xy : ∀ j, x j = y j := fun j => by rw [ex, a0]; omega
      rw [xy]
      exact ech_dvd E.tail hy hf fun g hg hl => by rw [← xy]; exact z g (List.mem_cons_of_mem _ hg) hl
theorem spn_z {W : Nat} {e : Rw} {F : List Rw} (E : Ech W (e :: F)) {y : Fn} (h : Spn (inR F) y) {j : Nat} (hj : j ≤ piv e) : y j = 0 := by
  refine Spn.clo (R := fun y => y j = 0) ⟨rfl, fun {x y} m t hx hy => by dsimp only; rw [hx, hy]; omega, fun {x s} s0 h => (Int.mul_eq_zero.mp h).resolve_left s0⟩ h ?_
  rintro y ⟨g, hg, rfl⟩
  exact E.head g hg j hj
/-- the first item of what hangs stands at a pivot -/
theorem ech_lead {W : Nat} : ∀ {F : List Rw} {x : Fn}, Ech W F → Spn (inR F) x → ∀ {p : Nat}, x p ≠ 0 → (∀ j, j < p → x j = 0) → ∃ f ∈ F, piv f = p
  | [], x, _, h, p, hp, _ => by
    have : x p = 0 := Spn.clo (R := fun y => y p = 0) ⟨rfl, fun {x y} m t hx hy => by dsimp only; rw [hx, hy]; omega, fun {x s} s0 h => (Int.mul_eq_zero.mp h).resolve_left s0⟩ h (by rintro y ⟨g, hg, _⟩; exact nomatch hg)
    exact absurd this hp
  | e :: F, x, E, h, p, hp, z => by
    obtain ⟨m, a, y, m0, hy, ex⟩ := spn_cons h
    have en := E.nz e (List.mem_cons_self ..)
    by_cases a0 : a = 0
    · have xy : ∀ j, m * x j = y j := fun j => by rw [ex, a0]; omega
      obtain ⟨f, hf, pf⟩ := ech_lead E.tail hy (p := p) (by rw [← xy]; exact Int.mul_ne_zero m0 hp) fun j hj => by rw [← xy, z j hj, Int.mul_zero]
      exact ⟨f, List.mem_cons_of_mem _ hf, pf⟩
    · refine ⟨e, List.mem_cons_self .., ?_⟩
      have xe : x (piv e) ≠ 0 := fun w => by
        have := ex (piv e)
        rw [w, spn_z E hy (Nat.le_refl _), Int.mul_zero, Int.add_zero] at this
        exact (Int.mul_ne_zero a0 en) this.symm
      rcases Nat.lt_trichotomy (piv e) p with w | w | w
      · exact absurd (z _ w) xe
      · exact w
      · have := ex p
        rw [spn_z E hy (by omega), ahead_zero en p w, Int.mul_zero, Int.add_zero] at this
        exact absurd this (Int.mul_ne_zero m0 hp)
theorem first_nz {x : Fn} (h : ∃ j, x j ≠ 0) : ∃ p, x p ≠ 0 ∧ ∀ i, i < p → x i = 0 := by
  obtain ⟨j, c⟩ := h
  have go : ∀ n, (∃ i, i ≤ n ∧ x i ≠ 0) → ∃ p, x p ≠ 0 ∧ ∀ i, i < p → x i = 0 := fun n => by
    induction n with
    | zero => rintro ⟨i, hi, h⟩; exact ⟨i, h, fun k hk => by omega⟩
    | succ n ih =>
      rintro ⟨i, hi, h⟩
      by_cases w : ∃ i, i ≤ n ∧ x i ≠ 0
      · exact ih w
      · exact ⟨i, h, fun k hk => Classical.byContradiction fun z => w ⟨k, by omega, z⟩⟩
  exact go j ⟨j, Nat.le_refl _, c⟩
theorem ech_zero {W : Nat} {F : List Rw} (E : Ech W F) {x : Fn} (h : Spn (inR F) x) (z : ∀ f ∈ F, x (piv f) = 0) (j : Nat) : x j = 0 := by
  refine Classical.byContradiction fun c => ?_
  have : ∃ p, x p ≠ 0 ∧ ∀ i, i < p → x i = 0 := by
    have go : ∀ n, (∃ i, i ≤ n ∧ x i ≠ 0) → ∃ p, x p ≠ 0 ∧ ∀ i, i < p → x i = 0 := fun n => by
      induction n with
      | zero => rintro ⟨i, hi, h⟩; exact ⟨i, h, fun k hk => by omega⟩
      | succ n ih =>
        rintro ⟨i, hi, h⟩
        by_cases w : ∃ i, i ≤ n ∧ x i ≠ 0
        · exact ih w
        · exact ⟨i, h, fun k hk => Classical.byContradiction fun z => w ⟨k, by omega, z⟩⟩
    exact go j ⟨j, Nat.le_refl _, c⟩
  obtain ⟨p, hp, hz⟩ := this
  obtain ⟨f, hf, rfl⟩ := ech_lead E h hp hz
  exact hp (z f hf)
theorem ech_det {W : Nat} : ∀ {F : List Rw}, Ech W F → det (vR F) (F.map piv) ≠ 0
  | [], _ => by decide
  | f :: F, E => by
    have ih := ech_det E.tail
    have e : det (vR (f :: F)) ((f :: F).map piv) = vl f (piv f) * det (vR F) (F.map piv) - exq (vl f) (fun Q => det (vR F) (piv f :: Q)) (F.map piv) := rfl
    rw [e, exq_congr (G := fun _ => 0) fun Q _ _ => det_zcol (p := piv f) (fun r hr => by
      obtain ⟨g, hg, rfl⟩ := List.mem_map.mp hr
      exact E.head g hg _ (Nat.le_refl _)) (List.mem_cons_self ..), exq_zero, Int.sub_zero]
    exact Int.mul_ne_zero (E.nz f (List.mem_cons_self ..)) ih
/-- a minor of a span that is not 0 comes from one of the generators -/
theorem minor_sub {rows : List Rw} {P : List Nat} {N : Nat} (h : ∀ G : List Fn, (∀ g ∈ G, g ∈ vR rows) → G.length = N → det G P = 0) : ∀ {X G : List Fn}, (∀ g ∈ G, g ∈ vR rows) → (∀ x ∈ X, Spn (fun y => y ∈ vR rows) x) → G.length + X.length = N → det (G ++ X) P = 0
  | [], G, hg, _, l => by rw [List.append_nil]; exact h G hg (by simpa using l)
  | x :: X, G, hg, hx, l => by
    refine Spn.clo (det_cls G X P) (hx x (List.mem_cons_self ..)) fun y hy => ?_
    have ih := minor_sub h (X := X) (G := G ++ [y]) (fun g hh => by
      rcases List.mem_append.mp hh with e | e
      · exact hg g e
      · rw [List.mem_singleton.mp e]; exact hy) (fun z hz => hx z (List.mem_cons_of_mem _ hz)) (by rw [List.length_append, List.length_singleton]; rw [List.length_cons] at l; omega)
    rw [List.append_assoc] at ih
    exact ih
/-- rows with rising pivots for the lattice of some rows with small numbers -/
structure EchOf (W B n : Nat) (rows F : List Rw) : Prop where
  E : Ech W F
  lr : ∀ r ∈ rows, r.length = W
  to : ∀ f ∈ F, Lat (inR rows) (vl f)
  fro : ∀ r ∈ rows, Lat (inR F) (vl r)
  bd : ∀ r ∈ rows, ∀ v ∈ r, v.natAbs ≤ B
  B1 : 1 ≤ B
  ln : F.length ≤ n
theorem EchOf.minor {W B n : Nat} {rows F : List Rw} (h : EchOf W B n rows F) : ∃ G : List Fn, (∀ g ∈ G, g ∈ vR rows) ∧ G.length = F.length ∧ det G (F.map piv) ≠ 0 ∧ ∀ P, (det G P).natAbs ≤ facB B n := by
  have : ∃ G : List Fn, (∀ g ∈ G, g ∈ vR rows) ∧ G.length = F.length ∧ det G (F.map piv) ≠ 0 := Classical.byContradiction fun c => by
    refine ech_det h.E ?_
    refine minor_sub (rows := rows) (N := F.length) (X := vR F) (G := []) (P := F.map piv) (fun G hg l => Classical.byContradiction fun w => c ⟨G, hg, l, w⟩) (fun g hg => nomatch hg) (fun x hx => ?_) (by simp)
    obtain ⟨f, hf, rfl⟩ := List.mem_map.mp hx
    exact spn_in.mpr (h.to f hf).spn
  obtain ⟨G, h1, h2, h3⟩ := this
  refine ⟨G, h1, h2, h3, fun P => Nat.le_trans (det_bd (B := B) fun r hr p _ => ?_) (facB_mono h.B1 (by rw [h2]; exact h.ln))⟩
  obtain ⟨q, hq, rfl⟩ := List.mem_map.mp (h1 r hr)
  by_cases d : p < q.length
  · exact h.bd q hq _ (vl_mem d)
  · rw [vl_out (by omega)]; exact Nat.zero_le _
theorem EchOf.pivot {W B n : Nat} {rows F : List Rw} (h : EchOf W B n rows F) {f : Rw} (hf : f ∈ F) : (vl f (piv f)).natAbs ≤ facB B n := by
  obtain ⟨G, h1, h2, h3, h4⟩ := h.minor
  obtain ⟨F1, F2, e⟩ := List.append_of_mem hf
  have eP : F.map piv = F1.map piv ++ piv f :: F2.map piv := by rw [e, List.map_append]; rfl
  have w : Lat (inR F) fun c => det G (F1.map piv ++ c :: F2.map piv) := by
    refine (det_at G (F1.map piv) (F2.map piv)).trans fun y hy => ?_
    obtain ⟨q, hq, rfl⟩ := List.mem_map.mp (h1 y hy)
    exact h.fro q hq
  have dv := ech_dvd h.E w hf fun g hg lt => by
    have g1 : g ∈ F1 := by
      rw [e] at hg
      rcases List.mem_append.mp hg with m | m
      · exact m
      · have as := h.E.asc
        rw [e] at as
        rcases List.mem_cons.mp m with rfl | m
        · omega
        · have := (List.pairwise_cons.mp (List.pairwise_append.mp as).2.1).1 g m
          omega
    obtain ⟨A, C, eA⟩ := List.append_of_mem g1
    rw [eA, List.map_append, List.append_assoc]
    exact det_ctwo G (piv g) (F2.map piv) (C.map piv) (A.map piv)
  rw [← eP] at dv
  exact Nat.le_trans (Nat.le_of_dvd (by omega) (Int.natAbs_dvd_natAbs.mpr dv)) (h4 _)
/-- what hangs is as small as its items at the pivots -/
theorem EchOf.item {W B n X : Nat} {rows F : List Rw} (h : EchOf W B n rows F) {x : Fn} (hx : Spn (inR F) x) (z : ∀ f ∈ F, (x (piv f)).natAbs ≤ X) (c : Nat) : (x c).natAbs ≤ n * (X * facB B n) := by
  obtain ⟨G, h1, h2, h3, h4⟩ := h.minor
  have d0 : det (x :: G) (c :: F.map piv) = 0 := by
    refine det_many (F := vR F) (X := x :: G) (G := []) _ (fun g hg => nomatch hg) (fun y hy => ?_) (by simp; omega)
    rcases List.mem_cons.mp hy with rfl | hy
    · exact spn_in.mpr hx
    · obtain ⟨q, hq, rfl⟩ := List.mem_map.mp (h1 y hy)
      exact spn_in.mpr (h.fro q hq).spn
  have e : det (x :: G) (c :: F.map piv) = x c * det G (F.map piv) - exq x (fun Q => det G (c :: Q)) (F.map piv) := rfl
  rw [e] at d0
  have b := exq_bd (r := x) (B := X) (C := facB B n) (P := F.map piv) (F := fun Q => det G (c :: Q)) (fun p hp => by
    obtain ⟨f, hf, rfl⟩ := List.mem_map.mp hp
    exact z f hf) fun Q _ _ => h4 _
  rw [List.length_map] at b
  have e2 : (x c).natAbs * (det G (F.map piv)).natAbs = (exq x (fun Q => det G (c :: Q)) (F.map piv)).natAbs := by
    rw [← Int.natAbs_mul, show x c * det G (F.map piv) = exq x (fun Q => det G (c :: Q)) (F.map piv) by omega]
  have h5 : (x c).natAbs * 1 ≤ (x c).natAbs * (det G (F.map piv)).natAbs := Nat.mul_le_mul_left _ (by omega)
  have h6 : F.length * (X * facB B n) ≤ n * (X * facB B n) := Nat.mul_le_mul_right _ h.ln
  omega

/-! ### taken in -/
/-- same whole sums -/
def Gen (A B : List Rw) : Prop := (∀ a ∈ A, Lat (inR B) (vl a)) ∧ ∀ b ∈ B, Lat (inR A) (vl b)
theorem Gen.refl (A : List Rw) : Gen A A := ⟨fun a h => .mem ⟨a, h, rfl⟩, fun a h => .mem ⟨a, h, rfl⟩⟩
theorem lat_in {A B : List Rw} {x : Fn} (h : Lat (inR A) x) (k : ∀ a ∈ A, Lat (inR B) (vl a)) : Lat (inR B) x := h.trans fun y ⟨a, ha, e⟩ => by rw [e]; exact k a ha
theorem Gen.trans {A B C : List Rw} (h : Gen A B) (k : Gen B C) : Gen A C := ⟨fun a ha => lat_in (h.1 a ha) k.1, fun c hc => lat_in (k.2 c hc) h.2⟩
theorem Gen.symm {A B : List Rw} (h : Gen A B) : Gen B A := ⟨h.2, h.1⟩
theorem gen_app {A B C D : List Rw} (h : Gen A B) (k : Gen C D) : Gen (A ++ C) (B ++ D) := by
  have l : ∀ {X Y : List Rw} {x : Fn}, Lat (inR X) x → Lat (inR (X ++ Y)) x := fun h => h.trans fun y ⟨a, ha, e⟩ => .mem ⟨a, List.mem_append_left _ ha, e⟩
  have r : ∀ {X Y : List Rw} {x : Fn}, Lat (inR Y) x → Lat (inR (X ++ Y)) x := fun h => h.trans fun y ⟨a, ha, e⟩ => .mem ⟨a, List.mem_append_right _ ha, e⟩
  refine ⟨fun a ha => ?_, fun a ha => ?_⟩
  · rcases List.mem_append.mp ha with w | w
    · exact l (h.1 a w)
    · exact r (k.1 a w)
  · rcases List.mem_append.mp ha with w | w
    · exact l (h.2 a w)
    · exact r (k.2 a w)
/-- two rows, turned by a unimodular matrix -/
theorem gen_two {a b c d : Rw} {p q r s : Int} (hc : ∀ j, vl c j = p * vl a j + q * vl b j) (hd : ∀ j, vl d j = r * vl a j + s * vl b j) (u : p * s - q * r = 1) : Gen [a, b] [c, d] := by
  have m : ∀ (x y z : Rw), z = x ∨ z = y → Lat (inR [x, y]) (vl z) := fun x y z h => .mem ⟨z, by simp; exact h, rfl⟩
  refine ⟨fun x hx => ?_, fun x hx => ?_⟩
  · rcases List.mem_cons.mp hx with rfl | hx
    · refine (Lat.lin s (-q) (m c d c (.inl rfl)) (m c d d (.inr rfl))).of fun j => ?_
      rw [hc, hd]
      have : vl x j = (p * s - q * r) * vl x j := by rw [u]; omega
      rw [this]; grind
    · rw [List.mem_singleton.mp hx]
      refine (Lat.lin (-r) p (m c d c (.inl rfl)) (m c d d (.inr rfl))).of fun j => ?_
      rw [hc, hd]
      have : vl b j = (p * s - q * r) * vl b j := by rw [u]; omega
      rw [this]; grind
  · rcases List.mem_cons.mp hx with rfl | hx
    · exact (Lat.lin p q (m a b a (.inl rfl)) (m a b b (.inr rfl))).of hc
    · rw [List.mem_singleton.mp hx]
      exact (Lat.lin r s (m a b a (.inl rfl)) (m a b b (.inr rfl))).of hd
def BdR (X : Nat) (r : Rw) : Prop := ∀ j, (vl r j).natAbs ≤ X
/-- behind i rows of the basis: what is kept, what is in hand -/
structure TkI (W M Y : Nat) (F : List Rw) (r0 : Rw) (i : Nat) (kept : List Rw) (row : Rw) : Prop where
  lk : ∀ k ∈ kept, k.length = W
  lr : row.length = W
  nz : ∀ k ∈ kept, vl k (piv k) ≠ 0
  asc : kept.Pairwise fun f h => piv f < piv h
  ahead : ∀ k ∈ kept, piv k < piv row
  behind : ∀ k ∈ kept, ∀ h ∈ F.drop i, piv k < piv h
  gen : Gen (kept ++ row :: F.drop i) (F ++ [r0])
  br : BdR (2 ^ ((M + 1) * (i + 1))) row
  bk : ∀ k ∈ kept, BdR Y k
/-- Hermite's form -/
structure Hnf (W : Nat) (F : List Rw) : Prop where
  len : ∀ f ∈ F, f.length = W
  pos : ∀ f ∈ F, 0 < vl f (piv f)
  asc : F.Pairwise fun f h => piv f < piv h
  red : F.Pairwise fun f h => 0 ≤ vl f (piv h) ∧ vl f (piv h) < vl h (piv h)
theorem Hnf.ech {W : Nat} {F : List Rw} (h : Hnf W F) : Ech W F := ⟨h.len, fun f hf => by have := h.pos f hf; omega, h.asc⟩
theorem bd_len {W X : Nat} {r : Rw} : BdR X r ↔ ∀ v ∈ r, v.natAbs ≤ X := by
  constructor
  · intro h v hv
    obtain ⟨j, hj⟩ := List.mem_iff_getElem?.mp hv
    rw [← vl_get hj]; exact h j
  · intro h j
    by_cases c : j < r.length
    · exact h _ (vl_mem c)
    · rw [vl_out (by omega)]; exact Nat.zero_le _
theorem comb_bd {m t : Int} {x y : Rw} {a b c d : Nat} (hl : x.length = y.length) (hm : m.natAbs ≤ a) (hx : BdR b x) (ht : t.natAbs ≤ c) (hy : BdR d y) : BdR (a * b + c * d) (comb m x t y) := fun j => by
  rw [comb_vl hl]
  have h1 : (m * vl x j).natAbs ≤ a * b := by rw [Int.natAbs_mul]; exact Nat.mul_le_mul hm (hx j)
  have h2 : (t * vl y j).natAbs ≤ c * d := by rw [Int.natAbs_mul]; exact Nat.mul_le_mul ht (hy j)
  omega
theorem BdR.mono {a b : Nat} {r : Rw} (h : BdR a r) (l : a ≤ b) : BdR b r := fun j => Nat.le_trans (h j) l
section
variable {W M Y : Nat} {F : List Rw} {r0 : Rw} {i : Nat} {kept : List Rw} {row h : Rw}
theorem drop_at (hi : F[i]? = some h) : F.drop i = h :: F.drop (i + 1) := by
  obtain ⟨l, e⟩ := List.getElem?_eq_some_iff.mp hi
  rw [List.drop_eq_getElem_cons l, e]
theorem tk_start (hl : ∀ f ∈ F, f.length = W) (l0 : r0.length = W) (b0 : BdR (2 ^ (M + 1)) r0) : TkI W M Y F r0 0 [] r0 :=
  ⟨(fun k hk => nomatch hk), l0, (fun k hk => nomatch hk), .nil, (fun k hk => nomatch hk), (fun k hk => nomatch hk), by
    refine ⟨fun a ha => .mem ⟨a, ?_, rfl⟩, fun a ha => .mem ⟨a, ?_, rfl⟩⟩ <;> simp at ha ⊢ <;> rcases ha with w | w <;> simp [w], by simpa using b0, (fun k hk => nomatch hk)⟩
theorem asc_snoc {l : List Rw} {r : Rw} (h : l.Pairwise fun f h => piv f < piv h) (k : ∀ x ∈ l, piv x < piv r) : (l ++ [r]).Pairwise fun f h => piv f < piv h := by
  rw [List.pairwise_append]
  exact ⟨h, List.pairwise_singleton .., fun a ha b hb => by rw [List.mem_singleton.mp hb]; exact k a ha⟩
theorem all_snoc {α : Type} {P : α → Prop} {l : List α} {r : α} (h : ∀ x ∈ l, P x) (k : P r) : ∀ x ∈ l ++ [r], P x := fun x hx => by
  rcases List.mem_append.mp hx with w | w
  · exact h x w
  · rw [List.mem_singleton.mp w]; exact k
theorem piv_lt_len {r : Rw} (h : vl r (piv r) ≠ 0) : piv r < r.length := Classical.byContradiction fun c => h (vl_out (by omega))
theorem nz_of_lt {r : Rw} (h : piv r < r.length) : vl r (piv r) ≠ 0 := by
  by_cases z : allZ r
  · rw [piv_zero z] at h; omega
  · exact (piv_spec z).2.1
/-- what stands behind two rows, by their lattice -/
theorem gen_mid {A D B : List Rw} {a b c d : Rw} (h : Gen (A ++ a :: b :: D) B) (g : Gen [a, b] [c, d]) : Gen (A ++ c :: d :: D) B := by
  have : Gen (A ++ ([c, d] ++ D)) (A ++ ([a, b] ++ D)) := gen_app (Gen.refl A) (gen_app g.symm (Gen.refl D))
  exact Gen.trans this h
theorem tk_low (E : Ech W F) (bF : ∀ f ∈ F, BdR (2 ^ M) f) (t : TkI W M Y F r0 i kept row) (hi : F[i]? = some h) (yb : 2 ^ ((M + 1) * (i + 1)) ≤ Y) (c : piv row < piv h) : TkI W M Y F r0 (i + 1) (kept ++ [row]) h := by
  have mh := List.mem_of_getElem? hi
  have dr := drop_at hi
  have as := E.asc
  have after : ∀ g ∈ F.drop (i + 1), piv h < piv g := fun g hg => by
    have w := as.sublist (List.drop_sublist i F)
    rw [dr] at w
    exact (List.pairwise_cons.mp w).1 g hg
  refine ⟨all_snoc t.lk t.lr, E.len h mh, all_snoc t.nz (nz_of_lt (by
    have := piv_lt_len (E.nz h mh)
    rw [E.len h mh] at this
    rw [t.lr]; omega)), asc_snoc t.asc t.ahead, all_snoc (fun k hk => ?_) c, all_snoc (fun k hk g hg => ?_) fun g hg => ?_, ?_, ?_, all_snoc t.bk (t.br.mono yb)⟩
  · exact t.behind k hk h (by rw [dr]; exact List.mem_cons_self ..)
  · exact t.behind k hk g (by rw [dr]; exact List.mem_cons_of_mem _ hg)
  · have := after g hg; omega
  · have g := t.gen
    rw [dr] at g
    rw [List.append_assoc]
    exact g
  · exact (bF h mh).mono (Nat.pow_le_pow_right (by decide) (by rw [Nat.mul_add]; omega))
theorem gen_swap {A D B : List Rw} {a b : Rw} (h : Gen (A ++ a :: b :: D) B) : Gen (A ++ b :: a :: D) B :=
  gen_mid h ⟨fun x hx => .mem ⟨x, by simp at hx ⊢; exact hx.symm, rfl⟩, fun x hx => .mem ⟨x, by simp at hx ⊢; exact hx.symm, rfl⟩⟩
theorem tk_high (E : Ech W F) (bF : ∀ f ∈ F, BdR (2 ^ M) f) (t : TkI W M Y F r0 i kept row) (hi : F[i]? = some h) (yb : 2 ^ M ≤ Y) (c : piv h < piv row) : TkI W M Y F r0 (i + 1) (kept ++ [h]) row := by
  have mh := List.mem_of_getElem? hi
  have dr := drop_at hi
  have as := E.asc
  have after : ∀ g ∈ F.drop (i + 1), piv h < piv g := fun g hg => by
    have w := as.sublist (List.drop_sublist i F)
    rw [dr] at w
    exact (List.pairwise_cons.mp w).1 g hg
  have kh : ∀ k ∈ kept, piv k < piv h := fun k hk => t.behind k hk h (by rw [dr]; exact List.mem_cons_self ..)
  refine ⟨all_snoc t.lk (E.len h mh), t.lr, all_snoc t.nz (E.nz h mh), asc_snoc t.asc kh, all_snoc t.ahead c, all_snoc (fun k hk g hg => t.behind k hk g (by rw [dr]; exact List.mem_cons_of_mem _ hg)) after, ?_, t.br.mono (Nat.pow_le_pow_right (by decide) (Nat.mul_le_mul_left _ (by omega))), all_snoc t.bk ((bF h mh).mono yb)⟩
  have g := t.gen
  rw [dr] at g
  rw [List.append_assoc]
  exact gen_swap g
/-- the row in hand, less a multiple: its pivot goes up -/
theorem piv_up {r : Rw} {p : Nat} (hp : p < r.length) (z : ∀ j, j ≤ p → vl r j = 0) : p < piv r := by
  by_cases a : allZ r
  · rw [piv_zero a]; exact hp
  · have := (piv_spec a).2.1
    exact Classical.byContradiction fun c => this (z _ (by omega))
theorem tk_same (E : Ech W F) (bF : ∀ f ∈ F, BdR (2 ^ M) f) (t : TkI W M Y F r0 i kept row) (hi : F[i]? = some h) (c : piv row = piv h) {k d : Rw} {p q r s : Int} (hk : ∀ j, vl k j = p * vl h j + q * vl row j) (hd : ∀ j, vl d j = r * vl h j + s * vl row j) (u : p * s - q * r = 1) (lk : k.length = W) (ld : d.length = W) (kz : vl k (piv h) ≠ 0) (dz : vl d (piv h) = 0) (bk : BdR Y k) (bd : BdR (2 ^ ((M + 1) * (i + 2))) d) : TkI W M Y F r0 (i + 1) (kept ++ [k]) d := by
  have mh := List.mem_of_getElem? hi
  have dr := drop_at hi
  have as := E.asc
  have hn := E.nz h mh
  have rn : vl row (piv row) ≠ 0 := nz_of_lt (by rw [c, t.lr, ← E.len h mh]; exact piv_lt_len hn)
  have after : ∀ g ∈ F.drop (i + 1), piv h < piv g := fun g hg => by
    have w := as.sublist (List.drop_sublist i F)
    rw [dr] at w
    exact (List.pairwise_cons.mp w).1 g hg
  have kh : ∀ k ∈ kept, piv k < piv h := fun k hk => t.behind k hk h (by rw [dr]; exact List.mem_cons_self ..)
  have z1 : ∀ j, j < piv h → vl h j = 0 := ahead_zero hn
  have z2 : ∀ j, j < piv h → vl row j = 0 := fun j hj => ahead_zero rn j (by omega)
  have pk : piv k = piv h := piv_is kz fun j hj => by rw [hk, z1 j hj, z2 j hj]; omega
  have pd : piv h < piv d := piv_up (by rw [ld, ← E.len h mh]; exact piv_lt_len hn) fun j hj => by
    rcases Nat.lt_or_eq_of_le hj with w | w
    · rw [hd, z1 j w, z2 j w]; omega
    · rw [w]; exact dz
  refine ⟨all_snoc t.lk lk, ld, all_snoc t.nz (by rw [pk]; exact kz), asc_snoc t.asc fun x hx => by rw [pk]; exact kh x hx, all_snoc (fun x hx => by have := kh x hx; omega) (by rw [pk]; exact pd), all_snoc (fun x hx g hg => t.behind x hx g (by rw [dr]; exact List.mem_cons_of_mem _ hg)) fun g hg => by rw [pk]; exact after g hg, ?_, bd, all_snoc t.bk bk⟩
  have g := t.gen
  rw [dr] at g
  rw [List.append_assoc]
  exact gen_mid (gen_swap g) (gen_two hk hd u)
/-- at the end -/
theorem tk_end (t : TkI W M Y F r0 F.length kept row) (yb : 2 ^ ((M + 1) * (F.length + 1)) ≤ Y) {kept' : List Rw} (e : kept' = if allZ row then kept else kept ++ [row]) : Ech W kept' ∧ Gen kept' (F ++ [r0]) ∧ (∀ k ∈ kept', BdR Y k) ∧ kept'.length ≤ kept.length + 1 := by
  have g := t.gen
  rw [List.drop_length] at g
  by_cases z : allZ row
  · rw [if_pos z] at e
    subst e
    refine ⟨⟨t.lk, t.nz, t.asc⟩, ⟨fun a ha => g.1 a (List.mem_append_left _ ha), fun b hb => lat_in (g.2 b hb) fun a ha => ?_⟩, t.bk, by omega⟩
    rcases List.mem_append.mp ha with w | w
    · exact .mem ⟨a, w, rfl⟩
    · rw [List.mem_singleton.mp w]
      exact Lat.zero.of (allZ_vl z)
  · rw [if_neg z] at e
    subst e
    obtain ⟨h1, h2, _⟩ := piv_spec z
    exact ⟨⟨all_snoc t.lk t.lr, all_snoc t.nz h2, asc_snoc t.asc t.ahead⟩, g, all_snoc t.bk (t.br.mono yb), by rw [List.length_append]; exact Nat.le_refl _⟩
end
/-! ### the form -/
/-- a row less multiples of rows -/
def rdc (row : Rw) (done : List Rw) : Rw := done.foldl (fun r b => comb 1 r (-((vl r (piv b)).fdiv (vl b (piv b)))) b) row
theorem fmod_lt {a b : Int} (hb : 0 < b) : 0 ≤ a + -(a.fdiv b) * b ∧ a + -(a.fdiv b) * b < b := by
  have h := Int.mul_fdiv_add_fmod a b
  have h1 := Int.fmod_nonneg_of_pos a hb
  have h2 := Int.fmod_lt_of_pos a hb
  have : -(a.fdiv b) * b = -(b * a.fdiv b) := by rw [Int.neg_mul, Int.mul_comm]
  omega
/-- below i rows -/
structure RdI (W : Nat) (row0 : Rw) (done : List Rw) (i : Nat) (row : Rw) : Prop where
  lr : row.length = W
  same : ∀ j, j ≤ piv row0 → vl row j = vl row0 j
  red : ∀ h ∈ done.take i, 0 ≤ vl row (piv h) ∧ vl row (piv h) < vl h (piv h)
  dif : Lat (inR done) fun j => vl row j - vl row0 j
theorem rd_start {W : Nat} {row0 : Rw} {done : List Rw} (l : row0.length = W) : RdI W row0 done 0 row0 :=
  ⟨l, fun _ _ => rfl, (fun h hh => nomatch hh), Lat.zero.of fun j => by omega⟩
theorem rd_step {W : Nat} {row0 row h : Rw} {done : List Rw} {i : Nat} (H : Hnf W done) (ah : ∀ g ∈ done, piv row0 < piv g) (t : RdI W row0 done i row) (hi : done[i]? = some h) : RdI W row0 done (i + 1) (comb 1 row (-((vl row (piv h)).fdiv (vl h (piv h)))) h) := by
  have mh := List.mem_of_getElem? hi
  have hl : row.length = h.length := by rw [t.lr, H.len h mh]
  have hz := ahead_zero (H.ech.nz h mh)
  refine ⟨by rw [comb_len hl, t.lr], fun j hj => ?_, fun g hg => ?_, ?_⟩
  · rw [comb_vl hl, hz j (by have := ah h mh; omega), t.same j hj]; omega
  · rw [List.take_add_one, hi] at hg
    rcases List.mem_append.mp hg with w | w
    · have lt : piv g < piv h := by
        obtain ⟨k, hk⟩ := List.mem_iff_getElem?.mp w
        have kl := (List.getElem?_eq_some_iff.mp hk).1
        rw [List.length_take] at kl
        rw [List.getElem?_take, if_pos (by omega)] at hk
        obtain ⟨l1, e1⟩ := List.getElem?_eq_some_iff.mp hk
        obtain ⟨l2, e2⟩ := List.getElem?_eq_some_iff.mp hi
        have := List.pairwise_iff_getElem.mp H.asc k i l1 l2 (by omega)
        rw [e1, e2] at this
        exact this
      rw [comb_vl hl, hz _ lt]
      have := t.red g w
      omega
    · have e : g = h := List.mem_singleton.mp w
      subst e
      rw [comb_vl hl, Int.one_mul]
      exact fmod_lt (H.pos g mh)
  · refine (Lat.lin 1 (-((vl row (piv h)).fdiv (vl h (piv h)))) t.dif (.mem ⟨h, mh, rfl⟩)).of fun j => ?_
    rw [comb_vl hl]; omega
theorem rd_end {W : Nat} {row0 row : Rw} {done : List Rw} {i : Nat} (H : Hnf W done) (p0 : 0 < vl row0 (piv row0)) (ah : ∀ g ∈ done, piv row0 < piv g) (t : RdI W row0 done i row) (l : done.length ≤ i) : Hnf W (row :: done) ∧ Gen (row :: done) (row0 :: done) ∧ piv row = piv row0 := by
  have pr : piv row = piv row0 := piv_is (by rw [t.same _ (Nat.le_refl _)]; omega) fun j hj => by
    rw [t.same j (by omega)]; exact ahead_zero (by omega) j hj
  have red := t.red
  rw [List.take_of_length_le l] at red
  refine ⟨⟨fun f hf => ?_, fun f hf => ?_, List.pairwise_cons.mpr ⟨fun g hg => by rw [pr]; exact ah g hg, H.asc⟩, List.pairwise_cons.mpr ⟨red, H.red⟩⟩, ⟨fun a ha => ?_, fun a ha => ?_⟩, pr⟩
  · rcases List.mem_cons.mp hf with rfl | w
    · exact t.lr
    · exact H.len f w
  · rcases List.mem_cons.mp hf with rfl | w
    · rw [pr, t.same _ (Nat.le_refl _)]; exact p0
    · exact H.pos f w
  · have up : ∀ {x : Fn}, Lat (inR done) x → Lat (inR (row0 :: done)) x := fun h => h.trans fun y ⟨a, ha, e⟩ => .mem ⟨a, List.mem_cons_of_mem _ ha, e⟩
    rcases List.mem_cons.mp ha with rfl | w
    · exact (Lat.lin 1 1 (up t.dif) (.mem ⟨row0, List.mem_cons_self .., rfl⟩)).of fun j => by omega
    · exact .mem ⟨a, List.mem_cons_of_mem _ w, rfl⟩
  · have up : ∀ {x : Fn}, Lat (inR done) x → Lat (inR (row :: done)) x := fun h => h.trans fun y ⟨a, ha, e⟩ => .mem ⟨a, List.mem_cons_of_mem _ ha, e⟩
    rcases List.mem_cons.mp ha with rfl | w
    · exact (Lat.lin (-1) 1 (up t.dif) (.mem ⟨row, List.mem_cons_self .., rfl⟩)).of fun j => by omega
    · exact .mem ⟨a, List.mem_cons_of_mem _ w, rfl⟩
/-- a row and its opposite -/
theorem gen_neg {row neg : Rw} {done : List Rw} (h : ∀ j, vl neg j = -vl row j) : Gen (neg :: done) (row :: done) := by
  have go : ∀ {a b : Rw}, (∀ j, vl a j = -vl b j) → ∀ x ∈ a :: done, Lat (inR (b :: done)) (vl x) := fun {a b} h x hx => by
    rcases List.mem_cons.mp hx with rfl | w
    · exact (Lat.lin (-1) 0 (.mem ⟨b, List.mem_cons_self .., rfl⟩) .zero).of fun j => by rw [h]; omega
    · exact .mem ⟨x, List.mem_cons_of_mem _ w, rfl⟩
  exact ⟨go h, go fun j => by rw [h]; omega⟩
/-- one lattice has one form -/
theorem hnf_same {W : Nat} {F G : List Rw} (hF : Hnf W F) (hG : Hnf W G) (g : Gen F G) : F = G := by
  have sub : ∀ {A B : List Rw}, Hnf W A → Hnf W B → Gen A B → ∀ a ∈ A, ∃ b ∈ B, piv b = piv a ∧ vl b (piv b) = vl a (piv a) := fun {A B} hA hB g a ha => by
    obtain ⟨b, hb, pb⟩ := ech_lead hB.ech (g.1 a ha).spn (p := piv a) (hA.ech.nz a ha) (ahead_zero (hA.ech.nz a ha))
    have d1 := ech_dvd hB.ech (g.1 a ha) hb fun q hq lt => by
      exact ahead_zero (hA.ech.nz a ha) _ (by omega)
    have d2 := ech_dvd hA.ech (g.2 b hb) ha fun q hq lt => by
      exact ahead_zero (hB.ech.nz b hb) _ (by omega)
    rw [pb] at d1
    have p1 := hA.pos a ha
    have p2 := hB.pos b hb
    rw [pb] at p2
    refine ⟨b, hb, pb, ?_⟩
    rw [pb]
    have l1 := Int.le_of_dvd p1 d1
    have l2 := Int.le_of_dvd p2 d2
    omega
  -- the same pivots, and the same rows at them
  have eq : ∀ {A B : List Rw}, Hnf W A → Hnf W B → Gen A B → ∀ a ∈ A, a ∈ B := fun {A B} hA hB g a ha => by
    obtain ⟨b, hb, pb, vb⟩ := sub hA hB g a ha
    have dif : Lat (inR B) fun j => 1 * vl a j + (-1) * vl b j := .lin _ _ (g.1 a ha) (.mem ⟨b, hb, rfl⟩)
    have rel : ∀ {X : List Rw}, Hnf W X → ∀ x ∈ X, ∀ y ∈ X, piv x ≠ piv y → 0 ≤ vl x (piv y) ∧ vl x (piv y) < vl y (piv y) := fun {X} hX x hx y hy ne => by
      obtain ⟨i, hi⟩ := List.mem_iff_getElem?.mp hx
      obtain ⟨k, hk⟩ := List.mem_iff_getElem?.mp hy
      obtain ⟨li, ei⟩ := List.getElem?_eq_some_iff.mp hi
      obtain ⟨lk, ek⟩ := List.getElem?_eq_some_iff.mp hk
      rcases Nat.lt_trichotomy i k with w | w | w
      · have := List.pairwise_iff_getElem.mp hX.red i k li lk w
        rw [ei, ek] at this; exact this
      · subst w
        rw [ei] at ek; rw [ek] at ne; exact absurd rfl ne
      · have := List.pairwise_iff_getElem.mp hX.asc k i lk li w
        rw [ei, ek] at this
        have z := ahead_zero (hX.ech.nz x hx) _ this
        have := hX.pos y hy
        omega
    have zz : ∀ j, 1 * vl a j + (-1) * vl b j = 0 := fun j => Classical.byContradiction fun c => by
      obtain ⟨p, hp, hz⟩ := first_nz (x := fun j => 1 * vl a j + (-1) * vl b j) ⟨j, c⟩
      obtain ⟨f, hf, rfl⟩ := ech_lead hB.ech dif.spn hp hz
      have dd := ech_dvd hB.ech dif hf fun q _ lt => hz _ lt
      obtain ⟨c, hc, pc, vc⟩ := sub hB hA g.symm f hf
      by_cases e : piv f = piv a
      · have hp' : 1 * vl a (piv f) + (-1) * vl b (piv f) ≠ 0 := hp
        rw [e, ← pb] at hp'
        rw [← pb] at vb
        omega
      · have r1 := rel hA a ha c hc (by rw [pc]; exact fun z => e z.symm)
        have r2 := rel hB b hb f hf (by rw [pb]; exact fun z => e z.symm)
        rw [pc] at r1 vc
        have hp' : 1 * vl a (piv f) + (-1) * vl b (piv f) ≠ 0 := hp
        have l := Int.natAbs_dvd_natAbs.mpr dd
        have l2 := Nat.le_of_dvd (by omega) l
        have p2 := hB.pos f hf
        have : (1 * vl a (piv f) + (-1) * vl b (piv f)).natAbs < (vl f (piv f)).natAbs := by omega
        exact absurd l2 (by omega)
    have : a = b := vl_ext (by rw [hA.len a ha, hB.len b hb]) fun j => by have := zz j; omega
    rw [this]; exact hb
  have fin : ∀ {A B : List Rw}, (A.Pairwise fun f h => piv f < piv h) → (B.Pairwise fun f h => piv f < piv h) → (∀ a ∈ A, a ∈ B) → (∀ b ∈ B, b ∈ A) → A = B := fun {A} => by
    induction A with
    | nil =>
      intro B _ _ _ h
      cases B with
      | nil => rfl
      | cons b B => exact nomatch h b (List.mem_cons_self ..)
    | cons a A ih =>
      intro B hA hB h1 h2
      cases B with
      | nil => exact nomatch h1 a (List.mem_cons_self ..)
      | cons b B =>
        obtain ⟨a1, a2⟩ := List.pairwise_cons.mp hA
        obtain ⟨b1, b2⟩ := List.pairwise_cons.mp hB
        have ab : a = b := by
          rcases List.mem_cons.mp (h1 a (List.mem_cons_self ..)) with w | w
          · exact w
          · rcases List.mem_cons.mp (h2 b (List.mem_cons_self ..)) with v | v
            · exact v.symm
            · have := b1 a w
              have := a1 b v
              omega
        subst ab
        rw [ih a2 b2 (fun x hx => by
          rcases List.mem_cons.mp (h1 x (List.mem_cons_of_mem _ hx)) with w | w
          · have := a1 x hx; rw [w] at this; omega
          · exact w) fun x hx => by
          rcases List.mem_cons.mp (h2 x (List.mem_cons_of_mem _ hx)) with w | w
          · have := b1 x hx; rw [w] at this; omega
          · exact w]
  exact fin hF.asc hG.asc (eq hF hG g) (eq hG hF g.symm)
/-! ### the greatest common divisor and its multiples -/
structure BzI (a b o e x lx y ly : Int) : Prop where
  h1 : o = x * a + y * b
  h2 : e = lx * a + ly * b
  u : x * ly - lx * y = 1 ∨ x * ly - lx * y = -1
  bx : lx.natAbs * o.natAbs + x.natAbs * e.natAbs ≤ b.natAbs
  by_ : ly.natAbs * o.natAbs + y.natAbs * e.natAbs ≤ a.natAbs + 2 * b.natAbs
  cx : x.natAbs ≤ b.natAbs
  cy : y.natAbs ≤ a.natAbs + 2 * b.natAbs
  o0 : o ≠ 0
  ob : o.natAbs ≤ a.natAbs + b.natAbs
  eb : e.natAbs ≤ a.natAbs + b.natAbs
  sg : (0 ≤ o ∧ 0 ≤ e) ∨ (o ≤ 0 ∧ e ≤ 0) ∨ (o = a ∧ e = b ∧ x = 1 ∧ lx = 0 ∧ y = 0 ∧ ly = 1)
theorem bz_start {a b : Int} (ha : 0 < a) (hb : b ≠ 0) : BzI a b a b 1 0 0 1 :=
  ⟨by omega, by omega, .inl (by decide), by simp, by simp, by simp; omega, by simp, by omega, by omega, by omega, .inr (.inr ⟨rfl, rfl, rfl, rfl, rfl, rfl⟩)⟩
theorem fdiv_rest (o : Int) {e : Int} (he : e ≠ 0) : (o - o.fdiv e * e).natAbs < e.natAbs ∧ ((0 < e → 0 ≤ o - o.fdiv e * e) ∧ (e < 0 → o - o.fdiv e * e ≤ 0)) := by
  have h := Int.mul_fdiv_add_fmod o e
  have c : o - o.fdiv e * e = o.fmod e := by rw [Int.mul_comm]; omega
  rw [c]
  rcases Int.lt_trichotomy e 0 with w | w | w
  · have h1 := Int.fmod_nonneg_of_pos (-o) (b := -e) (by omega)
    have h2 := Int.fmod_lt_of_pos (-o) (b := -e) (by omega)
    rw [Int.neg_fmod_neg] at h1 h2
    exact ⟨by omega, fun z => by omega, fun _ => by omega⟩
  · exact absurd w he
  · have h1 := Int.fmod_nonneg_of_pos o w
    have h2 := Int.fmod_lt_of_pos o w
    exact ⟨by omega, fun _ => h1, fun z => by omega⟩
theorem abs_mulsub (x q l : Int) : (x - q * l).natAbs ≤ x.natAbs + q.natAbs * l.natAbs := by
  rw [← Int.natAbs_mul]; omega
theorem bz_same {o e : Int} (he : e ≠ 0) (h : (0 ≤ o ∧ 0 ≤ e) ∨ (o ≤ 0 ∧ e ≤ 0)) : (o.fdiv e).natAbs * e.natAbs + (o - o.fdiv e * e).natAbs = o.natAbs := by
  have h1 := (fdiv_rest o he).2
  have q0 : 0 ≤ o.fdiv e := by
    rcases h with ⟨h1, h2⟩ | ⟨h1, h2⟩
    · exact Int.fdiv_nonneg h1 h2
    · have := Int.fdiv_nonneg (a := -o) (b := -e) (by omega) (by omega)
      rwa [Int.neg_fdiv_neg] at this
  rw [← Int.natAbs_mul]
  generalize o.fdiv e = q at *
  rcases h with ⟨h2, h3⟩ | ⟨h2, h3⟩
  · have : 0 ≤ q * e := Int.mul_nonneg q0 h3
    have := h1.1 (by omega)
    omega
  · have : q * e ≤ 0 := Int.mul_nonpos_of_nonneg_of_nonpos q0 h3
    have := h1.2 (by omega)
    omega
theorem bz_sum {l x q e r o n : Nat} (hq : q * e + r = o) (h : l * o + x * e ≤ n) {k : Nat} (hk : k ≤ x + q * l) : k * e + l * r ≤ n := by
  have h1 : k * e ≤ (x + q * l) * e := Nat.mul_le_mul_right _ hk
  have h2 : (x + q * l) * e = x * e + l * (q * e) := by rw [Nat.add_mul, Nat.mul_comm q l, Nat.mul_assoc]
  have h3 : l * o = l * (q * e) + l * r := by rw [← hq, Nat.mul_add]
  omega
theorem bz_step {a b o e x lx y ly : Int} (ha : 0 < a) (hb : b ≠ 0) (t : BzI a b o e x lx y ly) (he : e ≠ 0) : BzI a b e (o - o.fdiv e * e) lx (x - o.fdiv e * lx) ly (y - o.fdiv e * ly) := by
  obtain ⟨r1, r2, r3⟩ := fdiv_rest o he
  have o1 : 1 ≤ o.natAbs := by have := t.o0; omega
  have clx : lx.natAbs ≤ b.natAbs := by
    have := t.bx
    have : lx.natAbs * 1 ≤ lx.natAbs * o.natAbs := Nat.mul_le_mul_left _ o1
    omega
  have cly : ly.natAbs ≤ a.natAbs + 2 * b.natAbs := by
    have := t.by_
    have : ly.natAbs * 1 ≤ ly.natAbs * o.natAbs := Nat.mul_le_mul_left _ o1
    omega
  have sg' : (0 ≤ e ∧ 0 ≤ o - o.fdiv e * e) ∨ (e ≤ 0 ∧ o - o.fdiv e * e ≤ 0) ∨ (e = a ∧ o - o.fdiv e * e = b ∧ lx = 1 ∧ x - o.fdiv e * lx = 0 ∧ ly = 0 ∧ y - o.fdiv e * ly = 1) := by
    rcases Int.lt_trichotomy e 0 with w | w | w
    · exact .inr (.inl ⟨by omega, r3 w⟩)
    · exact absurd w he
    · exact .inl ⟨by omega, r2 w⟩
  have g1 : e = lx * a + ly * b := t.h2
  have g2 : o - o.fdiv e * e = (x - o.fdiv e * lx) * a + (y - o.fdiv e * ly) * b := by
    have h1 := t.h1
    have h2 := t.h2
    generalize o.fdiv e = q
    rw [h1, h2]; grind
  have gu : lx * (y - o.fdiv e * ly) - (x - o.fdiv e * lx) * ly = 1 ∨ lx * (y - o.fdiv e * ly) - (x - o.fdiv e * lx) * ly = -1 := by
    have : lx * (y - o.fdiv e * ly) - (x - o.fdiv e * lx) * ly = -(x * ly - lx * y) := by grind
    rw [this]
    rcases t.u with w | w <;> rw [w] <;> simp
  have same : (0 ≤ o ∧ 0 ≤ e) ∨ (o ≤ 0 ∧ e ≤ 0) → BzI a b e (o - o.fdiv e * e) lx (x - o.fdiv e * lx) ly (y - o.fdiv e * ly) := fun h => by
    have q := bz_same he h
    have := t.eb
    exact ⟨g1, g2, gu, bz_sum q t.bx (abs_mulsub ..), bz_sum q t.by_ (abs_mulsub ..), clx, cly, he, t.eb, by omega, sg'⟩
  rcases t.sg with h | h | ⟨h1, h2, h3, h4, h5, h6⟩
  · exact same (.inl h)
  · exact same (.inr h)
  · by_cases w : 0 < b
    · exact same (.inl ⟨by omega, by omega⟩)
    · subst h1 h2 h3 h4 h5 h6
      have q : (o.fdiv e).natAbs * e.natAbs ≤ o.natAbs + e.natAbs := by
        rw [← Int.natAbs_mul]
        have := r3 (by omega)
        omega
      refine ⟨g1, g2, gu, by simp, ?_, by simp, by simp; omega, hb, by omega, by omega, sg'⟩
      have : (0 - o.fdiv e * 1).natAbs = (o.fdiv e).natAbs := by omega
      rw [this, show Int.natAbs 1 = 1 from rfl, Nat.one_mul]
      omega
theorem bz_end {a b o x lx y ly : Int} (t : BzI a b o 0 x lx y ly) : o ∣ a ∧ o ∣ b := by
  have h1 := t.h1
  have h2 := t.h2
  rcases t.u with w | w
  · refine ⟨⟨ly, ?_⟩, ⟨-lx, ?_⟩⟩
    · have : a = (x * ly - lx * y) * a := by rw [w]; omega
      have e : (x * ly - lx * y) * a = ly * (x * a + y * b) - y * (lx * a + ly * b) := by grind
      rw [this, e, ← h1, ← h2]; grind
    · have : b = (x * ly - lx * y) * b := by rw [w]; omega
      have e : (x * ly - lx * y) * b = x * (lx * a + ly * b) - lx * (x * a + y * b) := by grind
      rw [this, e, ← h1, ← h2]; grind
  · refine ⟨⟨-ly, ?_⟩, ⟨lx, ?_⟩⟩
    · have : a = -(x * ly - lx * y) * a := by rw [w]; omega
      have e : -(x * ly - lx * y) * a = y * (lx * a + ly * b) - ly * (x * a + y * b) := by grind
      rw [this, e, ← h1, ← h2]; grind
    · have : b = -(x * ly - lx * y) * b := by rw [w]; omega
      have e : -(x * ly - lx * y) * b = lx * (x * a + y * b) - x * (lx * a + ly * b) := by grind
      rw [this, e, ← h1, ← h2]; grind
end AL
set_option Elab.async false
set_option maxRecDepth 100000
set_option exponentiation.threshold 70000
set_option maxHeartbeats 1000000
namespace AL
open PySem PySem.Spec PyProof.Rows L2 RZ
section
variable {P : Program} {w : World} {K : PySem.W.Frag} {mg : Str → Option Value} {base : Heap}

structure ErH (K : PySem.W.Frag) (mg : Str → Option Value) (CParting : Addr) : Prop where
  clParting : Cls K CParting
  mParting : mg "Parting" = some (.ref CParting)
  c1Parting : PySem.W.findIn K (.ref CParting) "__class__" = some (some (.builtin "object.__class__"))
  c2Parting : PySem.W.specialIn K (.builtin "object.__class__") "__get__" = some (some (.builtin "getset_descriptor.__get__"))
  c3Parting : PySem.W.takesIn K (.builtin "object.__class__") = some true
  c4Parting : PySem.W.mroIn K CParting (.type "object") = some true
  zParting : PySem.W.kitOne K (.ref CParting) (.ref CParting) = some true
  nPartinggroup : NoAttr K CParting "group"
  nPartingwhich : NoAttr K CParting "which"

/-- a def with default values, all of its parameters written -/
structure DefDf (dvs : List V) (K : PySem.W.Frag) (mg : Str → Option Value) (x : Str) (st : Stmt) (ps : List Str) (f : Addr) (fd : FuncData) : Prop where
  F : L2.FunD K x x (defArgs st) (defBody st) (defScope st) dvs [] f fd
  m : mg x = some (.ref f)
  b : Binds K fd ps []
/-- a list of whole numbers -/
def LI (H : Hp) (a : Addr) (xs : List Int) : Prop := H a = some (.lst (xs.map V.int))
theorem LI.same {H H' : Hp} {a : Addr} {xs : List Int} (h : LI H a xs) (s : Same H H') : LI H' a xs := s _ _ h
/-- rows of whole numbers -/
def RowsZ (H : Hp) (w : Addr) (ws : List (List Int)) : Prop := ∃ as : List Addr, H w = some (.lst (as.map V.ref)) ∧ Paired (fun a r => H a = some (.lst (r.map V.int))) as ws

theorem RowsZ.same {H H' : Hp} {w : Addr} {ws : List (List Int)} (h : RowsZ H w ws) (s : Same H H') : RowsZ H' w ws := by
  obtain ⟨as, h1, h2⟩ := h
  exact ⟨as, s _ _ h1, paired_mono h2 fun _ _ z => s _ _ z⟩
/-- whole numbers in a list or a tuple -/
def LT (H : Hp) (a : Addr) (xs : List Int) : Prop := H a = some (.lst (xs.map V.int)) ∨ H a = some (.tup (xs.map V.int))
theorem LT.same {H H' : Hp} {a : Addr} {xs : List Int} (h : LT H a xs) (s : Same H H') : LT H' a xs := h.elim (fun z => .inl (s _ _ z)) fun z => .inr (s _ _ z)
theorem LT.seq {K : PySem.W.Frag} {H : Hp} {a : Addr} {xs : List Int} (h : LT H a xs) : SqL K H a (xs.map V.int) ∨ SqT K H a (xs.map V.int) := h.elim (fun z => .inl (SqL.of z)) fun z => .inr (SqT.of z)
theorem LT.sqb {K : PySem.W.Frag} {H : Hp} {a : Addr} {xs : List Int} (h : LT H a xs) : ∃ k, SqB K H a (xs.map V.int) k := h.elim (fun z => ⟨true, SqL.of z⟩) fun z => ⟨false, SqT.of z⟩
/-- rows, each in a list or a tuple -/
def RowsT (H : Hp) (w : Addr) (ws : List (List Int)) : Prop := ∃ as : List Addr, H w = some (.lst (as.map V.ref)) ∧ Paired (fun a r => LT H a r) as ws
theorem RowsT.same {H H' : Hp} {w : Addr} {ws : List (List Int)} (h : RowsT H w ws) (s : Same H H') : RowsT H' w ws := by
  obtain ⟨as, h1, h2⟩ := h
  exact ⟨as, s _ _ h1, paired_mono h2 fun _ _ z => z.same s⟩
theorem RowsZ.toT {H : Hp} {w : Addr} {ws : List (List Int)} (h : RowsZ H w ws) : RowsT H w ws := by
  obtain ⟨as, h1, h2⟩ := h
  exact ⟨as, h1, paired_mono h2 fun _ _ z => .inl z⟩
/-- below 2 ^ b -/
def Bd (b : Nat) (x : Rw) : Prop := ∀ v ∈ x, v.natAbs < 2 ^ b
theorem Bd.mono {b c : Nat} {x : Rw} (h : Bd b x) (le : b ≤ c) : Bd c x := fun v hv => Nat.lt_of_lt_of_le (h v hv) (Nat.pow_le_pow_right (by decide) le)
theorem Bd.vl {b : Nat} {x : Rw} (h : Bd b x) (j : Nat) : (vl x j).natAbs < 2 ^ b := by
  by_cases hj : j < x.length
  · exact h _ (vl_mem hj)
  · rw [vl_out (by omega)]; exact Nat.two_pow_pos b
theorem Bd.of {b : Nat} {x : Rw} (h : ∀ j, (AL.vl x j).natAbs < 2 ^ b) : Bd b x := fun v hv => by
  obtain ⟨j, hj⟩ := List.mem_iff_getElem?.mp hv
  rw [← vl_get hj]; exact h j
def rLenK (K : PySem.W.Frag) : List V → Hp → VK → Prop := fun xs H Q => ∃ p ys, xs = [V.ref p] ∧ (SqL K H p ys ∨ SqT K H p ys) ∧ Q (V.int (ys.length : Nat)) H
theorem call_lenK {X : Cx} : CallR X (.builtin "len") (rLenK X.K) := call_len_seq
def rTup (K : PySem.W.Frag) : List V → Hp → VK → Prop := fun xs H Q => ∃ p ys, xs = [V.ref p] ∧ ((SqL K H p ys ∧ ∀ l, H l = none → Q (.ref l) (upd H l (.tup ys))) ∨ (SqT K H p ys ∧ Q (.ref p) H))
theorem call_tupK {X : Cx} : CallR X (.type "tuple") (rTup X.K) := call_tuple_of
/-- pivot_of(row) -/
def spPv : Sp := fun vs H Q _ => ∃ (a : Addr) (xs : Rw), vs = [.ref a] ∧ LI H a xs ∧ ∀ H', Same H H' → Q (.int (piv xs : Int)) H'
/-- combined(many, one, times, other) -/
def spCm : Sp := fun vs H Q _ => ∃ (m t : Int) (a b : Addr) (xs ys : Rw), vs = [.int m, .ref a, .int t, .ref b] ∧ LI H a xs ∧ LI H b ys ∧ xs.length = ys.length ∧ xs.length ≤ 200 ∧ m.natAbs < 2 ^ 13000 ∧ t.natAbs < 2 ^ 13000 ∧ Bd 13000 xs ∧ Bd 13000 ys ∧
  ∀ D H', H D = none → Same H H' → LI H' D (comb m xs t ys) → Q (.ref D) H'
theorem piv_le : ∀ x : Rw, piv x ≤ x.length
  | [] => Nat.le_refl _
  | a :: r => by
    unfold piv
    have := piv_le r
    rw [List.length_cons]
    split <;> omega
theorem wmul {i j : Int} (h1 : i.natAbs < 2 ^ 13000) (h2 : j.natAbs < 2 ^ 13000) : CMulW i j := wide_mul h1 h2 (by decide) (by decide) (by decide)

abbrev stpivot_of : Stmt := top 1
theorem scpivot_of : FnScope ["row", "at", "item"] ["row"] (defScope stpivot_of) := ⟨rfl, rfl, rfl, by decide +kernel, rfl, by decide +kernel, by decide +kernel⟩
theorem okpivot_of (B : Blt mg)  {fpivot_of : Addr} {fdpivot_of : FuncData} (Dpivot_of : DefAt K mg "pivot_of" stpivot_of ["row"] fpivot_of fdpivot_of) : FnOk P w K mg base CX0 1 fpivot_of fdpivot_of ["row"] spPv := by
  refine Dpivot_of.F.ok scpivot_of (fun vs H Q E h => ?_) (fun cdv A outer s H vs Q E hr h => ?_)
  · obtain ⟨a, xs, rfl, _⟩ := h; rfl
  · have hu := hu_of hr
    refine ⟨_, (pss_cons (ps_for PassesOwn.never rfl (pi_enum (by rfl) B.enumerate_ (pa_cons (pv 0) pa_nil)) (pg_tup rfl (pgs_cons (pg_name (i := 1) scpivot_of.nd rfl (Or.inl rfl)) (pgs_cons (pg_name (i := 2) scpivot_of.nd rfl (Or.inl rfl)) pgs_nil)))
      (pss_one (ps_if (pt_cmpR op_ne (pv 2) pe_int (nomark _)) (pss_one (ps_ret (pv 1))) pss_nil)))
    (pss_one (ps_ret (pe_callB call_len_seq (by rfl) B.len_ (by decide +kernel) (pa_cons (pv 0) pa_nil))))), ?_⟩
    obtain ⟨a, xs, rfl, ha, q⟩ := h
    refine ⟨_, rfl, a, _, rfl, SqL.of ha, for_it (walk_enum (K := K) (a := a) (xs := xs.map V.int)) (fun i σ H' => ∃ v1 v2 : Option V, σ = [some (.ref a), v1, v2] ∧ Same H H' ∧ ∀ j, j < i → vl xs j = 0) ⟨none, none, rfl, (fun _ _ h => h), fun j hj => by omega⟩ (fun i σ H' _ hh => by obtain ⟨_, _, _, s, _⟩ := hh; exact SqL.of (s _ _ ha)) ?_ ?_⟩
    · rintro i x σ H0 H1 hi ⟨v1, v2, rfl, s0, z⟩ ⟨T0, u1, u2, rfl, hT0, rfl, e1, e2⟩
      cases e1
      obtain ⟨k, hk, rfl⟩ := map_int e2
      have ek := vl_get hk
      have sT : Same H (upd H0 T0 (.tup [.int (i : Int), .int k])) := s0.trans (AL.Same.new hT0)
      refine ⟨T0, _, rfl, SqT.of upd_same, rfl, _, _, rfl, _, _, rfl, rfl, ?_⟩
      refine ⟨_, rfl, rfl, _, rfl, ?_⟩
      by_cases k0 : k = 0
      · rw [show (!decide (V.int k = V.int 0)) = false by rw [k0, decide_eq_true rfl]; rfl]
        refine iteF ?_
        refine ⟨_, _, rfl, sT, fun j hj => ?_⟩
        by_cases e : j = i
        · rw [e, ek, k0]
        · exact z j (by omega)
      · rw [show (!decide (V.int k = V.int 0)) = true by rw [decide_eq_false (fun w => k0 (by injection w))]; rfl]
        refine iteT ?_
        have pe : piv xs = i := piv_is (by rw [ek]; exact k0) z
        have qq := q _ sT
        rw [pe] at qq
        exact ⟨_, rfl, qq⟩
    · rintro σ H1 ⟨v1, v2, rfl, s1, z⟩
      rw [List.length_map] at z
      have az : allZ xs := fun v hv => by
        obtain ⟨j, hj⟩ := List.mem_iff_getElem?.mp hv
        rw [← vl_get hj]
        exact z j (List.getElem?_eq_some_iff.mp hj).1
      refine ⟨_, rfl, a, _, rfl, .inl (SqL.of (s1 _ _ ha)), ?_⟩
      rw [List.length_map, ← piv_zero az]
      exact q _ s1
abbrev stcombined : Stmt := top 2
theorem sccombined : FnScope ["many", "one", "times", "other", "a", "b"] ["many", "one", "times", "other"] (defScope stcombined) := ⟨rfl, rfl, rfl, by decide +kernel, rfl, by decide +kernel, by decide +kernel⟩
theorem okcombined (B : Blt mg)  {fcombined : Addr} {fdcombined : FuncData} (Dcombined : DefAt K mg "combined" stcombined ["many", "one", "times", "other"] fcombined fdcombined) : FnOk P w K mg base CX0 1 fcombined fdcombined ["many", "one", "times", "other"] spCm := by
  refine Dcombined.F.ok sccombined (fun vs H Q E h => ?_) (fun cdv A outer s H vs Q E hr h => ?_)
  · obtain ⟨m, t, a, b, xs, ys, rfl, _⟩ := h; rfl
  · have hu := hu_of hr
    refine ⟨_, (pss_one (ps_ret (pe_lc (own := [("a", 4), ("b", 5)]) (g := (gTup K 2 (gCons (gName 4) (gCons (gName 5) gNil)))) (tt := tYes) rfl sccombined.nd (pi_zip (by rfl) B.zip_ (pa_cons (pv 1) (pa_cons (pv 3) pa_nil))) (blkOk_by (own := [("a", 4), ("b", 5)]) (N := ["many", "one", "times", "other", "a", "b"]) (sc := defScope stcombined) (by decide +kernel)) (fun _ _ _ _ _ => (pg_tup rfl (pgs_cons (pg_name (i := 4) sccombined.nd rfl (Or.inl rfl)) (pgs_cons (pg_name (i := 5) sccombined.nd rfl (Or.inl rfl)) pgs_nil)))) (fun _ _ _ _ _ => pts_nil) (fun _ _ _ _ _ => (pe_op op_add (pe_op op_mulW (pv 0) (pv 4)) (pe_op op_mulW (pv 2) (pv 5))))))), ?_⟩
    obtain ⟨m, t, a, b, xs, ys, rfl, ha, hb, hl, l2, bm, bt, bx, by_, q⟩ := h
    refine ⟨_, rfl, _, rfl, a, b, _, _, rfl, SqL.of ha, SqL.of hb, fun D hD => ?_⟩
    refine lc_it (walk_zip (K := K) (a := a) (b := b) (xs := xs.map V.int) (ys := ys.map V.int) (n := xs.length) (by rw [List.length_map, List.length_map]; omega)) (fun i H' => Same H H' ∧ H' D = some (.lst (((comb m xs t ys).take i).map V.int))) ⟨AL.Same.new hD, upd_same⟩ (fun i H' _ hh => ⟨SqL.of (hh.1 _ _ ha), SqL.of (hh.1 _ _ hb)⟩) ?_ ?_
    · rintro i x0 H0 H1' hi ⟨s0, hd0⟩ ⟨T0, u1, u2, rfl, hT, rfl, e1, e2⟩
      obtain ⟨z1, c1, rfl⟩ := map_int e1
      obtain ⟨z2, c2, rfl⟩ := map_int e2
      have hDT : D ≠ T0 := fun z => by rw [z, hT] at hd0; cases hd0
      have sT : Same H (upd H0 T0 (.tup [.int z1, .int z2])) := s0.trans (AL.Same.new hT)
      refine ⟨T0, _, rfl, SqT.of upd_same, rfl, _, _, rfl, _, _, rfl, rfl, rfl, ?_⟩
      refine ⟨_, rfl, _, rfl, _, _, rfl, rfl, wmul bm (bx _ (List.mem_of_getElem? c1)), _, rfl, _, rfl, _, _, rfl, rfl, wmul bt (by_ _ (List.mem_of_getElem? c2)), _, _, rfl, rfl, _, Eq.trans (upd_ne hDT) hd0, ?_, AL.Same.updn sT hD, ?_⟩
      · rw [List.length_map, List.length_take]
        exact Nat.lt_of_le_of_lt (by omega : _ ≤ 1000) (by decide)
      · have g : (comb m xs t ys)[i]? = some (m * z1 + t * z2) := by unfold comb; rw [List.getElem?_zipWith, c1, c2]
        rw [upd_same, List.take_add_one, g, List.map_append]
        rfl
    · rintro H3 ⟨s3, hd3⟩
      rw [List.take_of_length_le (by rw [comb_len hl]; exact Nat.le_refl _)] at hd3
      exact q D H3 hD s3 hd3
end
end AL
set_option Elab.async false
set_option maxRecDepth 100000
set_option exponentiation.threshold 70000
set_option maxHeartbeats 1000000
namespace AL
open PySem PySem.Spec PyProof.Rows L2 RZ
section
variable {P : Program} {w : World} {K : PySem.W.Frag} {mg : Str → Option Value} {base : Heap}

def unitR (n j : Nat) : Rw := (List.range n).map fun k => if k = j then 1 else 0
def idM (n : Nat) : List Rw := (List.range n).map (unitR n)
def trM (n : Nat) (rows : List Rw) : List Rw := (List.range n).map fun j => rows.map fun r => vl r j
/-- identity(many) -/
def spId : Sp := fun vs H Q _ => ∃ (n : Nat), vs = [.int (n : Int)] ∧ n ≤ 100 ∧ ∀ D H', H D = none → Same H H' → RowsZ H' D (idM n) → Q (.ref D) H'
/-- transposed(rows) -/
def spTr : Sp := fun vs H Q _ => ∃ (w : Addr) (n : Nat) (rows : List Rw), vs = [.ref w] ∧ RowsT H w rows ∧ rows ≠ [] ∧ (∀ r ∈ rows, r.length = n) ∧ n ≤ 100 ∧ rows.length ≤ 100 ∧ ∀ D H', H D = none → Same H H' → RowsZ H' D (trM n rows) → Q (.ref D) H'
/-- rows in a list or a tuple, rows of either kind -/
def RowsA (H : Hp) (w : Addr) (ws : List Rw) : Prop := ∃ as : List Addr, (H w = some (.lst (as.map V.ref)) ∨ H w = some (.tup (as.map V.ref))) ∧ Paired (fun a r => LT H a r) as ws
theorem RowsT.toA {H : Hp} {w : Addr} {ws : List Rw} (h : RowsT H w ws) : RowsA H w ws := by
  obtain ⟨as, h1, h2⟩ := h
  exact ⟨as, .inl h1, h2⟩
/-- transposed(rows) -/
def spTrA : Sp := fun vs H Q _ => ∃ (w : Addr) (n : Nat) (rows : List Rw), vs = [.ref w] ∧ RowsA H w rows ∧ rows ≠ [] ∧ (∀ r ∈ rows, r.length = n) ∧ n ≤ 100 ∧ rows.length ≤ 100 ∧ ∀ D H', H D = none → Same H H' → RowsZ H' D (trM n rows) → Q (.ref D) H'
theorem sq_of0 {K : PySem.W.Frag} {H : Hp} {a : Addr} {us : List V} (h : H a = some (.lst us) ∨ H a = some (.tup us)) : ∃ k, ∀ H', Same H H' → SqB K H' a us k := by
  rcases h with h | h
  · exact ⟨true, fun H' s => SqL.of (s _ _ h)⟩
  · exact ⟨false, fun H' s => SqT.of (s _ _ h)⟩
theorem rIx_seq0 {K : PySem.W.Frag} {H : Hp} {a : Addr} {xs : List V} {i : Int} {v : V} {Q : VK} (h : H a = some (.lst xs) ∨ H a = some (.tup xs)) (g : atI xs i = some v) (q : Q v H) : rIx K (.ref a) (.int i) H Q := by
  rcases h with h | h
  · exact .inl ⟨a, _, _, _, rfl, rfl, SqL.of h, g, q⟩
  · exact .inr (.inl ⟨a, _, _, _, rfl, rfl, SqT.of h, g, q⟩)
theorem atI_of {xs : List V} {j : Nat} (h : j < xs.length) : atI xs ((j : Nat) : Int) = xs[j]? := by
  unfold atI ixN
  rw [if_pos (by omega), if_pos (by omega)]
  show xs[((j : Int)).toNat]? = _
  rw [Int.toNat_natCast]
theorem unitR_len (n j : Nat) : (unitR n j).length = n := by unfold unitR; rw [List.length_map, List.length_range]
theorem trM_len (n : Nat) (rows : List Rw) : (trM n rows).length = n := by unfold trM; rw [List.length_map, List.length_range]
theorem idM_len (n : Nat) : (idM n).length = n := by unfold idM; rw [List.length_map, List.length_range]
theorem rowsZ_snoc {H : Hp} {D : Addr} {as : List Addr} {rs : List Rw} {b : Addr} {r : Rw} (h : H D = some (.lst (as.map V.ref))) (pr : Paired (fun a r => a ≠ D ∧ H a = some (.lst (r.map V.int))) as rs) (bD : b ≠ D) (hb : H b = some (.lst (r.map V.int))) :
    upd H D (.lst (as.map V.ref ++ [.ref b])) D = some (.lst ((as ++ [b]).map V.ref)) ∧ Paired (fun a r => a ≠ D ∧ upd H D (.lst (as.map V.ref ++ [.ref b])) a = some (.lst (r.map V.int))) (as ++ [b]) (rs ++ [r]) :=
  ⟨by rw [upd_same, List.map_append]; rfl, prd_snoc (paired_mono pr fun a r z => ⟨z.1, by rw [upd_ne z.1]; exact z.2⟩) ⟨bD, by rw [upd_ne bD]; exact hb⟩⟩

abbrev stidentity : Stmt := top 7
theorem scidentity : FnScope ["many", "row", "at"] ["many"] (defScope stidentity) := ⟨rfl, rfl, rfl, by decide +kernel, rfl, by decide +kernel, by decide +kernel⟩
theorem okidentity (B : Blt mg)  {fidentity : Addr} {fdidentity : FuncData} (Didentity : DefAt K mg "identity" stidentity ["many"] fidentity fdidentity) : FnOk P w K mg base CX0 1 fidentity fdidentity ["many"] spId := by
  refine Didentity.F.ok scidentity (fun vs H Q E h => ?_) (fun cdv A outer s H vs Q E hr h => ?_)
  · obtain ⟨n, rfl, _⟩ := h; rfl
  · have hu := hu_of hr
    refine ⟨_, (pss_one (ps_ret (pe_lc (own := [("row", 1)]) (g := gName 1) (tt := tYes) rfl scidentity.nd (pi_range1 rfl B.range_ (pa_cons (pv 0) pa_nil)) (blkOk_by (own := [("row", 1)]) (N := ["many", "row", "at"]) (by kernel_rfl)) (fun _ _ _ _ _ => (pg_name (i := 1) scidentity.nd rfl (Or.inr rfl))) (fun _ _ _ _ _ => pts_nil) (fun _ _ _ _ _ => (pe_lc (own := [("at", 2)]) (g := gName 2) (tt := tYes) rfl scidentity.nd (pi_range1 rfl B.range_ (pa_cons (pv 0) pa_nil)) (blkOk_by (own := [("at", 2)]) (N := ["many", "row", "at"]) (by kernel_rfl)) (fun _ _ _ _ _ => (pg_name (i := 2) scidentity.nd rfl (Or.inl rfl))) (fun _ _ _ _ _ => pts_nil) (fun _ _ _ _ _ => (pe_ifExp (pt_cmpR op_eq (pv 2) (pv 1) (nomark _)) pe_int pe_int))))))), ?_⟩
    obtain ⟨n, rfl, hn, q⟩ := h
    refine ⟨_, rfl, _, rfl, by omega, by omega, fun D hD => ?_⟩
    refine lc_range (lo := 0) (n := ((n : Int)).toNat) (fun i H' => Same H H' ∧ ∃ as : List Addr, H' D = some (.lst (as.map V.ref)) ∧ Paired (fun a r => a ≠ D ∧ H' a = some (.lst (r.map V.int))) as ((idM n).take i)) ⟨AL.Same.new hD, [], upd_same, .nil⟩ ?_ ?_
    · rintro i H1 hi ⟨s1, as, hd, pr⟩
      rw [Int.toNat_natCast] at hi
      refine ⟨rfl, ?_⟩
      refine ⟨_, rfl, _, rfl, by omega, by omega, fun D2 hD2 => ?_⟩
      refine lc_range (lo := 0) (n := ((n : Int)).toNat) (fun j H' => Same H1 H' ∧ H' D2 = some (.lst (((unitR n i).take j).map V.int))) ⟨AL.Same.new hD2, upd_same⟩ ?_ ?_
      · rintro j H2 hj ⟨s2, hd2⟩
        rw [Int.toNat_natCast] at hj
        refine ⟨rfl, ?_⟩
        have g : (unitR n i)[j]? = some (if j = i then 1 else 0) := by unfold unitR; rw [List.getElem?_map, List.getElem?_range hj]; rfl
        have put : ∀ v : Int, v = (if j = i then 1 else 0) → ∃ acc, H2 D2 = some (.lst acc) ∧ acc.length < sizeLine ∧ Same H1 (upd H2 D2 (.lst (acc ++ [.int v]))) ∧ upd H2 D2 (.lst (acc ++ [.int v])) D2 = some (.lst (((unitR n i).take (j + 1)).map V.int)) := fun v hv => by
          refine ⟨_, hd2, ?_, AL.Same.updn s2 hD2, ?_⟩
          · rw [List.length_map, List.length_take]; exact Nat.lt_of_le_of_lt (by omega : _ ≤ 1000) (by decide)
          · rw [upd_same, List.take_add_one, g, hv, List.map_append]; rfl
        refine ⟨_, rfl, _, rfl, rfl, _, rfl, ?_⟩
        by_cases e : j = i
        · rw [decide_eq_true (by rw [e])]
          refine iteT ?_
          exact put _ (by rw [if_pos e])
        · rw [decide_eq_false (fun z => e (by injection z with z; omega))]
          refine iteF ?_
          exact put _ (by rw [if_neg e])
      · rintro H2 ⟨s2, hd2⟩
        rw [List.take_of_length_le (by rw [unitR_len, Int.toNat_natCast]; exact Nat.le_refl _)] at hd2
        have bD : D2 ≠ D := fun z => by rw [z, hd] at hD2; cases hD2
        have la := prd_len pr
        rw [List.length_take] at la
        obtain ⟨r1, r2⟩ := rowsZ_snoc (s2 _ _ hd) (paired_mono pr fun _ _ z => ⟨z.1, s2 _ _ z.2⟩) bD hd2
        refine ⟨_, s2 _ _ hd, ?_, AL.Same.updn (s1.trans s2) hD, as ++ [D2], r1, ?_⟩
        · rw [List.length_map]; exact Nat.lt_of_le_of_lt (by omega : _ ≤ 1000) (by decide)
        · have g : (idM n)[i]? = some (unitR n i) := by unfold idM; rw [List.getElem?_map, List.getElem?_range hi]; rfl
          rw [List.take_add_one, g]
          exact r2
    rintro H1 ⟨s1, as, hd, pr⟩
    rw [Int.toNat_natCast, List.take_of_length_le (by rw [idM_len]; exact Nat.le_refl _)] at pr
    exact q D H1 hD s1 ⟨as, hd, paired_mono pr fun _ _ z => z.2⟩
abbrev sttransposed : Stmt := top 8
theorem sctransposed : FnScope ["rows", "at", "row"] ["rows"] (defScope sttransposed) := ⟨rfl, rfl, rfl, by decide +kernel, rfl, by decide +kernel, by decide +kernel⟩
theorem oktransposed (B : Blt mg)  {ftransposed : Addr} {fdtransposed : FuncData} (Dtransposed : DefAt K mg "transposed" sttransposed ["rows"] ftransposed fdtransposed) : FnOk P w K mg base CX0 1 ftransposed fdtransposed ["rows"] spTrA := by
  refine Dtransposed.F.ok sctransposed (fun vs H Q E h => ?_) (fun cdv A outer s H vs Q E hr h => ?_)
  · obtain ⟨w, n, rows, rfl, _⟩ := h; rfl
  · have hu := hu_of hr
    refine ⟨_, (pss_one (ps_ret (pe_lc (own := [("at", 1)]) (g := gName 1) (tt := tYes) rfl sctransposed.nd (pi_range1 rfl B.range_ (pa_cons (pe_callB (call_lenK : CallR _ (.builtin "len") (rLenK K)) (by rfl) B.len_ (by decide +kernel) (pa_cons (pe_ix (ix_seq : IxR _ (rIx K)) (pv 0) pe_int (fun _ _ => rfl)) pa_nil)) pa_nil)) (blkOk_by (own := [("at", 1)]) (N := ["rows", "at", "row"]) (by kernel_rfl)) (fun _ _ _ _ _ => (pg_name (i := 1) sctransposed.nd rfl (Or.inr rfl))) (fun _ _ _ _ _ => pts_nil) (fun _ _ _ _ _ => (pe_lc (own := [("row", 2)]) (g := gName 2) (tt := tYes) rfl sctransposed.nd (pi_seq (pv 0) : PI _ _ _ (iSeq K (tVar 0))) (blkOk_by (own := [("row", 2)]) (N := ["rows", "at", "row"]) (by kernel_rfl)) (fun _ _ _ _ _ => (pg_name (i := 2) sctransposed.nd rfl (Or.inl rfl))) (fun _ _ _ _ _ => pts_nil) (fun _ _ _ _ _ => (pe_ix (ix_seq : IxR _ (rIx K)) (pv 2) (pv 1) (fun _ _ => rfl)))))))), ?_⟩
    obtain ⟨w, n, rows, rfl, hw, ne, hl, hn, hm, q⟩ := h
    obtain ⟨as, W1, W2⟩ := hw
    obtain ⟨k, sq⟩ := sq_of0 (K := K) W1
    have la := prd_len W2
    obtain ⟨r0, rows', rfl⟩ : ∃ r0 rows', rows = r0 :: rows' := by
      cases rows with
      | nil => exact absurd rfl ne
      | cons r0 rows' => exact ⟨r0, rows', rfl⟩
    obtain ⟨a0, as', rfl⟩ : ∃ a0 as', as = a0 :: as' := by
      cases as with
      | nil => simp at la
      | cons a0 as' => exact ⟨a0, as', rfl⟩
    have h0 : LT H a0 r0 := by cases W2 with | cons z _ => exact z
    have l0 := hl r0 (List.mem_cons_self ..)
    generalize hRows : r0 :: rows' = rows at *
    have g0 : atI ((a0 :: as').map V.ref) 0 = some (.ref a0) := atI_of (by rw [List.length_map, List.length_cons]; omega : 0 < _)
    refine ⟨_, rfl, rIx_seq0 W1 g0 ?_⟩
    refine ⟨a0, _, rfl, h0.seq, _, rfl, by omega, by rw [List.length_map]; omega, fun D hD => ?_⟩
    refine lc_range (lo := 0) (n := (((r0.map V.int).length : Int)).toNat) (fun i H' => Same H H' ∧ ∃ bs : List Addr, H' D = some (.lst (bs.map V.ref)) ∧ Paired (fun a r => a ≠ D ∧ H' a = some (.lst (r.map V.int))) bs ((trM n rows).take i)) ⟨AL.Same.new hD, [], upd_same, .nil⟩ ?_ ?_
    · rintro i H1 hi ⟨s1, bs, hd, pr⟩
      rw [Int.toNat_natCast, List.length_map, l0] at hi
      refine ⟨rfl, ?_⟩
      refine ⟨_, rfl, w, k, rfl, ⟨_, sq _ s1⟩, fun D2 hD2 => ?_⟩
      refine lc_seq (K := K) (a := w) (k := k) (xs := (a0 :: as').map V.ref) (fun j H' => Same H1 H' ∧ H' D2 = some (.lst (((rows.map fun r => vl r i).take j).map V.int))) ⟨AL.Same.new hD2, upd_same⟩ (fun i H' _ hh => sq _ (s1.trans hh.1)) ?_ ?_
      · rintro j x H2 hx ⟨s2, hd2⟩
        obtain ⟨a, ha, rfl⟩ := map_ref hx
        obtain ⟨r, hr, hra⟩ := prd_get W2 ha
        have lr := hl r (List.mem_of_getElem? hr)
        have jl := (List.getElem?_eq_some_iff.mp hr).1
        refine ⟨rfl, ?_⟩
        have z0 : (0 : Int) + (i : Int) = ((i : Nat) : Int) := Int.zero_add _
        have gi : atI (r.map V.int) ((0 : Int) + (i : Int)) = some (.int (vl r i)) := by rw [z0, atI_of (by rw [List.length_map]; omega), List.getElem?_map, vl_at (by omega : i < r.length)]; rfl
        have fin : ∃ acc, H2 D2 = some (.lst acc) ∧ acc.length < sizeLine ∧ Same H1 (upd H2 D2 (.lst (acc ++ [.int (vl r i)]))) ∧ upd H2 D2 (.lst (acc ++ [.int (vl r i)])) D2 = some (.lst (((rows.map fun r => vl r i).take (j + 1)).map V.int)) := by
          refine ⟨_, hd2, ?_, AL.Same.updn s2 hD2, ?_⟩
          · rw [List.length_map, List.length_take, List.length_map]; exact Nat.lt_of_le_of_lt (by omega : _ ≤ 1000) (by decide)
          · have g : (rows.map fun r => vl r i)[j]? = some (vl r i) := by rw [List.getElem?_map, hr]; rfl
            rw [upd_same, List.take_add_one, g, List.map_append]; rfl
        refine ⟨_, rfl, _, rfl, ?_⟩
        rcases (hra.same (s1.trans s2)).seq (K := K) with hq | hq
        · exact .inl ⟨a, _, _, _, rfl, rfl, hq, gi, fin⟩
        · exact .inr (.inl ⟨a, _, _, _, rfl, rfl, hq, gi, fin⟩)
      · rintro H2 ⟨s2, hd2⟩
        rw [List.take_of_length_le (by rw [List.length_map, List.length_map]; omega)] at hd2
        have bD : D2 ≠ D := fun z => by rw [z, hd] at hD2; cases hD2
        have lb := prd_len pr
        rw [List.length_take, trM_len] at lb
        obtain ⟨r1, r2⟩ := rowsZ_snoc (s2 _ _ hd) (paired_mono pr fun _ _ z => ⟨z.1, s2 _ _ z.2⟩) bD hd2
        refine ⟨_, s2 _ _ hd, ?_, AL.Same.updn (s1.trans s2) hD, bs ++ [D2], r1, ?_⟩
        · rw [List.length_map]; exact Nat.lt_of_le_of_lt (by omega : _ ≤ 1000) (by decide)
        · have g : (trM n rows)[i]? = some (rows.map fun r => vl r i) := by unfold trM; rw [List.getElem?_map, List.getElem?_range hi]; rfl
          rw [List.take_add_one, g]
          exact r2
    rintro H1 ⟨s1, bs, hd, pr⟩
    rw [List.take_of_length_le (by rw [trM_len, Int.toNat_natCast, List.length_map, l0]; exact Nat.le_refl _)] at pr
    exact q D H1 hD s1 ⟨bs, hd, paired_mono pr fun _ _ z => z.2⟩
abbrev st_law_turned : Stmt := top 31
theorem sc_law_turned : FnScope ["_law_rows", "_law_k", "_law_row"] ["_law_rows"] (defScope st_law_turned) := ⟨rfl, rfl, rfl, by decide +kernel, rfl, by decide +kernel, by decide +kernel⟩
theorem ok_law_turned (B : Blt mg)  {f_law_turned : Addr} {fd_law_turned : FuncData} (D_law_turned : DefAt K mg "_law_turned" st_law_turned ["_law_rows"] f_law_turned fd_law_turned) : FnOk P w K mg base CX0 1 f_law_turned fd_law_turned ["_law_rows"] spTr := by
  refine D_law_turned.F.ok sc_law_turned (fun vs H Q E h => ?_) (fun cdv A outer s H vs Q E hr h => ?_)
  · obtain ⟨w, n, rows, rfl, _⟩ := h; rfl
  · have hu := hu_of hr
    refine ⟨_, (pss_one (ps_ret (pe_lc (own := [("_law_k", 1)]) (g := gName 1) (tt := tYes) rfl sc_law_turned.nd (pi_range1 rfl B.range_ (pa_cons (pe_callB (call_lenK : CallR _ (.builtin "len") (rLenK K)) (by rfl) B.len_ (by decide +kernel) (pa_cons (pe_ix (ix_list : IxR _ (rIxL K)) (pv 0) pe_int (fun _ _ => rfl)) pa_nil)) pa_nil)) (blkOk_by (own := [("_law_k", 1)]) (N := ["_law_rows", "_law_k", "_law_row"]) (by kernel_rfl)) (fun _ _ _ _ _ => (pg_name (i := 1) sc_law_turned.nd rfl (Or.inr rfl))) (fun _ _ _ _ _ => pts_nil) (fun _ _ _ _ _ => (pe_lc (own := [("_law_row", 2)]) (g := gName 2) (tt := tYes) rfl sc_law_turned.nd (pi_list (pv 0) : PI _ _ _ (iList K (tVar 0))) (blkOk_by (own := [("_law_row", 2)]) (N := ["_law_rows", "_law_k", "_law_row"]) (by kernel_rfl)) (fun _ _ _ _ _ => (pg_name (i := 2) sc_law_turned.nd rfl (Or.inl rfl))) (fun _ _ _ _ _ => pts_nil) (fun _ _ _ _ _ => (pe_ix (ix_seq : IxR _ (rIx K)) (pv 2) (pv 1) (fun _ _ => rfl)))))))), ?_⟩
    obtain ⟨w, n, rows, rfl, hw, ne, hl, hn, hm, q⟩ := h
    obtain ⟨as, W1, W2⟩ := hw
    have la := prd_len W2
    obtain ⟨r0, rows', rfl⟩ : ∃ r0 rows', rows = r0 :: rows' := by
      cases rows with
      | nil => exact absurd rfl ne
      | cons r0 rows' => exact ⟨r0, rows', rfl⟩
    obtain ⟨a0, as', rfl⟩ : ∃ a0 as', as = a0 :: as' := by
      cases as with
      | nil => simp at la
      | cons a0 as' => exact ⟨a0, as', rfl⟩
    have h0 : LT H a0 r0 := by cases W2 with | cons z _ => exact z
    have l0 := hl r0 (List.mem_cons_self ..)
    generalize hRows : r0 :: rows' = rows at *
    refine ⟨_, rfl, w, _, _, _, rfl, rfl, SqL.of W1, atI_of (by rw [List.length_map, List.length_cons]; omega : 0 < _), a0, _, rfl, h0.seq, _, rfl, by omega, by rw [List.length_map]; omega, fun D hD => ?_⟩
    refine lc_range (lo := 0) (n := (((r0.map V.int).length : Int)).toNat) (fun i H' => Same H H' ∧ ∃ bs : List Addr, H' D = some (.lst (bs.map V.ref)) ∧ Paired (fun a r => a ≠ D ∧ H' a = some (.lst (r.map V.int))) bs ((trM n rows).take i)) ⟨AL.Same.new hD, [], upd_same, .nil⟩ ?_ ?_
    · rintro i H1 hi ⟨s1, bs, hd, pr⟩
      rw [Int.toNat_natCast, List.length_map, l0] at hi
      refine ⟨rfl, ?_⟩
      refine ⟨_, rfl, w, rfl, ⟨_, SqL.of (s1 _ _ W1)⟩, fun D2 hD2 => ?_⟩
      refine lc_list (K := K) (a := w) (xs := (a0 :: as').map V.ref) (fun j H' => Same H1 H' ∧ H' D2 = some (.lst (((rows.map fun r => vl r i).take j).map V.int))) ⟨AL.Same.new hD2, upd_same⟩ (fun i H' _ hh => SqL.of (hh.1 _ _ (s1 _ _ W1))) ?_ ?_
      · rintro j x H2 hx ⟨s2, hd2⟩
        obtain ⟨a, ha, rfl⟩ := map_ref hx
        obtain ⟨r, hr, hra⟩ := prd_get W2 ha
        have lr := hl r (List.mem_of_getElem? hr)
        have jl := (List.getElem?_eq_some_iff.mp hr).1
        refine ⟨rfl, ?_⟩
        have z0 : (0 : Int) + (i : Int) = ((i : Nat) : Int) := Int.zero_add _
        have gi : atI (r.map V.int) ((0 : Int) + (i : Int)) = some (.int (vl r i)) := by rw [z0, atI_of (by rw [List.length_map]; omega), List.getElem?_map, vl_at (by omega : i < r.length)]; rfl
        have fin : ∃ acc, H2 D2 = some (.lst acc) ∧ acc.length < sizeLine ∧ Same H1 (upd H2 D2 (.lst (acc ++ [.int (vl r i)]))) ∧ upd H2 D2 (.lst (acc ++ [.int (vl r i)])) D2 = some (.lst (((rows.map fun r => vl r i).take (j + 1)).map V.int)) := by
          refine ⟨_, hd2, ?_, AL.Same.updn s2 hD2, ?_⟩
          · rw [List.length_map, List.length_take, List.length_map]; exact Nat.lt_of_le_of_lt (by omega : _ ≤ 1000) (by decide)
          · have g : (rows.map fun r => vl r i)[j]? = some (vl r i) := by rw [List.getElem?_map, hr]; rfl
            rw [upd_same, List.take_add_one, g, List.map_append]; rfl
        refine ⟨_, rfl, _, rfl, ?_⟩
        rcases (hra.same (s1.trans s2)).seq (K := K) with hq | hq
        · exact .inl ⟨a, _, _, _, rfl, rfl, hq, gi, fin⟩
        · exact .inr (.inl ⟨a, _, _, _, rfl, rfl, hq, gi, fin⟩)
      · rintro H2 ⟨s2, hd2⟩
        rw [List.take_of_length_le (by rw [List.length_map, List.length_map]; omega)] at hd2
        have bD : D2 ≠ D := fun z => by rw [z, hd] at hD2; cases hD2
        have lb := prd_len pr
        rw [List.length_take, trM_len] at lb
        obtain ⟨r1, r2⟩ := rowsZ_snoc (s2 _ _ hd) (paired_mono pr fun _ _ z => ⟨z.1, s2 _ _ z.2⟩) bD hd2
        refine ⟨_, s2 _ _ hd, ?_, AL.Same.updn (s1.trans s2) hD, bs ++ [D2], r1, ?_⟩
        · rw [List.length_map]; exact Nat.lt_of_le_of_lt (by omega : _ ≤ 1000) (by decide)
        · have g : (trM n rows)[i]? = some (rows.map fun r => vl r i) := by unfold trM; rw [List.getElem?_map, List.getElem?_range hi]; rfl
          rw [List.take_add_one, g]
          exact r2
    rintro H1 ⟨s1, bs, hd, pr⟩
    rw [List.take_of_length_le (by rw [trM_len, Int.toNat_natCast, List.length_map, l0]; exact Nat.le_refl _)] at pr
    exact q D H1 hD s1 ⟨bs, hd, paired_mono pr fun _ _ z => z.2⟩
end
end AL
set_option Elab.async false
set_option maxRecDepth 100000
set_option exponentiation.threshold 70000
set_option maxHeartbeats 1000000
namespace AL
open PySem PySem.Spec PyProof.Rows L2 RZ
section
variable {P : Program} {w : World} {K : PySem.W.Frag} {mg : Str → Option Value} {base : Heap}

theorem fdivP_le {a b : Int} (hb : 0 < b) : (a.fdiv b).natAbs ≤ a.natAbs := by
  have h := Int.mul_fdiv_add_fmod a b
  have h1 := Int.fmod_nonneg_of_pos a hb
  have h2 := Int.fmod_lt_of_pos a hb
  generalize a.fdiv b = q at *
  generalize a.fmod b = r at *
  rcases Int.lt_trichotomy q 0 with w | w | w
  · have k : (b - 1) * (-(q + 1)) ≥ 0 := Int.mul_nonneg (by omega) (by omega)
    have e : (b - 1) * (-(q + 1)) = -(b * q) - b + q + 1 := by grind
    omega
  · rw [w]; exact Nat.zero_le _
  · have k : (b - 1) * q ≥ 0 := Int.mul_nonneg (by omega) (by omega)
    have e : (b - 1) * q = b * q - q := by grind
    omega
theorem fdivA_le (a : Int) {b : Int} (hb : b ≠ 0) : (a.fdiv b).natAbs ≤ a.natAbs := by
  rcases Int.lt_trichotomy b 0 with w | w | w
  · have := fdivP_le (a := -a) (b := -b) (by omega)
    rw [Int.neg_fdiv_neg] at this
    omega
  · exact absurd w hb
  · exact fdivP_le w
theorem wml {i j : Int} {m n : Nat} (h1 : i.natAbs < 2 ^ m) (h2 : j.natAbs < 2 ^ n) (hm : m ≤ 100000) (hn : n ≤ 100000) : CMulW i j := wide_mul (Nat.lt_of_lt_of_le h1 (Nat.pow_le_pow_right (by decide) (by omega : m ≤ m + 1))) (Nat.lt_of_lt_of_le h2 (Nat.pow_le_pow_right (by decide) (by omega : n ≤ n + 1))) (by omega) (by omega) (by omega)
/-- bezout(one, other), one above 0, other not 0 -/
def spBz : Sp := fun vs H Q _ => ∃ a b : Int, vs = [.int a, .int b] ∧ 0 < a ∧ b ≠ 0 ∧ a.natAbs < 2 ^ 13000 ∧ b.natAbs < 2 ^ 13000 ∧
  ∀ t H' (g x y : Int), Same H H' → H' t = some (.tup [.int g, .int x, .int y]) → 0 < g → g = x * a + y * b → g ∣ a → g ∣ b → x.natAbs ≤ b.natAbs → y.natAbs ≤ a.natAbs + 2 * b.natAbs → Q (.ref t) H'

abbrev stbezout : Stmt := top 3
theorem scbezout : FnScope ["one", "other", "x", "later_x", "y", "later_y", "many"] ["one", "other"] (defScope stbezout) := ⟨rfl, rfl, rfl, by decide +kernel, rfl, by decide +kernel, by decide +kernel⟩
theorem okbezout (B : Blt mg)  {fbezout : Addr} {fdbezout : FuncData} (Dbezout : DefAt K mg "bezout" stbezout ["one", "other"] fbezout fdbezout) : FnOk P w K mg base CX0 1 fbezout fdbezout ["one", "other"] spBz := by
  refine Dbezout.F.ok scbezout (fun vs H Q E h => ?_) (fun cdv A outer s H vs Q E hr h => ?_)
  · obtain ⟨a, b, rfl, _⟩ := h; rfl
  · have hu := hu_of hr
    refine ⟨_, (pss_cons (ps_asg (pe_tup (pa_cons pe_int (pa_cons pe_int pa_nil))) (pg_tup rfl (pgs_cons (pg_name (i := 2) scbezout.nd rfl (Or.inl rfl)) (pgs_cons (pg_name (i := 3) scbezout.nd rfl (Or.inl rfl)) pgs_nil))))
    (pss_cons (ps_asg (pe_tup (pa_cons pe_int (pa_cons pe_int pa_nil))) (pg_tup rfl (pgs_cons (pg_name (i := 4) scbezout.nd rfl (Or.inl rfl)) (pgs_cons (pg_name (i := 5) scbezout.nd rfl (Or.inl rfl)) pgs_nil))))
    (pss_cons (ps_while PassesOwn.never (pt_cmpR op_ne (pv 1) pe_int (nomark _)) (pss_cons (ps_set (i := 6) scbezout.nd rfl (Or.inl rfl) (pe_op op_fdivB (pv 0) (pv 1)))
    (pss_cons (ps_par (i := 0) (j := 1) (by rfl) scbezout.nd rfl rfl (by decide) rfl rfl (pa_cons (pv 1) (pa_cons (pe_op op_sub (pv 0) (pe_op op_mulW (pv 6) (pv 1))) pa_nil)) (by rfl))
    (pss_cons (ps_par (i := 2) (j := 3) (by rfl) scbezout.nd rfl rfl (by decide) rfl rfl (pa_cons (pv 3) (pa_cons (pe_op op_sub (pv 2) (pe_op op_mulW (pv 6) (pv 3))) pa_nil)) (by rfl))
    (pss_one (ps_par (i := 4) (j := 5) (by rfl) scbezout.nd rfl rfl (by decide) rfl rfl (pa_cons (pv 5) (pa_cons (pe_op op_sub (pv 4) (pe_op op_mulW (pv 6) (pv 5))) pa_nil)) (by rfl)))))))
    (pss_cons (ps_if (pt_cmpR op_lt (pv 0) pe_int (nomark _)) (pss_one (ps_ret (pe_tup (pa_cons (pe_un un_neg (pv 0)) (pa_cons (pe_un un_neg (pv 2)) (pa_cons (pe_un un_neg (pv 4)) pa_nil)))))) pss_nil)
    (pss_one (ps_ret (pe_tup (pa_cons (pv 0) (pa_cons (pv 2) (pa_cons (pv 4) pa_nil)))))))))), ?_⟩
    obtain ⟨a, b, rfl, a0, b0, ba, bb, q⟩ := h
    refine ⟨(by show 2 ≤ sizeLine; decide), fun T hT => ?_⟩
    have n1 := AL.Same.new (o := .tup [.int 1, .int 0]) hT
    refine ⟨T, _, rfl, SqT.of upd_same, rfl, _, _, rfl, _, _, rfl, rfl, ?_⟩
    refine ⟨(by show 2 ≤ sizeLine; decide), fun T2 hT2 => ?_⟩
    have n2 := AL.Same.new (o := .tup [.int 0, .int 1]) hT2
    refine ⟨T2, _, rfl, SqT.of upd_same, rfl, _, _, rfl, _, _, rfl, rfl, ?_⟩
    refine ⟨fun m σ H' => ∃ (o e x lx y ly : Int) (v6 : Option V), σ = [some (.int o), some (.int e), some (.int x), some (.int lx), some (.int y), some (.int ly), v6] ∧ Same H H' ∧ BzI a b o e x lx y ly ∧ e.natAbs = m, ⟨_, a, b, 1, 0, 0, 1, none, rfl, n1.trans n2, bz_start a0 b0, rfl⟩, ?_⟩
    rintro m σ H1 ⟨o, e, x, lx, y, ly, v6, rfl, s1, t, rfl⟩
    refine ⟨_, rfl, rfl, _, rfl, ?_⟩
    by_cases e0 : e = 0
    · rw [show (!decide (V.int e = V.int 0)) = false by rw [e0, decide_eq_true rfl]; rfl]
      refine iteF ?_
      subst e0
      obtain ⟨d1, d2⟩ := bz_end t
      have h1 := t.h1
      have cx := t.cx
      have cy := t.cy
      have o0 := t.o0
      refine ⟨_, rfl, _, _, rfl, rfl, _, rfl, ?_⟩
      by_cases c : o < 0
      · rw [decide_eq_true c]
        refine iteT ?_
        refine ⟨_, rfl, _, rfl, _, rfl, _, rfl, _, rfl, _, rfl, (by show 3 ≤ sizeLine; decide), fun t0 ht => ?_⟩
        exact q t0 _ (-o) (-x) (-y) (s1.trans (AL.Same.new ht)) upd_same (by omega) (by rw [h1]; grind) (Int.neg_dvd.mpr d1) (Int.neg_dvd.mpr d2) (by omega) (by omega)
      · rw [decide_eq_false c]
        refine iteF ?_
        refine ⟨_, rfl, _, rfl, _, rfl, (by show 3 ≤ sizeLine; decide), fun t0 ht => ?_⟩
        exact q t0 _ o x y (s1.trans (AL.Same.new ht)) upd_same (by omega) h1 d1 d2 cx cy
    · rw [show (!decide (V.int e = V.int 0)) = true by rw [decide_eq_false (fun w => e0 (by injection w))]; rfl]
      refine iteT ?_
      have ob := t.ob
      have eb := t.eb
      have cx := t.cx
      have cy := t.cy
      have t' := bz_step a0 b0 t e0
      have lt := (fdiv_rest o e0).1
      have two : 2 ^ 13000 + 2 ^ 13000 = 2 ^ 13001 := by rw [Nat.pow_succ 2 13000, Nat.mul_two]
      have ob2 : o.natAbs < 2 ^ 13001 := by omega
      have eb2 : e.natAbs < 2 ^ 13001 := by omega
      have qb : (o.fdiv e).natAbs < 2 ^ 13001 := Nat.lt_of_le_of_lt (fdivA_le o e0) ob2
      have four : 2 ^ 13001 + 2 ^ 13001 = 2 ^ 13002 := by rw [Nat.pow_succ 2 13001, Nat.mul_two]
      have o1 : 1 ≤ o.natAbs := by have := t.o0; omega
      have clx : lx.natAbs < 2 ^ 13002 := by
        have := t.bx
        have : lx.natAbs * 1 ≤ lx.natAbs * o.natAbs := Nat.mul_le_mul_left _ o1
        omega
      have cly : ly.natAbs < 2 ^ 13002 := by
        have := t.by_
        have : ly.natAbs * 1 ≤ ly.natAbs * o.natAbs := Nat.mul_le_mul_left _ o1
        omega
      have p35 : 2 ^ 13001 ≤ 2 ^ 13500 := Nat.pow_le_pow_right (by decide) (by decide)
      clear two four
      generalize hqe : o.fdiv e = qq at *
      refine ⟨fun σ' H' => ∃ (o' e' x lx y ly : Int) (v6 : Option V), σ' = [some (.int o'), some (.int e'), some (.int x), some (.int lx), some (.int y), some (.int ly), v6] ∧ Same H H' ∧ BzI a b o' e' x lx y ly ∧ e'.natAbs < e.natAbs, ?_, ?_⟩
      · rintro σ' H' ⟨o', e', x, lx, y, ly, v6, rfl, s, t, l⟩
        exact ⟨_, l, o', e', x, lx, y, ly, v6, rfl, s, t, rfl⟩
      refine ⟨_, rfl, _, rfl, o, e, rfl, rfl, ⟨e0, by omega⟩, ?_⟩
      dsimp only
      rw [hqe]
      have xb : x.natAbs < 2 ^ 13002 := Nat.lt_of_le_of_lt cx (Nat.lt_of_lt_of_le bb (Nat.pow_le_pow_right (by decide) (by decide)))
      refine ⟨_, rfl, _, rfl, _, rfl, _, rfl, _, _, rfl, rfl, wml qb eb2 (by decide) (by decide), _, _, rfl, rfl, _, _, rfl, ?_⟩
      refine ⟨_, rfl, _, rfl, _, rfl, _, rfl, _, _, rfl, rfl, wml qb clx (by decide) (by decide), _, _, rfl, rfl, _, _, rfl, ?_⟩
      refine ⟨_, rfl, _, rfl, _, rfl, _, rfl, _, _, rfl, rfl, wml qb cly (by decide) (by decide), _, _, rfl, rfl, _, _, rfl, ?_⟩
      exact ⟨_, _, _, _, _, _, _, rfl, s1, t', lt⟩
end
end AL
set_option Elab.async false
set_option maxRecDepth 100000
set_option exponentiation.threshold 70000
set_option maxHeartbeats 1000000
namespace AL
open PySem PySem.Spec PyProof.Rows L2 RZ
section
variable {P : Program} {w : World} {K : PySem.W.Frag} {mg : Str → Option Value} {base : Heap}

theorem BdR.bd {e b : Nat} {r : Rw} (h : BdR (2 ^ e) r) (l : e < b) : Bd b r := Bd.of fun j => Nat.lt_of_le_of_lt (h j) (Nat.pow_lt_pow_right (by decide) l)
/-- taken_in(basis, row) -/
def spTk : Sp := fun vs H Q _ => ∃ (b r : Addr) (W M : Nat) (F : List Rw) (r0 : Rw), vs = [.ref b, .ref r] ∧ RowsZ H b F ∧ LI H r r0 ∧ Hnf W F ∧ (∀ f ∈ F, BdR (2 ^ M) f) ∧ r0.length = W ∧ BdR (2 ^ (M + 1)) r0 ∧ W ≤ 100 ∧ F.length ≤ 20 ∧ 2 * ((M + 1) * (F.length + 1)) + 2 < 13000 ∧
  ∀ D H' Z, Same H H' → RowsZ H' D Z → Ech W Z → Gen Z (F ++ [r0]) → (∀ k ∈ Z, BdR (2 ^ (2 * ((M + 1) * (F.length + 1)) + 2)) k) → Z.length ≤ F.length + 1 → Q (.ref D) H'

abbrev sttaken_in : Stmt := top 5
theorem sctaken_in : FnScope ["basis", "row", "kept", "held", "at", "first", "shared", "x", "y"] ["basis", "row"] (defScope sttaken_in) := ⟨rfl, rfl, rfl, by decide +kernel, rfl, by decide +kernel, by decide +kernel⟩
theorem oktaken_in (B : Blt mg)  {fbezout : Addr} {fdbezout : FuncData} (Dbezout : DefAt K mg "bezout" stbezout ["one", "other"] fbezout fdbezout) {fcombined : Addr} {fdcombined : FuncData} (Dcombined : DefAt K mg "combined" stcombined ["many", "one", "times", "other"] fcombined fdcombined) {fpivot_of : Addr} {fdpivot_of : FuncData} (Dpivot_of : DefAt K mg "pivot_of" stpivot_of ["row"] fpivot_of fdpivot_of) {ftaken_in : Addr} {fdtaken_in : FuncData} (Dtaken_in : DefAt K mg "taken_in" sttaken_in ["basis", "row"] ftaken_in fdtaken_in) : FnOk P w K mg base CX0 2 ftaken_in fdtaken_in ["basis", "row"] spTk := by
  have OKbezout : FnOk P w K mg base CX0 1 fbezout fdbezout ["one", "other"] spBz := okbezout B  Dbezout
  have OKcombined : FnOk P w K mg base CX0 1 fcombined fdcombined ["many", "one", "times", "other"] spCm := okcombined B  Dcombined
  have OKpivot_of : FnOk P w K mg base CX0 1 fpivot_of fdpivot_of ["row"] spPv := okpivot_of B  Dpivot_of
  refine Dtaken_in.F.ok sctaken_in (fun vs H Q E h => ?_) (fun cdv A outer s H vs Q E hr h => ?_)
  · obtain ⟨b, r, W, M, F, r0, rfl, _⟩ := h; rfl
  · have hu := hu_of hr
    refine ⟨_, (pss_cons (ps_set (i := 2) sctaken_in.nd rfl (Or.inl rfl) (pe_lst pa_nil))
    (pss_cons (ps_for PassesOwn.never rfl (pi_list (pv 0)) (pg_name (i := 3) sctaken_in.nd rfl (Or.inl rfl))
      (pss_cons (ps_set (i := 4) sctaken_in.nd rfl (Or.inl rfl) (pe_call OKpivot_of (hr.mono (by decide)) rfl Dpivot_of.m Dpivot_of.F.kp Dpivot_of.b .nil pass0 (pa_cons (pv 3) pa_nil)))
    (pss_cons (ps_set (i := 5) sctaken_in.nd rfl (Or.inl rfl) (pe_call OKpivot_of (hr.mono (by decide)) rfl Dpivot_of.m Dpivot_of.F.kp Dpivot_of.b .nil pass0 (pa_cons (pv 1) pa_nil)))
    (pss_one (ps_if (pt_cmpR op_lt (pv 5) (pv 4) (nomark _)) (pss_cons (ps_expr (pe_bm PySem.F.plainAttrs_list PySem.F.slot_list_append PySem.F.type_list_append mt_append (pv 2) (pa_cons (pv 1) pa_nil)))
    (pss_one (ps_set (i := 1) sctaken_in.nd rfl (Or.inl rfl) (pv 3)))) (pss_one (ps_if (pt_cmpR op_gt (pv 5) (pv 4) (nomark _)) (pss_one (ps_expr (pe_bm PySem.F.plainAttrs_list PySem.F.slot_list_append PySem.F.type_list_append mt_append (pv 2) (pa_cons (pv 3) pa_nil)))) (pss_one (ps_if (pt_cmpR op_eq (pe_op op_modN (pe_ix ix_list (pv 1) (pv 4) (fun _ _ => rfl)) (pe_ix ix_list (pv 3) (pv 4) (fun _ _ => rfl))) pe_int (nomark _)) (pss_cons (ps_expr (pe_bm PySem.F.plainAttrs_list PySem.F.slot_list_append PySem.F.type_list_append mt_append (pv 2) (pa_cons (pv 3) pa_nil)))
    (pss_one (ps_set (i := 1) sctaken_in.nd rfl (Or.inl rfl) (pe_call OKcombined (hr.mono (by decide)) rfl Dcombined.m Dcombined.F.kp Dcombined.b .nil pass0 (pa_cons pe_int (pa_cons (pv 1) (pa_cons (pe_un un_neg (pe_op op_fdivB (pe_ix ix_list (pv 1) (pv 4) (fun _ _ => rfl)) (pe_ix ix_list (pv 3) (pv 4) (fun _ _ => rfl)))) (pa_cons (pv 3) pa_nil)))))))) (pss_cons (ps_asg (pe_call OKbezout (hr.mono (by decide)) rfl Dbezout.m Dbezout.F.kp Dbezout.b .nil pass0 (pa_cons (pe_ix ix_list (pv 3) (pv 4) (fun _ _ => rfl)) (pa_cons (pe_ix ix_list (pv 1) (pv 4) (fun _ _ => rfl)) pa_nil))) (pg_tup rfl (pgs_cons (pg_name (i := 6) sctaken_in.nd rfl (Or.inl rfl)) (pgs_cons (pg_name (i := 7) sctaken_in.nd rfl (Or.inl rfl)) (pgs_cons (pg_name (i := 8) sctaken_in.nd rfl (Or.inl rfl)) pgs_nil)))))
    (pss_cons (ps_expr (pe_bm PySem.F.plainAttrs_list PySem.F.slot_list_append PySem.F.type_list_append mt_append (pv 2) (pa_cons (pe_call OKcombined (hr.mono (by decide)) rfl Dcombined.m Dcombined.F.kp Dcombined.b .nil pass0 (pa_cons (pv 7) (pa_cons (pv 3) (pa_cons (pv 8) (pa_cons (pv 1) pa_nil))))) pa_nil)))
    (pss_one (ps_set (i := 1) sctaken_in.nd rfl (Or.inl rfl) (pe_call OKcombined (hr.mono (by decide)) rfl Dcombined.m Dcombined.F.kp Dcombined.b .nil pass0 (pa_cons (pe_op op_fdivB (pe_ix ix_list (pv 3) (pv 4) (fun _ _ => rfl)) (pv 6)) (pa_cons (pv 1) (pa_cons (pe_un un_neg (pe_op op_fdivB (pe_ix ix_list (pv 1) (pv 4) (fun _ _ => rfl)) (pv 6))) (pa_cons (pv 3) pa_nil))))))))))))))))))
    (pss_cons (ps_if (pt_val (pe_callB (cr_anyI rfl) (by rfl) B.any_ (by decide +kernel) (pa_cons (pv 1) pa_nil))) (pss_one (ps_expr (pe_bm PySem.F.plainAttrs_list PySem.F.slot_list_append PySem.F.type_list_append mt_append (pv 2) (pa_cons (pv 1) pa_nil)))) pss_nil)
    (pss_one (ps_ret (pv 2)))))), ?_⟩
    obtain ⟨b, r, W, M, F, r0, rfl, hb, hr, hF, bF, l0, b0, lw, lF, sz, q⟩ := h
    obtain ⟨fs, B1, B2⟩ := hb
    have lfs := prd_len B2
    have EF := hF.ech
    generalize hY : 2 ^ (2 * ((M + 1) * (F.length + 1)) + 2) = Y at q
    refine ⟨(by show 0 ≤ sizeLine; decide), fun D hD => ?_⟩
    have n1 := AL.Same.new (o := .lst []) hD
    have rD : r ≠ D := fun z => by rw [z] at hr; unfold LI at hr; rw [hD] at hr; cases hr
    refine ⟨_, rfl, b, rfl, ⟨_, SqL.of (n1 _ _ B1)⟩, for_list (K := K) (a := b) (xs := fs.map V.ref) (fun i σ H' => ∃ (ra : Addr) (row : Rw) (ks : List Addr) (kept : List Rw) (v3 v4 v5 v6 v7 v8 : Option V), σ = [some (.ref b), some (.ref ra), some (.ref D), v3, v4, v5, v6, v7, v8] ∧ Same H H' ∧ H' D = some (.lst (ks.map V.ref)) ∧ Paired (fun a (z : Rw) => a ≠ D ∧ LI H' a z) ks kept ∧ ra ≠ D ∧ LI H' ra row ∧ TkI W M Y F r0 i kept row ∧ kept.length ≤ i) ⟨r, r0, [], [], none, none, none, none, none, none, rfl, n1, upd_same, .nil, rD, hr.same n1, tk_start hF.len l0 b0, Nat.le_refl _⟩ (fun i σ H' _ hh => by obtain ⟨_, _, _, _, _, _, _, _, _, _, _, s, _⟩ := hh; exact SqL.of (s _ _ B1)) ?_ ?_⟩
    · rintro i x σ H1 hx ⟨ra, row, ks, kept, v3, v4, v5, v6, v7, v8, rfl, s1, hd, prk, raD, hra, t, lk⟩
      obtain ⟨ha, hha, rfl⟩ := map_ref hx
      obtain ⟨held, hheld, hh0⟩ := prd_get B2 hha
      have il := (List.getElem?_eq_some_iff.mp hheld).1
      have mh := List.mem_of_getElem? hheld
      have hh1 : LI H1 ha held := s1 _ _ hh0
      have haD : ha ≠ D := fun z => by rw [z, hD] at hh0; cases hh0
      refine ⟨_, rfl, ha, held, rfl, hh1, fun H2 s2 => ?_⟩
      refine ⟨_, rfl, ra, row, rfl, hra.same s2, fun H3 s3 => ?_⟩
      have s23 := s2.trans s3
      have hd3 := s23 _ _ hd
      have hra3 := hra.same s23
      have hh3 := hh1.same s23
      have prk3 : Paired (fun a (z : Rw) => a ≠ D ∧ LI H3 a z) ks kept := paired_mono prk fun _ _ z => ⟨z.1, z.2.same s23⟩
      have S3 := s1.trans s23
      clear s2 s3 s23 hd hra hh1 prk s1
      have lks := prd_len prk3
      have push : ∀ {HH : Hp} {a : Addr} {z : Rw}, Same H3 HH → a ≠ D → LI HH a z → Same H (upd HH D (.lst (ks.map V.ref ++ [.ref a]))) ∧ upd HH D (.lst (ks.map V.ref ++ [.ref a])) D = some (.lst ((ks ++ [a]).map V.ref)) ∧ Paired (fun a' (r : Rw) => a' ≠ D ∧ LI (upd HH D (.lst (ks.map V.ref ++ [.ref a]))) a' r) (ks ++ [a]) (kept ++ [z]) := fun {HH a z} s aD hz => by
        obtain ⟨r1, r2⟩ := rowsZ_snoc (s _ _ hd3) (paired_mono prk3 fun _ _ w => ⟨w.1, w.2.same s⟩) aD hz
        exact ⟨AL.Same.updn (S3.trans s) hD, r1, r2⟩
      have lenk : (ks.map V.ref).length < sizeLine := by rw [List.length_map, lks]; exact Nat.lt_of_le_of_lt (by omega : _ ≤ 1000) (by decide)
      have e1 : (M + 1) * (i + 1) ≤ (M + 1) * (F.length + 1) := Nat.mul_le_mul_left _ (by omega)
      have e2 : (M + 1) * (i + 2) = (M + 1) * (i + 1) + (M + 1) := Nat.mul_succ (M + 1) (i + 1)
      have e3 : (M + 1) * (i + 1) = (M + 1) * i + (M + 1) := Nat.mul_succ (M + 1) i
      have yX : 2 ^ ((M + 1) * (i + 1)) ≤ Y := by rw [← hY]; exact Nat.pow_le_pow_right (by decide) (by omega)
      have yM : 2 ^ M ≤ Y := by rw [← hY]; exact Nat.pow_le_pow_right (by decide) (by omega)
      refine ⟨_, rfl, _, rfl, _, _, rfl, rfl, _, rfl, ?_⟩
      by_cases c1 : piv row < piv held
      · rw [decide_eq_true (by omega : (piv row : Int) < (piv held : Int))]
        refine iteT ?_
        refine ⟨_, rfl, .inl ⟨rfl, _, SqL.of hd3⟩, _, rfl, D, _, _, rfl, rfl, hd3, lenk, ?_⟩
        obtain ⟨p1, p2, p3⟩ := push (fun _ _ h => h) raD hra3
        exact ⟨_, rfl, ha, held, ks ++ [ra], kept ++ [row], _, _, _, _, _, _, rfl, p1, p2, p3, haD, Eq.trans (upd_ne haD) hh3, tk_low EF bF t hheld yX c1, by rw [List.length_append]; exact Nat.succ_le_succ lk⟩
      rw [decide_eq_false (by omega : ¬ (piv row : Int) < (piv held : Int))]
      refine iteF ?_
      refine ⟨_, rfl, _, rfl, _, _, rfl, rfl, _, rfl, ?_⟩
      by_cases c2 : piv held < piv row
      · rw [decide_eq_true (by omega : (piv row : Int) > (piv held : Int))]
        refine iteT ?_
        refine ⟨_, rfl, .inl ⟨rfl, _, SqL.of hd3⟩, _, rfl, D, _, _, rfl, rfl, hd3, lenk, ?_⟩
        obtain ⟨p1, p2, p3⟩ := push (fun _ _ h => h) haD hh3
        exact ⟨ra, row, ks ++ [ha], kept ++ [held], _, _, _, _, _, _, rfl, p1, p2, p3, raD, Eq.trans (upd_ne raD) hra3, tk_high EF bF t hheld yM c2, by rw [List.length_append]; exact Nat.succ_le_succ lk⟩
      rw [decide_eq_false (by omega : ¬ (piv row : Int) > (piv held : Int))]
      refine iteF ?_
      have c : piv row = piv held := by omega
      have hp := hF.pos held mh
      have lh := hF.len held mh
      have lrow := t.lr
      have pW := piv_lt_len (by omega : vl held (piv held) ≠ 0)
      have hn : held.length = row.length := by rw [lh, lrow]
      have br := t.br
      have gr : atI (row.map V.int) ((piv held : Nat) : Int) = some (.int (vl row (piv held))) := by rw [atI_of (by rw [List.length_map]; omega), List.getElem?_map, vl_at (by omega)]; rfl
      have gh : atI (held.map V.int) ((piv held : Nat) : Int) = some (.int (vl held (piv held))) := by rw [atI_of (by rw [List.length_map]; omega), List.getElem?_map, vl_at (by omega)]; rfl
      have rn : vl row (piv held) ≠ 0 := by rw [← c]; exact nz_of_lt (by rw [c]; omega)
      have bra := br (piv held)
      have bha := bF held mh (piv held)
      generalize hXe : (M + 1) * (i + 1) = X at *
      have X1 : M + 1 ≤ X := by omega
      have X2 : 2 * X + 2 < 13000 := by omega
      have pM : 2 ^ M ≤ 2 ^ X := Nat.pow_le_pow_right (by decide) (by omega)
      have BR : Bd 13000 row := br.bd (by omega)
      have BH : Bd 13000 held := (bF held mh).bd (by omega)
      have xl : 2 ^ X < 2 ^ 13000 := Nat.pow_lt_pow_right (by decide) (by omega)
      have ml : 2 ^ M < 2 ^ 13000 := Nat.pow_lt_pow_right (by decide) (by omega)
      have l35 : 2 ^ 13000 ≤ 2 ^ 13500 := Nat.pow_le_pow_right (by decide) (by decide)
      have stX : 2 ^ X * 2 ^ M + 2 ^ X * 2 ^ M = 2 ^ (X + (M + 1)) := by rw [← Nat.pow_add, show X + (M + 1) = (X + M) + 1 by omega, Nat.pow_succ 2 (X + M), Nat.mul_two]
      have o1 : 1 ≤ 2 ^ M := Nat.two_pow_pos M
      have oX : 2 ^ X * 1 ≤ 2 ^ X * 2 ^ M := Nat.mul_le_mul_left _ o1
      refine ⟨_, rfl, _, rfl, ra, _, _, _, rfl, rfl, SqL.of hra3, gr, _, rfl, _, rfl, ha, _, _, _, rfl, rfl, SqL.of hh3, gh, _, _, rfl, rfl, by omega, rfl, _, rfl, ?_⟩
      have fm := Int.mul_fdiv_add_fmod (vl row (piv held)) (vl held (piv held))
      by_cases cz : (vl row (piv held)).fmod (vl held (piv held)) = 0
      · rw [show decide ((fun i j => V.int (i.fmod j)) (vl row (piv held)) (vl held (piv held)) = V.int 0) = true from decide_eq_true (congrArg V.int cz)]
        refine iteT ?_
        obtain ⟨p1, p2, p3⟩ := push (fun _ _ h => h) haD hh3
        refine ⟨_, rfl, .inl ⟨rfl, _, SqL.of hd3⟩, _, rfl, D, _, _, rfl, rfl, hd3, lenk, ?_⟩
        have hra4 : LI (upd H3 D (.lst (ks.map V.ref ++ [.ref ha]))) ra row := Eq.trans (upd_ne raD) hra3
        have hh4 : LI (upd H3 D (.lst (ks.map V.ref ++ [.ref ha]))) ha held := Eq.trans (upd_ne haD) hh3
        have tb := fdivA_le (vl row (piv held)) (b := vl held (piv held)) (by omega)
        refine ⟨_, rfl, _, rfl, _, rfl, ra, _, _, _, rfl, rfl, SqL.of hra4, gr, _, rfl, _, rfl, ha, _, _, _, rfl, rfl, SqL.of hh4, gh, _, _, rfl, rfl, ⟨by omega, by omega⟩, _, rfl, _, rfl, 1, _, ra, ha, row, held, rfl, hra4, hh4, hn.symm, by omega, (by show 1 < 2 ^ 13000; exact Nat.lt_of_lt_of_le (by decide : 1 < 2 ^ 1) (Nat.pow_le_pow_right (by decide) (by decide))), by omega, BR, BH, fun D2 H5 hD2 s5 h5 => ?_⟩
        have D2D : D2 ≠ D := fun z => by rw [z, p2] at hD2; cases hD2
        refine ⟨D2, _, ks ++ [ha], kept ++ [held], _, _, _, _, _, _, rfl, p1.trans s5, s5 _ _ p2, paired_mono p3 fun _ _ z => ⟨z.1, z.2.same s5⟩, D2D, h5, ?_, by rw [List.length_append]; exact Nat.succ_le_succ lk⟩
        refine tk_same EF bF t hheld c (p := 1) (q := 0) (r := -((vl row (piv held)).fdiv (vl held (piv held)))) (s := 1) (fun j => by omega) (fun j => by rw [comb_vl hn.symm]; omega) (by omega) lh (by rw [comb_len hn.symm]; exact lrow) (by omega) (by
          rw [comb_vl hn.symm, Int.neg_mul, Int.mul_comm ((vl row (piv held)).fdiv _)]; omega) ((bF held mh).mono yM) ?_
        rw [e2]
        refine (comb_bd (a := 1) (b := 2 ^ X) (c := 2 ^ X) (d := 2 ^ M) hn.symm (by decide) br (by omega) (bF held mh)).mono ?_
        omega
      · rw [decide_eq_false (fun z => cz (by injection z))]
        refine iteF ?_
        refine ⟨_, rfl, _, rfl, ha, _, _, _, rfl, rfl, SqL.of hh3, gh, _, rfl, _, rfl, ra, _, _, _, rfl, rfl, SqL.of hra3, gr, vl held (piv held), vl row (piv held), rfl, hp, rn, by omega, by omega, fun tb H4 gg x y s4 ht g0 ge d1 d2 bx by_ => ?_⟩
        refine ⟨tb, _, rfl, SqT.of ht, rfl, _, _, rfl, _, _, rfl, _, _, rfl, rfl, ?_⟩
        have hd4 := s4 _ _ hd3
        have hra4 := hra3.same s4
        have hh4 := hh3.same s4
        have fx1 := fdiv_ex (by omega : gg ≠ 0) d1
        have fx2 := fdiv_ex (by omega : gg ≠ 0) d2
        have q1 := fdivA_le (vl held (piv held)) (b := gg) (by omega)
        have q2 := fdivA_le (vl row (piv held)) (b := gg) (by omega)
        have x4 : 2 ^ X * 4 ≤ 2 ^ 13000 := by
          rw [show 2 ^ X * 4 = 2 ^ (X + 2) by rw [Nat.pow_add]]
          exact Nat.pow_le_pow_right (by decide) (by omega)
        refine ⟨_, rfl, .inl ⟨rfl, _, SqL.of hd4⟩, _, rfl, _, rfl, _, rfl, _, rfl, x, y, ha, ra, held, row, rfl, hh4, hra4, hn, by omega, by omega, by omega, BH, BR, fun D2 H5 hD2 s5 h5 => ?_⟩
        have hd5 := s5 _ _ hd4
        have D2D : D2 ≠ D := fun z => by rw [z, hd4] at hD2; cases hD2
        obtain ⟨p1, p2, p3⟩ := push (s4.trans s5) D2D h5
        refine ⟨D, _, _, rfl, rfl, hd5, lenk, ?_⟩
        have hra6 : LI (upd H5 D (.lst (ks.map V.ref ++ [.ref D2]))) ra row := Eq.trans (upd_ne raD) (hra4.same s5)
        have hh6 : LI (upd H5 D (.lst (ks.map V.ref ++ [.ref D2]))) ha held := Eq.trans (upd_ne haD) (hh4.same s5)
        refine ⟨_, rfl, _, rfl, ha, _, _, _, rfl, rfl, SqL.of hh6, gh, _, rfl, _, _, rfl, rfl, ⟨by omega, by omega⟩, _, rfl, _, rfl, _, rfl, ra, _, _, _, rfl, rfl, SqL.of hra6, gr, _, rfl, _, _, rfl, rfl, ⟨by omega, by omega⟩, _, rfl, _, rfl, _, _, ra, ha, row, held, rfl, hra6, hh6, hn.symm, by omega, by omega, by omega, BR, BH, fun D3 H7 hD3 s7 h7 => ?_⟩
        have D3D : D3 ≠ D := fun z => by rw [z, p2] at hD3; cases hD3
        refine ⟨D3, _, ks ++ [D2], kept ++ [_], _, _, _, _, _, _, rfl, p1.trans s7, s7 _ _ p2, paired_mono p3 fun _ _ z => ⟨z.1, z.2.same s7⟩, D3D, h7, ?_, by rw [List.length_append]; exact Nat.succ_le_succ lk⟩
        generalize (vl held (piv held)).fdiv gg = u at *
        generalize (vl row (piv held)).fdiv gg = v at *
        refine tk_same EF bF t hheld c (p := x) (q := y) (r := -v) (s := u) (fun j => comb_vl hn j) (fun j => by rw [comb_vl hn.symm]; omega) ?_ (by rw [comb_len hn]; exact lh) (by rw [comb_len hn.symm]; exact lrow) ?_ ?_ ?_ ?_
        · have : gg * (x * u - y * -v) = gg * 1 := by
            have : gg * (x * u - y * -v) = x * (gg * u) + y * (gg * v) := by grind
            rw [this, fx1, fx2]; omega
          exact Int.eq_of_mul_eq_mul_left (by omega) this
        · rw [comb_vl hn]; omega
        · rw [comb_vl hn.symm]
          have : gg * (u * vl row (piv held) + -v * vl held (piv held)) = (gg * u) * vl row (piv held) - (gg * v) * vl held (piv held) := by grind
          rw [fx1, fx2] at this
          have z : gg * (u * vl row (piv held) + -v * vl held (piv held)) = 0 := by rw [this]; grind
          exact (Int.mul_eq_zero.mp z).resolve_left (by omega)
        · refine (comb_bd (a := 2 ^ X) (b := 2 ^ M) (c := 3 * 2 ^ X) (d := 2 ^ X) hn (by omega) (bF held mh) (by omega) br).mono ?_
          rw [← hY]
          have h1 : 2 ^ X * 2 ^ M ≤ 2 ^ X * 2 ^ X := Nat.mul_le_mul_left _ pM
          have h2 : 3 * 2 ^ X * 2 ^ X = 3 * (2 ^ X * 2 ^ X) := Nat.mul_assoc ..
          have h3 : 2 ^ X * 2 ^ X * 4 = 2 ^ (2 * X + 2) := by rw [Nat.pow_add, Nat.two_mul, Nat.pow_add]
          have h4 : 2 ^ (2 * X + 2) ≤ 2 ^ (2 * ((M + 1) * (F.length + 1)) + 2) := Nat.pow_le_pow_right (by decide) (by omega)
          omega
        · rw [e2]
          refine (comb_bd (a := 2 ^ M) (b := 2 ^ X) (c := 2 ^ X) (d := 2 ^ M) hn.symm (by omega) br (by omega) (bF held mh)).mono ?_
          rw [Nat.mul_comm (2 ^ M) (2 ^ X)]
          omega
    · rintro σ H1 ⟨ra, row, ks, kept, v3, v4, v5, v6, v7, v8, rfl, s1, hd, prk, raD, hra, t, lk⟩
      rw [List.length_map, lfs] at t lk
      have lks := prd_len prk
      have sz2 : (M + 1) * (F.length + 1) ≤ 2 * ((M + 1) * (F.length + 1)) + 2 := by omega
      have yb : 2 ^ ((M + 1) * (F.length + 1)) ≤ Y := by rw [← hY]; exact Nat.pow_le_pow_right (by decide) sz2
      obtain ⟨k1, k2, k3, k4⟩ := tk_end t yb rfl
      refine ⟨_, rfl, ra, row, rfl, SqL.of hra, _, rfl, ?_⟩
      by_cases z : allZ row
      · rw [show (row.any fun k => decide (k ≠ 0)) = false by
          rw [List.any_eq_false]; intro k hk; rw [z k hk]; decide]
        refine iteF ?_
        rw [if_pos z] at k1 k2 k3 k4
        exact ⟨_, rfl, q D H1 kept s1 ⟨ks, hd, paired_mono prk fun _ _ z => z.2⟩ k1 k2 k3 (by omega)⟩
      · rw [show (row.any fun k => decide (k ≠ 0)) = true by
          rw [List.any_eq_true]
          obtain ⟨h1, h2, _⟩ := piv_spec z
          exact ⟨_, vl_mem h1, decide_eq_true h2⟩]
        refine iteT ?_
        rw [if_neg z] at k1 k2 k3 k4
        obtain ⟨r1, r2⟩ := rowsZ_snoc hd prk raD hra
        refine ⟨_, rfl, .inl ⟨rfl, _, SqL.of hd⟩, _, rfl, D, _, _, rfl, rfl, hd, ?_, ?_⟩
        · rw [List.length_map, lks]; exact Nat.lt_of_le_of_lt (by omega : _ ≤ 1000) (by decide)
        exact ⟨_, rfl, q D _ (kept ++ [row]) (AL.Same.updn s1 hD) ⟨ks ++ [ra], r1, paired_mono r2 fun _ _ z => z.2⟩ k1 k2 k3 (by rw [List.length_append]; exact Nat.succ_le_succ lk)⟩
end
end AL
set_option Elab.async false
set_option maxRecDepth 100000
set_option exponentiation.threshold 70000
set_option maxHeartbeats 1000000
namespace AL
open PySem PySem.Spec PyProof.Rows L2 RZ
section
variable {P : Program} {w : World} {K : PySem.W.Frag} {mg : Str → Option Value} {base : Heap}

theorem hnf_rel {W : Nat} {X : List Rw} (hX : Hnf W X) {x y : Rw} (hx : x ∈ X) (hy : y ∈ X) : (vl x (piv y)).natAbs ≤ (vl y (piv y)).natAbs := by
  obtain ⟨i, hi⟩ := List.mem_iff_getElem?.mp hx
  obtain ⟨k, hk⟩ := List.mem_iff_getElem?.mp hy
  obtain ⟨li, ei⟩ := List.getElem?_eq_some_iff.mp hi
  obtain ⟨lk, ek⟩ := List.getElem?_eq_some_iff.mp hk
  rcases Nat.lt_trichotomy i k with w | w | w
  · have := List.pairwise_iff_getElem.mp hX.red i k li lk w
    rw [ei, ek] at this; omega
  · subst w
    rw [ei] at ek; rw [ek]; exact Nat.le_refl _
  · have := List.pairwise_iff_getElem.mp hX.asc k i lk li w
    rw [ei, ek] at this
    rw [ahead_zero (hX.ech.nz x hx) _ this]
    exact Nat.zero_le _
theorem red_bd {W B n : Nat} {gens K1 K2 F : List Rw} (h : EchOf W B n gens (K1 ++ K2)) (hF : Hnf W F) (g : Gen F K2) (pe : F.map piv = K2.map piv) : ∀ f ∈ F, BdR (n * (facB B n * facB B n)) f := fun f hf => by
  have up : ∀ {x : Fn}, Lat (inR K2) x → Lat (inR (K1 ++ K2)) x := fun h => h.trans fun y ⟨a, ha, e⟩ => .mem ⟨a, List.mem_append_right _ ha, e⟩
  refine fun c => h.item (up (g.1 f hf)).spn (fun k hk => ?_) c
  rcases List.mem_append.mp hk with w | w
  · have z : vl f (piv k) = 0 := by
      have : ∀ y, Lat (inR K2) y → y (piv k) = 0 := fun y h' => by
        induction h' with
        | mem h' =>
          obtain ⟨q, hq, rfl⟩ := h'
          exact ahead_zero (h.E.nz q (List.mem_append_right _ hq)) _ ((List.pairwise_append.mp h.E.asc).2.2 k w q hq)
        | zero => rfl
        | lin m t _ _ i1 i2 => dsimp only; rw [i1, i2]; omega
      exact this _ (g.1 f hf)
    rw [z]; exact Nat.zero_le _
  · have : piv k ∈ F.map piv := by rw [pe]; exact List.mem_map.mpr ⟨k, w, rfl⟩
    obtain ⟨q, hq, pq⟩ := List.mem_map.mp this
    have d := ech_dvd hF.ech (g.2 k w) hq fun p hp lt => ahead_zero (h.E.nz k (List.mem_append_right _ w)) _ (by omega)
    have k0 := h.E.nz k (List.mem_append_right _ w)
    rw [pq] at d
    have l1 := hnf_rel hF hf hq
    rw [pq] at l1
    have l2 := Nat.le_of_dvd (by omega) (Int.natAbs_dvd_natAbs.mpr d)
    have l3 := h.pivot (List.mem_append_right _ w)
    omega
theorem comb_zero {r b : Rw} (h : r.length = b.length) : comb 1 r (-0) b = r := vl_ext (by rw [comb_len h]) fun j => by rw [comb_vl h]; omega
/-- reduced(rows) -/
def spRd : Sp := fun vs H Q _ => ∃ (b : Addr) (W B n m y : Nat) (gens Z : List Rw), vs = [.ref b] ∧ RowsZ H b Z ∧ EchOf W B n gens Z ∧ (∀ k ∈ Z, BdR (2 ^ y) k) ∧ W ≤ 100 ∧ n ≤ 20 ∧ n * (facB B n * facB B n) ≤ 2 ^ m ∧ y + (m + 1) * (n + 1) < 13000 ∧
  ∀ D H' F, Same H H' → RowsZ H' D F → Hnf W F → Gen F Z → F.length = Z.length → (∀ f ∈ F, BdR (2 ^ m) f) → Q (.ref D) H'

abbrev streduced : Stmt := top 6
theorem screduced : FnScope ["rows", "pivots", "done", "row", "first", "item", "at", "below", "many"] ["rows"] (defScope streduced) := ⟨rfl, rfl, rfl, by decide +kernel, rfl, by decide +kernel, by decide +kernel⟩
theorem okreduced (B : Blt mg)  {fcombined : Addr} {fdcombined : FuncData} (Dcombined : DefAt K mg "combined" stcombined ["many", "one", "times", "other"] fcombined fdcombined) {fpivot_of : Addr} {fdpivot_of : FuncData} (Dpivot_of : DefAt K mg "pivot_of" stpivot_of ["row"] fpivot_of fdpivot_of) {freduced : Addr} {fdreduced : FuncData} (Dreduced : DefAt K mg "reduced" streduced ["rows"] freduced fdreduced) : FnOk P w K mg base CX0 2 freduced fdreduced ["rows"] spRd := by
  have OKcombined : FnOk P w K mg base CX0 1 fcombined fdcombined ["many", "one", "times", "other"] spCm := okcombined B  Dcombined
  have OKpivot_of : FnOk P w K mg base CX0 1 fpivot_of fdpivot_of ["row"] spPv := okpivot_of B  Dpivot_of
  refine Dreduced.F.ok screduced (fun vs H Q E h => ?_) (fun cdv A outer s H vs Q E hr h => ?_)
  · obtain ⟨b, W, B0, n, m, y, gens, Z, rfl, _⟩ := h; rfl
  · have hu := hu_of hr
    refine ⟨_, (pss_cons (ps_set (i := 1) screduced.nd rfl (Or.inl rfl) (pe_lst pa_nil))
    (pss_cons (ps_set (i := 2) screduced.nd rfl (Or.inl rfl) (pe_lst pa_nil))
    (pss_cons (ps_for PassesOwn.never rfl (pi_reversed (by rfl) B.reversed_ (pa_cons (pv 0) pa_nil)) (pg_name (i := 3) screduced.nd rfl (Or.inl rfl))
      (pss_cons (ps_set (i := 4) screduced.nd rfl (Or.inl rfl) (pe_call OKpivot_of (hr.mono (by decide)) rfl Dpivot_of.m Dpivot_of.F.kp Dpivot_of.b .nil pass0 (pa_cons (pv 3) pa_nil)))
    (Evl.pss_cut (ps_if (pt_cmpR op_lt (pe_ix ix_list (pv 3) (pv 4) (fun _ _ => rfl)) pe_int (nomark _)) (pss_one (ps_setLc (i := 3) (own := [("item", 5)]) (g := gName 5) (tt := tYes) rfl screduced.nd rfl rfl (sw_true rfl rfl rfl (by decide +kernel)) (pi_list (pv 3)) (blkOk_by (own := [("item", 5)]) (N := ["rows", "pivots", "done", "row", "first", "item", "at", "below", "many"]) (sc := defScope streduced) (by decide +kernel)) (fun _ _ _ _ _ => (pg_name (i := 5) screduced.nd rfl (Or.inl rfl))) (fun _ _ _ _ _ => pts_nil) (fun _ _ _ _ _ => (pe_un un_neg (pv 5))))) pss_nil)
    (pss_cons (ps_for PassesOwn.never rfl (pi_zip (by rfl) B.zip_ (pa_cons (pv 1) (pa_cons (pv 2) pa_nil))) (pg_tup rfl (pgs_cons (pg_name (i := 6) screduced.nd rfl (Or.inl rfl)) (pgs_cons (pg_name (i := 7) screduced.nd rfl (Or.inl rfl)) pgs_nil)))
      (pss_cons (ps_set (i := 8) screduced.nd rfl (Or.inl rfl) (pe_op op_fdivB (pe_ix ix_list (pv 3) (pv 6) (fun _ _ => rfl)) (pe_ix ix_list (pv 7) (pv 6) (fun _ _ => rfl))))
    (pss_one (ps_if (pt_cmpR op_ne (pv 8) pe_int (nomark _)) (pss_one (ps_set (i := 3) screduced.nd rfl (Or.inl rfl) (pe_call OKcombined (hr.mono (by decide)) rfl Dcombined.m Dcombined.F.kp Dcombined.b .nil pass0 (pa_cons pe_int (pa_cons (pv 3) (pa_cons (pe_un un_neg (pv 8)) (pa_cons (pv 7) pa_nil))))))) pss_nil))))
    (pss_cons (ps_set (i := 1) screduced.nd rfl (Or.inl rfl) (pe_op op_cat (pe_lst (pa_cons (pv 4) pa_nil)) (pv 1)))
    (pss_one (ps_set (i := 2) screduced.nd rfl (Or.inl rfl) (pe_op op_cat (pe_lst (pa_cons (pv 3) pa_nil)) (pv 2)))))))))
    (pss_one (ps_ret (pv 2)))))), ?_⟩
    obtain ⟨b, W, B0, n, m, y, gens, Z, rfl, hb, hZ, bZ, lw, ln, hm, sz, q⟩ := h
    obtain ⟨zs, B1, B2⟩ := hb
    have lzs := prd_len B2
    have lZ := hZ.ln
    refine ⟨(by show 0 ≤ sizeLine; decide), fun P0 hP0 => ?_⟩
    have n1 := AL.Same.new (o := .lst []) hP0
    refine ⟨(by show 0 ≤ sizeLine; decide), fun D0 hD0 => ?_⟩
    have n2 := AL.Same.new (o := .lst []) hD0
    have s02 := n1.trans n2
    have hP2 := n2 _ _ (upd_same : upd H P0 (.lst []) P0 = _)
    refine ⟨_, rfl, b, _, rfl, SqL.of (s02 _ _ B1), for_it (walk_rev (K := K) (a := b) (xs := zs.map V.ref)) (fun i σ H' => ∃ (pa da : Addr) (fs : List Addr) (F : List Rw) (v3 v4 v6 v7 v8 : Option V), σ = [some (.ref b), some (.ref pa), some (.ref da), v3, v4, none, v6, v7, v8] ∧ Same H H' ∧ H' pa = some (.lst (F.map fun f => V.int (piv f : Int))) ∧ H' da = some (.lst (fs.map V.ref)) ∧ Paired (LI H') fs F ∧ Hnf W F ∧ Gen F (Z.drop (Z.length - i)) ∧ F.map piv = (Z.drop (Z.length - i)).map piv) ⟨P0, D0, [], [], none, none, none, none, none, rfl, s02, hP2, upd_same, .nil, ⟨(fun f hf => nomatch hf), (fun f hf => nomatch hf), .nil, .nil⟩, by rw [Nat.sub_zero, List.drop_length]; exact Gen.refl _, by rw [Nat.sub_zero, List.drop_length]⟩ (fun i σ H' _ hh => by obtain ⟨_, _, _, _, _, _, _, _, _, _, s, _⟩ := hh; exact SqL.of (s _ _ B1)) ?_ ?_⟩
    · rintro i x σ H0 H1 hi ⟨pa, da, fs, F, v3, v4, v6, v7, v8, rfl, s1, hpa, hda, prf, hF, gF, pF⟩ ⟨rfl, hx⟩
      rw [List.length_map, lzs] at hi hx
      obtain ⟨za, hza, rfl⟩ := map_ref hx
      obtain ⟨r, hr, hr0⟩ := prd_get B2 hza
      have mr := List.mem_of_getElem? hr
      have lr : r.length = W := hZ.E.len r mr
      have rn := hZ.E.nz r mr
      have pW := piv_lt_len rn
      have br := bZ r mr
      have dr : Z.drop (Z.length - (i + 1)) = r :: Z.drop (Z.length - i) := by
        have w := drop_at hr
        rw [show Z.length - 1 - i = Z.length - (i + 1) by omega, show Z.length - (i + 1) + 1 = Z.length - i by omega] at w
        exact w
      have ahd : ∀ g ∈ F, piv r < piv g := fun g hg => by
        have : piv g ∈ (Z.drop (Z.length - i)).map piv := by rw [← pF]; exact List.mem_map.mpr ⟨g, hg, rfl⟩
        obtain ⟨k, hk, e⟩ := List.mem_map.mp this
        have as := hZ.E.asc.sublist (List.drop_sublist (Z.length - (i + 1)) Z)
        rw [dr] at as
        have := (List.pairwise_cons.mp as).1 k hk
        omega
      have lF : F.length = i := by
        have := congrArg List.length pF
        rw [List.length_map, List.length_map, List.length_drop] at this
        omega
      have lfs := prd_len prf
      have bF : ∀ f ∈ F, BdR (2 ^ m) f := fun f hf => (red_bd (K1 := Z.take (Z.length - i)) (K2 := Z.drop (Z.length - i)) (by rw [List.take_append_drop]; exact hZ) hF gF pF f hf).mono hm
      have hr1 : LI H1 za r := s1 _ _ hr0
      refine ⟨_, rfl, za, r, rfl, hr1, fun H2 s2 => ?_⟩
      have gr : atI (r.map V.int) ((piv r : Nat) : Int) = some (.int (vl r (piv r))) := by rw [atI_of (by rw [List.length_map]; omega), List.getElem?_map, vl_at (by omega)]; rfl
      refine ⟨fun σ' H' => ∃ (ra : Addr) (row0 : Rw), σ' = [some (.ref b), some (.ref pa), some (.ref da), some (.ref ra), some (.int (piv r : Int)), none, v6, v7, v8] ∧ Same H1 H' ∧ LI H' ra row0 ∧ row0.length = W ∧ piv row0 = piv r ∧ 0 < vl row0 (piv r) ∧ BdR (2 ^ y) row0 ∧ Gen (row0 :: F) (r :: F), ?_, ?_⟩
      · refine ⟨_, rfl, _, rfl, za, _, _, _, rfl, rfl, SqL.of (hr1.same s2), gr, _, _, rfl, rfl, _, rfl, ?_⟩
        by_cases c : vl r (piv r) < 0
        · rw [decide_eq_true c]
          refine iteT ?_
          refine ⟨_, rfl, za, rfl, ⟨_, SqL.of (hr1.same s2)⟩, fun D hD => ?_⟩
          refine lc_list (K := K) (a := za) (xs := r.map V.int) (fun k H' => Same H2 H' ∧ H' D = some (.lst (((r.map fun v => -v).take k).map V.int))) ⟨AL.Same.new hD, upd_same⟩ (fun k H' _ hh => SqL.of (hh.1 _ _ (hr1.same s2))) ?_ ?_
          · rintro k x H3 hx ⟨s3, hd⟩
            obtain ⟨z, hz, rfl⟩ := map_int hx
            refine ⟨rfl, ?_⟩
            refine ⟨_, rfl, z, rfl, _, hd, ?_, AL.Same.updn s3 hD, ?_⟩
            · rw [List.length_map, List.length_take, List.length_map]; exact Nat.lt_of_le_of_lt (by omega : _ ≤ 1000) (by decide)
            · have g : (r.map fun v => -v)[k]? = some (-z) := by rw [List.getElem?_map, hz]; rfl
              rw [upd_same, List.take_add_one, g, List.map_append]; rfl
          rintro H3 ⟨s3, hd⟩
          rw [List.take_of_length_le (by rw [List.length_map, List.length_map]; exact Nat.le_refl _)] at hd
          have nv : ∀ j, vl (r.map fun v => -v) j = -vl r j := fun j => vl_map (by decide) j
          exact ⟨D, r.map fun v => -v, rfl, s2.trans s3, hd, by rw [List.length_map]; exact lr, piv_is (by rw [nv]; omega) fun j hj => by rw [nv, ahead_zero rn j hj]; rfl, by rw [nv]; omega, fun j => by rw [nv, Int.natAbs_neg]; exact br j, gen_neg nv⟩
        · rw [decide_eq_false c]
          refine iteF ?_
          exact ⟨za, r, rfl, s2, hr1.same s2, lr, rfl, by omega, br, Gen.refl _⟩
      clear s2 H2
      rintro σ' H2 ⟨ra, row0, rfl, s2, hra, lr0, p0, v0, b0, g0⟩
      have hpa2 := s2 _ _ hpa
      have hda2 := s2 _ _ hda
      have prf2 : Paired (LI H2) fs F := paired_mono prf fun _ _ z => z.same s2
      refine ⟨_, rfl, _, rfl, pa, da, _, _, rfl, SqL.of hpa2, SqL.of hda2, ?_⟩
      refine for_it (walk_zip (K := K) (a := pa) (b := da) (xs := F.map fun f => V.int (piv f : Int)) (ys := fs.map V.ref) (n := F.length) (by rw [List.length_map, List.length_map, lfs, Nat.min_self])) (fun j σ H' => ∃ (ra : Addr) (row : Rw) (v6 v7 v8 : Option V), σ = [some (.ref b), some (.ref pa), some (.ref da), some (.ref ra), some (.int (piv r : Int)), none, v6, v7, v8] ∧ Same H2 H' ∧ LI H' ra row ∧ RdI W row0 F j row ∧ BdR (2 ^ (y + (m + 1) * j)) row) ⟨ra, row0, _, _, _, rfl, fun _ _ h => h, hra, rd_start lr0, by rw [Nat.mul_zero, Nat.add_zero]; exact b0⟩ (fun j σ H' _ hh => by obtain ⟨_, _, _, _, _, _, s, _⟩ := hh; exact ⟨SqL.of (s _ _ hpa2), SqL.of (s _ _ hda2)⟩) ?_ ?_
      · rintro j x σ H3 H4 hj ⟨ra, row, v6, v7, v8, rfl, s3, hra3, t, bt⟩ ⟨T0, u1, u2, rfl, hT0, rfl, e1, e2⟩
        obtain ⟨f, hf, e1⟩ : ∃ f, F[j]? = some f ∧ V.int (piv f : Int) = u1 := by
          replace e1 : (F.map fun f => V.int (piv f : Int))[j]? = some u1 := e1
          rw [List.getElem?_map] at e1
          cases e : F[j]? with
          | none => rw [e] at e1; cases e1
          | some f => rw [e] at e1; exact ⟨f, rfl, Option.some.inj e1⟩
        subst e1
        obtain ⟨fa, hfa, rfl⟩ := map_ref e2
        obtain ⟨f', hf', hff⟩ := prd_get prf2 hfa
        rw [hf] at hf'
        cases Option.some.inj hf'
        have mf := List.mem_of_getElem? hf
        have nT := AL.Same.new (o := .tup [.int (piv f : Int), .ref fa]) hT0
        have sT := s3.trans nT
        have hra4 := hra3.same nT
        have hf4 := hff.same sT
        have hp := hF.pos f mf
        have lf := hF.len f mf
        have pf := piv_lt_len (by omega : vl f (piv f) ≠ 0)
        have lrow := t.lr
        have hn : row.length = f.length := by omega
        refine ⟨T0, _, rfl, SqT.of upd_same, rfl, _, _, rfl, _, _, rfl, rfl, ?_⟩
        have g1 : atI (row.map V.int) ((piv f : Nat) : Int) = some (.int (vl row (piv f))) := by rw [atI_of (by rw [List.length_map]; omega), List.getElem?_map, vl_at (by omega)]; rfl
        have g2 : atI (f.map V.int) ((piv f : Nat) : Int) = some (.int (vl f (piv f))) := by rw [atI_of (by rw [List.length_map]; omega), List.getElem?_map, vl_at (by omega)]; rfl
        have brow := bt (piv f)
        have ej : (m + 1) * (j + 1) = (m + 1) * j + (m + 1) := Nat.mul_succ (m + 1) j
        have ej2 : (m + 1) * (j + 1) ≤ (m + 1) * (n + 1) := Nat.mul_le_mul_left _ (by omega)
        have x1 : 2 ^ (y + (m + 1) * j) < 2 ^ 13000 := Nat.pow_lt_pow_right (by decide) (by omega)
        have l35 : 2 ^ 13000 ≤ 2 ^ 13500 := Nat.pow_le_pow_right (by decide) (by decide)
        have st := rd_step hF (fun g hg => by rw [p0]; exact ahd g hg) t hf
        refine ⟨_, rfl, _, rfl, ra, _, _, _, rfl, rfl, SqL.of hra4, g1, _, rfl, _, rfl, fa, _, _, _, rfl, rfl, SqL.of hf4, g2, _, _, rfl, rfl, ⟨by omega, by omega⟩, ?_⟩
        have qb := fdivA_le (vl row (piv f)) (b := vl f (piv f)) (by omega)
        dsimp only
        generalize (vl row (piv f)).fdiv (vl f (piv f)) = qq at *
        have bst : BdR (2 ^ (y + (m + 1) * (j + 1))) (comb 1 row (-qq) f) := by
          refine (comb_bd (a := 1) (b := 2 ^ (y + (m + 1) * j)) (c := 2 ^ (y + (m + 1) * j)) (d := 2 ^ m) hn (by decide) bt (by omega) (bF f mf)).mono ?_
          have h1 : 2 ^ (y + (m + 1) * j) * 1 ≤ 2 ^ (y + (m + 1) * j) * 2 ^ m := Nat.mul_le_mul_left _ (Nat.two_pow_pos m)
          have h2 : 2 ^ (y + (m + 1) * j) * 2 ^ m + 2 ^ (y + (m + 1) * j) * 2 ^ m = 2 ^ (y + (m + 1) * (j + 1)) := by rw [← Nat.pow_add, ej, show y + ((m + 1) * j + (m + 1)) = (y + (m + 1) * j + m) + 1 by omega, Nat.pow_succ 2 (y + (m + 1) * j + m), Nat.mul_two]
          omega
        refine ⟨_, rfl, rfl, _, rfl, ?_⟩
        by_cases c : qq = 0
        · rw [show (!decide (V.int qq = V.int 0)) = false by rw [c, decide_eq_true rfl]; rfl]
          refine iteF ?_
          subst c
          rw [comb_zero hn] at st bst
          exact ⟨ra, row, _, _, _, rfl, sT, hra4, st, bst⟩
        · rw [show (!decide (V.int qq = V.int 0)) = true by rw [decide_eq_false (fun w => c (by injection w))]; rfl]
          refine iteT ?_
          refine ⟨_, rfl, _, rfl, _, rfl, _, rfl, 1, -qq, ra, fa, row, f, rfl, hra4, hf4, hn, by omega, (by show 1 < 2 ^ 13000; exact Nat.lt_of_lt_of_le (by decide : 1 < 2 ^ 1) (Nat.pow_le_pow_right (by decide) (by decide))), by omega, bt.bd (by omega), (bF f mf).bd (by omega), fun D2 H5 hD2 s5 h5 => ?_⟩
          exact ⟨D2, _, _, _, _, rfl, sT.trans s5, h5, st, bst⟩
      · rintro σ H3 ⟨ra, row, v6, v7, v8, rfl, s3, hra3, t, bt⟩
        obtain ⟨h1, h2, h3⟩ := rd_end hF (by rw [p0]; exact v0) (fun g hg => by rw [p0]; exact ahd g hg) t (Nat.le_refl _)
        have hpa3 := s3 _ _ hpa2
        refine ⟨_, rfl, (by show 1 ≤ sizeLine; decide), fun z hz => ?_⟩
        have nz := AL.Same.new (o := .lst [.int (piv r : Int)]) hz
        refine ⟨_, rfl, z, pa, _, _, rfl, rfl, upd_same, nz _ _ hpa3, ?_, fun p hp => ?_⟩
        · rw [List.length_map]; exact Nat.le_of_lt (Nat.lt_of_le_of_lt (show 1 + F.length ≤ 1000 by omega) (by decide))
        have np := AL.Same.new (o := .lst ([.int (piv r : Int)] ++ F.map fun f => V.int (piv f : Int))) hp
        have s35 := nz.trans np
        have s5 := s3.trans s35
        have hp5 : upd (upd H3 z (.lst [.int (piv r : Int)])) p (.lst ([.int (piv r : Int)] ++ F.map fun f => V.int (piv f : Int))) p = some (.lst ((row :: F).map fun f => V.int (piv f : Int))) := by
          rw [upd_same, List.map_cons, h3, p0]; rfl
        generalize upd (upd H3 z (.lst [.int (piv r : Int)])) p (.lst ([.int (piv r : Int)] ++ F.map fun f => V.int (piv f : Int))) = H5 at s35 s5 hp5 ⊢
        have hra5 : LI H5 ra row := s35 _ _ hra3
        refine ⟨_, rfl, (by show 1 ≤ sizeLine; decide), fun z2 hz2 => ?_⟩
        have nz2 := AL.Same.new (o := .lst [.ref ra]) hz2
        refine ⟨_, rfl, z2, da, _, _, rfl, rfl, upd_same, nz2 _ _ (s5 _ _ hda2), ?_, fun p2 hp2 => ?_⟩
        · rw [List.length_map, lfs]; exact Nat.le_of_lt (Nat.lt_of_le_of_lt (show 1 + F.length ≤ 1000 by omega) (by decide))
        have np2 := AL.Same.new (o := .lst ([.ref ra] ++ fs.map V.ref)) hp2
        have s7 := nz2.trans np2
        refine ⟨p, p2, ra :: fs, row :: F, _, _, _, _, _, rfl, s1.trans (s2.trans (s5.trans s7)), s7 _ _ hp5, upd_same, .cons (hra5.same s7) (paired_mono prf2 fun _ _ z => (z.same s5).same s7), h1, ?_, ?_⟩
        · rw [dr]
          exact h2.trans (g0.trans (gen_app (Gen.refl [r]) gF))
        · rw [dr, List.map_cons, List.map_cons, h3, p0, pF]
    · rintro σ H1 ⟨pa, da, fs, F, v3, v4, v6, v7, v8, rfl, s1, hpa, hda, prf, hF, gF, pF⟩
      rw [List.length_map, lzs, Nat.sub_self, List.drop_zero] at gF pF
      refine ⟨_, rfl, q da H1 F s1 ⟨fs, hda, prf⟩ hF gF ?_ fun f hf => ?_⟩
      · have := congrArg List.length pF
        rwa [List.length_map, List.length_map] at this
      · exact (red_bd (K1 := []) hZ hF gF pF f hf).mono hm
end
end AL
set_option Elab.async false
set_option maxRecDepth 100000
set_option exponentiation.threshold 70000
set_option maxHeartbeats 1000000
namespace AL
open PySem PySem.Spec PyProof.Rows L2 RZ
section
variable {P : Program} {w : World} {K : PySem.W.Frag} {mg : Str → Option Value} {base : Heap}

def rListK (K : PySem.W.Frag) : List V → Hp → VK → Prop := fun xs H Q => ∃ p ys, xs = [V.ref p] ∧ (SqL K H p ys ∨ SqT K H p ys) ∧ ∀ l, H l = none → Q (.ref l) (upd H l (.lst ys))
theorem call_listK {X : Cx} : CallR X (.type "list") (rListK X.K) := call_list_of
/-- hermite_rows(rows) -/
def spHr : Sp := fun vs H Q _ => ∃ (w : Addr) (W B m : Nat) (rows : List Rw), vs = [.ref w] ∧ RowsT H w rows ∧ (∀ r ∈ rows, r.length = W) ∧ W ≤ 100 ∧ rows.length ≤ 19 ∧ (∀ r ∈ rows, ∀ v ∈ r, v.natAbs ≤ B) ∧ 1 ≤ B ∧ B ≤ 2 ^ (m + 1) ∧ rows.length * (facB B rows.length * facB B rows.length) ≤ 2 ^ m ∧ (m + 1) * (3 * rows.length + 1) + 2 < 13000 ∧
  ∀ D H' F, Same H H' → RowsZ H' D F → Hnf W F → Gen F rows → F.length ≤ rows.length → (∀ f ∈ F, BdR (2 ^ m) f) → Q (.ref D) H'
theorem gen_take {rows F Z : List Rw} {i : Nat} {r : Rw} (h : rows[i]? = some r) (g : Gen F (rows.take i)) (k : Gen Z (F ++ [r])) : Gen Z (rows.take (i + 1)) := by
  rw [List.take_add_one, h]
  exact k.trans (gen_app g (Gen.refl [r]))

abbrev sthermite_rows : Stmt := top 4
theorem schermite_rows : FnScope ["rows", "basis", "row"] ["rows"] (defScope sthermite_rows) := ⟨rfl, rfl, rfl, by decide +kernel, rfl, by decide +kernel, by decide +kernel⟩
theorem okhermite_rows (B : Blt mg)  {fcombined : Addr} {fdcombined : FuncData} (Dcombined : DefAt K mg "combined" stcombined ["many", "one", "times", "other"] fcombined fdcombined) {fpivot_of : Addr} {fdpivot_of : FuncData} (Dpivot_of : DefAt K mg "pivot_of" stpivot_of ["row"] fpivot_of fdpivot_of) {freduced : Addr} {fdreduced : FuncData} (Dreduced : DefAt K mg "reduced" streduced ["rows"] freduced fdreduced) {fbezout : Addr} {fdbezout : FuncData} (Dbezout : DefAt K mg "bezout" stbezout ["one", "other"] fbezout fdbezout) {ftaken_in : Addr} {fdtaken_in : FuncData} (Dtaken_in : DefAt K mg "taken_in" sttaken_in ["basis", "row"] ftaken_in fdtaken_in) {fhermite_rows : Addr} {fdhermite_rows : FuncData} (Dhermite_rows : DefAt K mg "hermite_rows" sthermite_rows ["rows"] fhermite_rows fdhermite_rows) : FnOk P w K mg base CX0 3 fhermite_rows fdhermite_rows ["rows"] spHr := by
  have OKreduced : FnOk P w K mg base CX0 2 freduced fdreduced ["rows"] spRd := okreduced B  Dcombined Dpivot_of Dreduced
  have OKtaken_in : FnOk P w K mg base CX0 2 ftaken_in fdtaken_in ["basis", "row"] spTk := oktaken_in B  Dbezout Dcombined Dpivot_of Dtaken_in
  refine Dhermite_rows.F.ok schermite_rows (fun vs H Q E h => ?_) (fun cdv A outer s H vs Q E hr h => ?_)
  · obtain ⟨w, W, B0, m, rows, rfl, _⟩ := h; rfl
  · have hu := hu_of hr
    refine ⟨_, (pss_cons (ps_set (i := 1) schermite_rows.nd rfl (Or.inl rfl) (pe_lst pa_nil))
    (pss_cons (ps_for PassesOwn.never rfl (pi_list (pv 0)) (pg_name (i := 2) schermite_rows.nd rfl (Or.inl rfl))
      (pss_one (ps_set (i := 1) schermite_rows.nd rfl (Or.inl rfl) (pe_call OKreduced (hr.mono (by decide)) rfl Dreduced.m Dreduced.F.kp Dreduced.b .nil pass0 (pa_cons (pe_call OKtaken_in (hr.mono (by decide)) rfl Dtaken_in.m Dtaken_in.F.kp Dtaken_in.b .nil pass0 (pa_cons (pv 1) (pa_cons (pe_callTy (call_listK : CallR _ _ (rListK K)) (by rfl) B.list_ (by decide +kernel) (pa_cons (pv 2) pa_nil)) pa_nil))) pa_nil)))))
    (pss_one (ps_ret (pv 1))))), ?_⟩
    obtain ⟨w, W, B0, m, rows, rfl, hw, hl, lw, lr, hB, B1, Bm, hm, sz, q⟩ := h
    obtain ⟨as, W1, W2⟩ := hw
    have las := prd_len W2
    refine ⟨(by show 0 ≤ sizeLine; decide), fun b0 hb0 => ?_⟩
    have n1 := AL.Same.new (o := .lst []) hb0
    refine ⟨_, rfl, w, rfl, ⟨_, SqL.of (n1 _ _ W1)⟩, for_list (K := K) (a := w) (xs := as.map V.ref) (fun i σ H' => ∃ (ba : Addr) (F : List Rw) (v2 : Option V), σ = [some (.ref w), some (.ref ba), v2] ∧ Same H H' ∧ RowsZ H' ba F ∧ Hnf W F ∧ Gen F (rows.take i) ∧ F.length ≤ i ∧ ∀ f ∈ F, BdR (2 ^ m) f) ⟨b0, [], none, rfl, n1, ⟨[], upd_same, .nil⟩, ⟨(fun f hf => nomatch hf), (fun f hf => nomatch hf), .nil, .nil⟩, by rw [List.take_zero]; exact Gen.refl _, Nat.le_refl _, (fun f hf => nomatch hf)⟩ (fun i σ H' _ hh => by obtain ⟨_, _, _, _, s, _⟩ := hh; exact SqL.of (s _ _ W1)) ?_ ?_⟩
    · rintro i x σ H1 hx ⟨ba, F, v2, rfl, s1, hba, hF, gF, lF, bF⟩
      obtain ⟨a, ha, rfl⟩ := map_ref hx
      obtain ⟨r, hr, hra⟩ := prd_get W2 ha
      have il := (List.getElem?_eq_some_iff.mp hr).1
      have mr := List.mem_of_getElem? hr
      have lrr := hl r mr
      have hra1 := hra.same s1
      have br : BdR B0 r := bd_len (W := W).mpr (hB r mr)
      have e0 : (m + 1) * (F.length + 1) ≤ (m + 1) * rows.length := Nat.mul_le_mul_left _ (by omega)
      have e1 : (m + 1) * (3 * rows.length + 1) = 3 * ((m + 1) * rows.length) + (m + 1) := by rw [Nat.mul_add, Nat.mul_one, Nat.mul_left_comm]
      have e2 : (m + 1) * (rows.length + 1) = (m + 1) * rows.length + (m + 1) := Nat.mul_succ _ _
      refine ⟨_, rfl, _, rfl, a, _, rfl, hra1.seq, fun D0 hD0 => ?_⟩
      have n0 := AL.Same.new (o := .lst (r.map V.int)) hD0
      refine ⟨ba, D0, W, m, F, r, rfl, hba.same n0, upd_same, hF, bF, lrr, br.mono Bm, lw, by omega, by omega, fun D2 H3 Z s3 hZ eZ gZ bZ lZ => ?_⟩
      have gZ' := gen_take hr gF gZ
      have tk : ∀ q ∈ rows.take (i + 1), q ∈ rows := fun q hq => List.mem_of_mem_take hq
      refine ⟨D2, W, B0, rows.length, m, 2 * ((m + 1) * (F.length + 1)) + 2, rows.take (i + 1), Z, rfl, hZ, ⟨eZ, fun q hq => hl q (tk q hq), gZ'.1, gZ'.2, fun q hq => hB q (tk q hq), B1, by omega⟩, bZ, lw, by omega, hm, by omega, fun D3 H4 F' s4 hF' eF' gF' lF' bF' => ?_⟩
      exact ⟨D3, F', _, rfl, s1.trans (n0.trans (s3.trans s4)), hF', eF', gF'.trans gZ', by omega, bF'⟩
    · rintro σ H1 ⟨ba, F, v2, rfl, s1, hba, hF, gF, lF, bF⟩
      rw [List.length_map, las] at gF lF
      rw [List.take_length] at gF
      exact ⟨_, rfl, q ba H1 F s1 hba hF gF lF bF⟩
end
end AL
set_option Elab.async false
set_option maxRecDepth 100000
set_option exponentiation.threshold 70000
set_option maxHeartbeats 1000000
namespace AL
open PySem PySem.Spec PyProof.Rows L2 RZ
section
variable {P : Program} {w : World} {K : PySem.W.Frag} {mg : Str → Option Value} {base : Heap}
theorem cutV_from {xs : List V} (i : Nat) : cutV xs (some (i : Int)) none = xs.drop i := by
  unfold cutV
  rw [HT.sIx_nat, HT.sIx_none]
  by_cases h : i ≤ xs.length
  · rw [Nat.min_eq_left h, List.take_of_length_le (by rw [List.length_drop]; omega)]
  · rw [Nat.min_eq_right (by omega), List.drop_eq_nil_of_le (by omega), List.drop_eq_nil_of_le (by omega)]; simp
theorem cutV_to {xs : List V} (i : Nat) : cutV xs none (some (i : Int)) = xs.take i := by
  unfold cutV
  rw [HT.sIx_none, HT.sIx_nat, List.drop_zero, Nat.sub_zero]
  by_cases h : i ≤ xs.length
  · rw [Nat.min_eq_left h]
  · rw [Nat.min_eq_right (by omega), List.take_of_length_le (Nat.le_refl _), List.take_of_length_le (by omega)]

/-- rows with an identity beside them -/
def wideR (rows : List Rw) : List Rw := List.zipWith (fun r u => r ++ u) rows (idM rows.length)
theorem wideR_len (rows : List Rw) : (wideR rows).length = rows.length := by unfold wideR; rw [List.length_zipWith, idM_len, Nat.min_self]
theorem wideR_at {rows : List Rw} {i : Nat} {r : Rw} (h : rows[i]? = some r) : (wideR rows)[i]? = some (r ++ unitR rows.length i) := by
  have il := (List.getElem?_eq_some_iff.mp h).1
  unfold wideR
  rw [List.getElem?_zipWith, h]
  unfold idM
  rw [List.getElem?_map, List.getElem?_range il]; rfl
/-- hermite_pair(rows) -/
def spHp : Sp := fun vs H Q _ => ∃ (w : Addr) (n B m : Nat) (rows : List Rw), vs = [.ref w] ∧ RowsT H w rows ∧ rows ≠ [] ∧ (∀ r ∈ rows, r.length = n) ∧ n + rows.length ≤ 100 ∧ rows.length ≤ 19 ∧ (∀ r ∈ rows, ∀ v ∈ r, v.natAbs ≤ B) ∧ 1 ≤ B ∧ B ≤ 2 ^ (m + 1) ∧ rows.length * (facB B rows.length * facB B rows.length) ≤ 2 ^ m ∧ (m + 1) * (3 * rows.length + 1) + 2 < 13000 ∧
  ∀ t l z H' F, Same H H' → H' t = some (.tup [.ref l, .ref z]) → RowsZ H' l (F.map (List.drop n)) → RowsZ H' z (F.map (List.take n)) → Hnf (n + rows.length) F → Gen F (wideR rows) → F.length ≤ rows.length → (∀ f ∈ F, BdR (2 ^ m) f) → Q (.ref t) H'

abbrev sthermite_pair : Stmt := top 10
theorem schermite_pair : FnScope ["rows", "width", "wide", "row", "unit", "done"] ["rows"] (defScope sthermite_pair) := ⟨rfl, rfl, rfl, by decide +kernel, rfl, by decide +kernel, by decide +kernel⟩
theorem okhermite_pair (B : Blt mg)  {fcombined : Addr} {fdcombined : FuncData} (Dcombined : DefAt K mg "combined" stcombined ["many", "one", "times", "other"] fcombined fdcombined) {fpivot_of : Addr} {fdpivot_of : FuncData} (Dpivot_of : DefAt K mg "pivot_of" stpivot_of ["row"] fpivot_of fdpivot_of) {freduced : Addr} {fdreduced : FuncData} (Dreduced : DefAt K mg "reduced" streduced ["rows"] freduced fdreduced) {fbezout : Addr} {fdbezout : FuncData} (Dbezout : DefAt K mg "bezout" stbezout ["one", "other"] fbezout fdbezout) {ftaken_in : Addr} {fdtaken_in : FuncData} (Dtaken_in : DefAt K mg "taken_in" sttaken_in ["basis", "row"] ftaken_in fdtaken_in) {fhermite_rows : Addr} {fdhermite_rows : FuncData} (Dhermite_rows : DefAt K mg "hermite_rows" sthermite_rows ["rows"] fhermite_rows fdhermite_rows) {fidentity : Addr} {fdidentity : FuncData} (Didentity : DefAt K mg "identity" stidentity ["many"] fidentity fdidentity) {fhermite_pair : Addr} {fdhermite_pair : FuncData} (Dhermite_pair : DefAt K mg "hermite_pair" sthermite_pair ["rows"] fhermite_pair fdhermite_pair) : FnOk P w K mg base CX0 4 fhermite_pair fdhermite_pair ["rows"] spHp := by
  have OKhermite_rows : FnOk P w K mg base CX0 3 fhermite_rows fdhermite_rows ["rows"] spHr := okhermite_rows B  Dcombined Dpivot_of Dreduced Dbezout Dtaken_in Dhermite_rows
  have OKidentity : FnOk P w K mg base CX0 1 fidentity fdidentity ["many"] spId := okidentity B  Didentity
  refine Dhermite_pair.F.ok schermite_pair (fun vs H Q E h => ?_) (fun cdv A outer s H vs Q E hr h => ?_)
  · obtain ⟨w, n, B0, m, rows, rfl, _⟩ := h; rfl
  · have hu := hu_of hr
    refine ⟨_, (pss_cons (ps_set (i := 1) schermite_pair.nd rfl (Or.inr rfl) (pe_callB call_len_seq (by rfl) B.len_ (by decide +kernel) (pa_cons (pe_ix ix_list (pv 0) pe_int (fun _ _ => rfl)) pa_nil)))
    (pss_cons (ps_setLc (i := 2) (own := [("row", 3), ("unit", 4)]) (g := (gTup K 2 (gCons (gName 3) (gCons (gName 4) gNil)))) (tt := tYes) rfl schermite_pair.nd rfl rfl (sw_true rfl rfl rfl (by decide +kernel)) (pi_zip (by rfl) B.zip_ (pa_cons (pv 0) (pa_cons (pe_call OKidentity (hr.mono (by decide)) rfl Didentity.m Didentity.F.kp Didentity.b .nil pass0 (pa_cons (pe_callB (call_lenK : CallR _ (.builtin "len") (rLenK K)) (by rfl) B.len_ (by decide +kernel) (pa_cons (pv 0) pa_nil)) pa_nil)) pa_nil))) (blkOk_by (own := [("row", 3), ("unit", 4)]) (N := ["rows", "width", "wide", "row", "unit", "done"]) (sc := defScope sthermite_pair) (by decide +kernel)) (fun _ _ _ _ _ => (pg_tup rfl (pgs_cons (pg_name (i := 3) schermite_pair.nd rfl (Or.inl rfl)) (pgs_cons (pg_name (i := 4) schermite_pair.nd rfl (Or.inl rfl)) pgs_nil)))) (fun _ _ _ _ _ => pts_nil) (fun _ _ _ _ _ => (pe_op op_cat (pe_callTy (call_listK : CallR _ _ (rListK K)) (by rfl) B.list_ (by decide +kernel) (pa_cons (pv 3) pa_nil)) (pv 4))))
    (pss_cons (ps_set (i := 5) schermite_pair.nd rfl (Or.inl rfl) (pe_call OKhermite_rows (hr.mono (by decide)) rfl Dhermite_rows.m Dhermite_rows.F.kp Dhermite_rows.b .nil pass0 (pa_cons (pv 2) pa_nil)))
    (pss_one (ps_ret (pe_tup (pa_cons (pe_lc (own := [("row", 3)]) (g := gName 3) (tt := tYes) rfl schermite_pair.nd (pi_list (pv 5)) (blkOk_by (own := [("row", 3)]) (N := ["rows", "width", "wide", "row", "unit", "done"]) (sc := defScope sthermite_pair) (by decide +kernel)) (fun _ _ _ _ _ => (pg_name (i := 3) schermite_pair.nd rfl (Or.inl rfl))) (fun _ _ _ _ _ => pts_nil) (fun _ _ _ _ _ => (pe_slice (sl_list : SlR _ (rSlL K)) (pv 3) (po_some (pv 1)) po_none))) (pa_cons (pe_lc (own := [("row", 3)]) (g := gName 3) (tt := tYes) rfl schermite_pair.nd (pi_list (pv 5)) (blkOk_by (own := [("row", 3)]) (N := ["rows", "width", "wide", "row", "unit", "done"]) (sc := defScope sthermite_pair) (by decide +kernel)) (fun _ _ _ _ _ => (pg_name (i := 3) schermite_pair.nd rfl (Or.inl rfl))) (fun _ _ _ _ _ => pts_nil) (fun _ _ _ _ _ => (pe_slice (sl_list : SlR _ (rSlL K)) (pv 3) po_none (po_some (pv 1))))) pa_nil)))))))), ?_⟩
    obtain ⟨w, n, B0, m, rows, rfl, hw, ne, hl, lw, lr, hB, B1, Bm, hm, sz, q⟩ := h
    obtain ⟨as, W1, W2⟩ := id hw
    have las := prd_len W2
    obtain ⟨r0, rows', hrs⟩ : ∃ r0 rows', rows = r0 :: rows' := by
      cases rows with
      | nil => exact absurd rfl ne
      | cons r0 rows' => exact ⟨r0, rows', rfl⟩
    obtain ⟨a0, as', has⟩ : ∃ a0 as', as = a0 :: as' := by
      cases as with
      | nil => rw [hrs] at las; simp at las
      | cons a0 as' => exact ⟨a0, as', rfl⟩
    have h0 : LT H a0 r0 := by rw [hrs, has] at W2; cases W2 with | cons z _ => exact z
    have l0 := hl r0 (by rw [hrs]; exact List.mem_cons_self ..)
    have g0 : atI (as.map V.ref) 0 = some (.ref a0) := by rw [has]; exact (atI_of (by rw [List.length_map, List.length_cons]; omega : 0 < _))
    refine ⟨_, rfl, w, _, _, _, rfl, rfl, SqL.of W1, g0, a0, _, rfl, h0.seq, ?_⟩
    rw [List.length_map, l0]
    refine ⟨_, rfl, _, rfl, w, _, rfl, .inl (SqL.of W1), rows.length, by rw [List.length_map, las]; rfl, by omega, fun ia H1 hia s1 hI => ?_⟩
    obtain ⟨us, I1, I2⟩ := hI
    have lus := prd_len I2
    rw [idM_len] at lus
    refine ⟨w, ia, _, _, rfl, SqL.of (s1 _ _ W1), SqL.of I1, fun D hD => ?_⟩
    refine lc_it (walk_zip (K := K) (a := w) (b := ia) (xs := as.map V.ref) (ys := us.map V.ref) (n := rows.length) (by rw [List.length_map, List.length_map, las, lus, Nat.min_self])) (fun i H' => Same H1 H' ∧ ∃ bs : List Addr, H' D = some (.lst (bs.map V.ref)) ∧ Paired (fun a r => a ≠ D ∧ H' a = some (.lst (r.map V.int))) bs ((wideR rows).take i)) ⟨AL.Same.new hD, [], upd_same, .nil⟩ (fun i H' _ hh => ⟨SqL.of (hh.1 _ _ (s1 _ _ W1)), SqL.of (hh.1 _ _ I1)⟩) ?_ ?_
    · rintro i x H2 H3 hi ⟨s2, bs, hd, pr⟩ ⟨T0, u1, u2, rfl, hT0, rfl, e1, e2⟩
      obtain ⟨a, ha, rfl⟩ := map_ref e1
      obtain ⟨ua, hua, rfl⟩ := map_ref e2
      obtain ⟨r, hr, hra⟩ := prd_get W2 ha
      obtain ⟨u, hu, hua0⟩ := prd_get I2 hua
      have eu : u = unitR rows.length i := by
        unfold idM at hu
        rw [List.getElem?_map, List.getElem?_range hi] at hu
        exact (Option.some.inj hu).symm
      subst eu
      have nT := AL.Same.new (o := .tup [.ref a, .ref ua]) hT0
      have sT := s2.trans nT
      have hra4 := hra.same (s1.trans sT)
      have hu4 : LI (upd H2 T0 (.tup [.ref a, .ref ua])) ua (unitR rows.length i) := sT _ _ hua0
      have lrr := hl r (List.mem_of_getElem? hr)
      refine ⟨T0, _, rfl, SqT.of upd_same, rfl, _, _, rfl, _, _, rfl, rfl, rfl, ?_⟩
      refine ⟨_, rfl, a, _, rfl, hra4.seq, fun D0 hD0 => ?_⟩
      have n0 := AL.Same.new (o := .lst (r.map V.int)) hD0
      refine ⟨_, rfl, D0, ua, _, _, rfl, rfl, upd_same, n0 _ _ hu4, ?_, fun p hp => ?_⟩
      · rw [List.length_map, List.length_map, lrr, unitR_len]; exact Nat.le_of_lt (Nat.lt_of_le_of_lt (by omega : _ ≤ 1000) (by decide))
      have np := AL.Same.new (o := .lst (r.map V.int ++ (unitR rows.length i).map V.int)) hp
      have s04 := nT.trans (n0.trans np)
      have hp5 : upd (upd (upd H2 T0 (.tup [.ref a, .ref ua])) D0 (.lst (r.map V.int))) p (.lst (r.map V.int ++ (unitR rows.length i).map V.int)) p = some (.lst ((r ++ unitR rows.length i).map V.int)) := by rw [upd_same, List.map_append]
      generalize upd (upd (upd H2 T0 (.tup [.ref a, .ref ua])) D0 (.lst (r.map V.int))) p (.lst (r.map V.int ++ (unitR rows.length i).map V.int)) = H5 at s04 hp5 ⊢
      have hd5 := s04 _ _ hd
      have pD : p ≠ D := fun z => by rw [z, n0 _ _ (nT _ _ hd)] at hp; cases hp
      have lbs := prd_len pr
      rw [List.length_take, wideR_len] at lbs
      obtain ⟨r1, r2⟩ := rowsZ_snoc hd5 (paired_mono pr fun _ _ z => ⟨z.1, s04 _ _ z.2⟩) pD hp5
      refine ⟨_, hd5, ?_, AL.Same.updn (s2.trans s04) hD, bs ++ [p], r1, ?_⟩
      · rw [List.length_map, lbs]; exact Nat.lt_of_le_of_lt (by omega : _ ≤ 1000) (by decide)
      · rw [List.take_add_one, wideR_at hr]; exact r2
    rintro H2 ⟨s2, bs, hd, pr⟩
    rw [List.take_of_length_le (by rw [wideR_len]; exact Nat.le_refl _)] at pr
    have wl : ∀ r ∈ wideR rows, r.length = n + rows.length ∧ ∀ v ∈ r, v.natAbs ≤ B0 := fun r hr => by
      obtain ⟨i, hi⟩ := List.mem_iff_getElem?.mp hr
      have il := (List.getElem?_eq_some_iff.mp hi).1
      rw [wideR_len] at il
      rw [wideR_at (List.getElem?_eq_getElem il)] at hi
      obtain rfl := Option.some.inj hi
      have m0 := List.getElem_mem il
      refine ⟨by rw [List.length_append, unitR_len, hl _ m0], fun v hv => ?_⟩
      rcases List.mem_append.mp hv with z | z
      · exact hB _ m0 v z
      · unfold unitR at z
        obtain ⟨k, _, rfl⟩ := List.mem_map.mp z
        split
        · exact B1
        · exact Nat.zero_le _
    refine ⟨_, rfl, D, n + rows.length, B0, m, wideR rows, rfl, RowsZ.toT ⟨bs, hd, paired_mono pr fun _ _ z => z.2⟩, fun r hr => (wl r hr).1, by omega, by rw [wideR_len]; exact lr, fun r hr => (wl r hr).2, B1, Bm, by rw [wideR_len]; exact hm, by rw [wideR_len]; exact sz, fun dn H3 F s3 hF hnf gF lF bF => ?_⟩
    rw [wideR_len] at lF
    obtain ⟨fs, F1, F2⟩ := hF
    have lfs := prd_len F2
    refine ⟨_, rfl, dn, rfl, ⟨_, SqL.of F1⟩, fun L1 hL1 => ?_⟩
    refine lc_list (K := K) (a := dn) (xs := fs.map V.ref) (fun i H' => Same H3 H' ∧ ∃ ls : List Addr, H' L1 = some (.lst (ls.map V.ref)) ∧ Paired (fun a r => a ≠ L1 ∧ H' a = some (.lst (r.map V.int))) ls ((F.map (List.drop n)).take i)) ⟨AL.Same.new hL1, [], upd_same, .nil⟩ (fun i H' _ hh => SqL.of (hh.1 _ _ F1)) ?_ ?_
    · rintro i x H4 hx ⟨s4, ls, hd, pr⟩
      obtain ⟨a, ha, rfl⟩ := map_ref hx
      obtain ⟨f, hf, hfa⟩ := prd_get F2 ha
      refine ⟨rfl, ?_⟩
      refine ⟨_, rfl, _, rfl, _, rfl, a, _, rfl, SqL.of (s4 _ _ hfa), fun p hp => ?_⟩
      rw [cutV_from, show (f.map V.int).drop n = (f.drop n).map V.int from List.map_drop.symm]
      have np := AL.Same.new (o := .lst ((f.drop n).map V.int)) hp
      have hd5 := np _ _ hd
      have pD : p ≠ L1 := fun z => by rw [z, hd] at hp; cases hp
      have lls := prd_len pr
      rw [List.length_take, List.length_map] at lls
      obtain ⟨r1, r2⟩ := rowsZ_snoc hd5 (paired_mono pr fun _ _ z => ⟨z.1, np _ _ z.2⟩) pD upd_same
      refine ⟨_, hd5, ?_, AL.Same.updn (s4.trans np) hL1, ls ++ [p], r1, ?_⟩
      · rw [List.length_map, lls]; exact Nat.lt_of_le_of_lt (by omega : _ ≤ 1000) (by decide)
      · rw [List.take_add_one, List.getElem?_map, hf]; exact r2
    
    rintro H4 ⟨s4, ls, hL, prL⟩
    rw [List.take_of_length_le (by rw [List.length_map, List.length_map, lfs]; exact Nat.le_refl _)] at prL
    replace F1 := s4 _ _ F1
    replace F2 : Paired (fun a r => H4 a = some (.lst (r.map V.int))) fs F := paired_mono F2 fun _ _ z => s4 _ _ z
    refine ⟨_, rfl, dn, rfl, ⟨_, SqL.of F1⟩, fun L2 hL2 => ?_⟩
    refine lc_list (K := K) (a := dn) (xs := fs.map V.ref) (fun i H' => Same H4 H' ∧ ∃ ls : List Addr, H' L2 = some (.lst (ls.map V.ref)) ∧ Paired (fun a r => a ≠ L2 ∧ H' a = some (.lst (r.map V.int))) ls ((F.map (List.take n)).take i)) ⟨AL.Same.new hL2, [], upd_same, .nil⟩ (fun i H' _ hh => SqL.of (hh.1 _ _ F1)) ?_ ?_
    · rintro i x H5 hx ⟨s5, ls, hd, pr⟩
      obtain ⟨a, ha, rfl⟩ := map_ref hx
      obtain ⟨f, hf, hfa⟩ := prd_get F2 ha
      refine ⟨rfl, ?_⟩
      refine ⟨_, rfl, _, rfl, _, rfl, a, _, rfl, SqL.of (s5 _ _ hfa), fun p hp => ?_⟩
      rw [cutV_to, show (f.map V.int).take n = (f.take n).map V.int from List.map_take.symm]
      have np := AL.Same.new (o := .lst ((f.take n).map V.int)) hp
      have hd5 := np _ _ hd
      have pD : p ≠ L2 := fun z => by rw [z, hd] at hp; cases hp
      have lls := prd_len pr
      rw [List.length_take, List.length_map] at lls
      obtain ⟨r1, r2⟩ := rowsZ_snoc hd5 (paired_mono pr fun _ _ z => ⟨z.1, np _ _ z.2⟩) pD upd_same
      refine ⟨_, hd5, ?_, AL.Same.updn (s5.trans np) hL2, ls ++ [p], r1, ?_⟩
      · rw [List.length_map, lls]; exact Nat.lt_of_le_of_lt (by omega : _ ≤ 1000) (by decide)
      · rw [List.take_add_one, List.getElem?_map, hf]; exact r2
    
    rintro H5 ⟨s5, zs, hZ, prZ⟩
    rw [List.take_of_length_le (by rw [List.length_map, List.length_map, lfs]; exact Nat.le_refl _)] at prZ
    refine ⟨(by show 2 ≤ sizeLine; decide), fun t ht => ?_⟩
    have nt := AL.Same.new (o := .tup [.ref L1, .ref L2]) ht
    have s45 := s5.trans nt
    exact q t L1 L2 _ F (s1.trans (s2.trans (s3.trans (s4.trans s45)))) upd_same ⟨ls, s45 _ _ hL, paired_mono prL fun _ _ z => s45 _ _ z.2⟩ ⟨zs, nt _ _ hZ, paired_mono prZ fun _ _ z => nt _ _ z.2⟩ hnf gF lF bF
end
end AL
set_option Elab.async false
set_option maxRecDepth 100000
set_option exponentiation.threshold 70000
set_option maxHeartbeats 1000000
namespace AL
open PySem PySem.Spec PyProof.Rows L2 RZ
section
variable {P : Program} {w : World} {K : PySem.W.Frag} {mg : Str → Option Value} {base : Heap}

/-- whether what stands ahead is 0 -/
def kzB (u : Nat) (f : Rw) : Bool := !((f.take u).any fun k => decide (k ≠ 0))
def kerF (u : Nat) (F : List Rw) : List Rw := (F.filter (kzB u)).map (List.drop u)
/-- kernel_rows(rows) -/
def spKr : Sp := fun vs H Q _ => ∃ (w : Addr) (L B m : Nat) (rows : List Rw), vs = [.ref w] ∧ RowsT H w rows ∧ rows ≠ [] ∧ (∀ r ∈ rows, r.length = L) ∧ 0 < L ∧ rows.length + L ≤ 100 ∧ L ≤ 19 ∧ (∀ r ∈ rows, ∀ v ∈ r, v.natAbs ≤ B) ∧ 1 ≤ B ∧ B ≤ 2 ^ (m + 1) ∧ L * (facB B L * facB B L) ≤ 2 ^ m ∧ (m + 1) * (3 * L + 1) + 2 < 13000 ∧
  ∀ D H' F, Same H H' → RowsZ H' D (kerF rows.length F) → Hnf (rows.length + L) F → Gen F (wideR (trM L rows)) → F.length ≤ L → (∀ f ∈ F, BdR (2 ^ m) f) → Q (.ref D) H'
theorem trM_row {L : Nat} {rows : List Rw} {r : Rw} (h : r ∈ trM L rows) : r.length = rows.length ∧ ∃ j, j < L ∧ r = rows.map fun q => vl q j := by
  unfold trM at h
  obtain ⟨j, hj, rfl⟩ := List.mem_map.mp h
  exact ⟨List.length_map _, j, List.mem_range.mp hj, rfl⟩
theorem trM_bd {L B : Nat} {rows : List Rw} (h : ∀ r ∈ rows, ∀ v ∈ r, v.natAbs ≤ B) : ∀ r ∈ trM L rows, ∀ v ∈ r, v.natAbs ≤ B := fun r hr v hv => by
  obtain ⟨_, j, _, rfl⟩ := trM_row hr
  obtain ⟨q, hq, rfl⟩ := List.mem_map.mp hv
  exact bd_len (W := 0).mpr (h q hq) j

abbrev stkernel_rows : Stmt := top 11
theorem sckernel_rows : FnScope ["rows", "left", "middle", "row", "image"] ["rows"] (defScope stkernel_rows) := ⟨rfl, rfl, rfl, by decide +kernel, rfl, by decide +kernel, by decide +kernel⟩
theorem okkernel_rows (B : Blt mg)  {fcombined : Addr} {fdcombined : FuncData} (Dcombined : DefAt K mg "combined" stcombined ["many", "one", "times", "other"] fcombined fdcombined) {fpivot_of : Addr} {fdpivot_of : FuncData} (Dpivot_of : DefAt K mg "pivot_of" stpivot_of ["row"] fpivot_of fdpivot_of) {freduced : Addr} {fdreduced : FuncData} (Dreduced : DefAt K mg "reduced" streduced ["rows"] freduced fdreduced) {fbezout : Addr} {fdbezout : FuncData} (Dbezout : DefAt K mg "bezout" stbezout ["one", "other"] fbezout fdbezout) {ftaken_in : Addr} {fdtaken_in : FuncData} (Dtaken_in : DefAt K mg "taken_in" sttaken_in ["basis", "row"] ftaken_in fdtaken_in) {fhermite_rows : Addr} {fdhermite_rows : FuncData} (Dhermite_rows : DefAt K mg "hermite_rows" sthermite_rows ["rows"] fhermite_rows fdhermite_rows) {fidentity : Addr} {fdidentity : FuncData} (Didentity : DefAt K mg "identity" stidentity ["many"] fidentity fdidentity) {fhermite_pair : Addr} {fdhermite_pair : FuncData} (Dhermite_pair : DefAt K mg "hermite_pair" sthermite_pair ["rows"] fhermite_pair fdhermite_pair) {ftransposed : Addr} {fdtransposed : FuncData} (Dtransposed : DefAt K mg "transposed" sttransposed ["rows"] ftransposed fdtransposed) {fkernel_rows : Addr} {fdkernel_rows : FuncData} (Dkernel_rows : DefAt K mg "kernel_rows" stkernel_rows ["rows"] fkernel_rows fdkernel_rows) : FnOk P w K mg base CX0 5 fkernel_rows fdkernel_rows ["rows"] spKr := by
  have OKhermite_pair : FnOk P w K mg base CX0 4 fhermite_pair fdhermite_pair ["rows"] spHp := okhermite_pair B  Dcombined Dpivot_of Dreduced Dbezout Dtaken_in Dhermite_rows Didentity Dhermite_pair
  have OKtransposed : FnOk P w K mg base CX0 1 ftransposed fdtransposed ["rows"] spTrA := oktransposed B  Dtransposed
  refine Dkernel_rows.F.ok sckernel_rows (fun vs H Q E h => ?_) (fun cdv A outer s H vs Q E hr h => ?_)
  · obtain ⟨w, n, B0, m, rows, rfl, _⟩ := h; rfl
  · have hu := hu_of hr
    refine ⟨_, (pss_cons (ps_asg (pe_call OKhermite_pair (hr.mono (by decide)) rfl Dhermite_pair.m Dhermite_pair.F.kp Dhermite_pair.b .nil pass0 (pa_cons (pe_call OKtransposed (hr.mono (by decide)) rfl Dtransposed.m Dtransposed.F.kp Dtransposed.b .nil pass0 (pa_cons (pv 0) pa_nil)) pa_nil)) (pg_tup rfl (pgs_cons (pg_name (i := 1) sckernel_rows.nd rfl (Or.inl rfl)) (pgs_cons (pg_name (i := 2) sckernel_rows.nd rfl (Or.inl rfl)) pgs_nil))))
    (pss_one (ps_ret (pe_lc (own := [("row", 3), ("image", 4)]) (g := (gTup K 2 (gCons (gName 3) (gCons (gName 4) gNil)))) rfl sckernel_rows.nd (pi_zip (by rfl) B.zip_ (pa_cons (pv 1) (pa_cons (pv 2) pa_nil))) (blkOk_by (own := [("row", 3), ("image", 4)]) (N := ["rows", "left", "middle", "row", "image"]) (sc := defScope stkernel_rows) (by decide +kernel)) (fun _ _ _ _ _ => (pg_tup rfl (pgs_cons (pg_name (i := 3) sckernel_rows.nd rfl (Or.inl rfl)) (pgs_cons (pg_name (i := 4) sckernel_rows.nd rfl (Or.inl rfl)) pgs_nil)))) (fun _ _ _ _ _ => (pts_one (pt_not (pt_val (pe_callB (cr_anyI rfl : CallR _ (.builtin "any") (rAnyI K)) (by rfl) B.any_ (by decide +kernel) (pa_cons (pv 4) pa_nil)))))) (fun _ _ _ _ _ => (pv 3)))))), ?_⟩
    obtain ⟨w, n, B0, m, rows, rfl, hw, ne, hl, n0, lw, lr, hB, B1, Bm, hm, sz, q⟩ := h
    have lt := trM_len n rows
    have tne : trM n rows ≠ [] := fun z => by rw [z] at lt; simp at lt; omega
    refine ⟨_, rfl, w, n, rows, rfl, hw.toA, ne, hl, by omega, by omega, fun td H1 htd s1 hT => ?_⟩
    refine ⟨td, rows.length, B0, m, trM n rows, rfl, RowsZ.toT hT, tne, fun r hr => (trM_row hr).1, by rw [lt]; exact lw, by rw [lt]; exact lr, trM_bd hB, B1, Bm, by rw [lt]; exact hm, by rw [lt]; exact sz, fun t l z H2 F s2 ht hL hZ hnf gF lF bF => ?_⟩
    rw [lt] at hnf lF
    obtain ⟨ls, L1, L2⟩ := hL
    obtain ⟨zs, Z1, Z2⟩ := hZ
    have lls := prd_len L2
    have lzs := prd_len Z2
    rw [List.length_map] at lls lzs
    refine ⟨t, _, rfl, SqT.of ht, rfl, _, _, rfl, _, _, rfl, rfl, ?_⟩
    refine ⟨_, rfl, _, rfl, l, z, _, _, rfl, SqL.of L1, SqL.of Z1, fun D hD => ?_⟩
    refine lc_it (walk_zip (K := K) (a := l) (b := z) (xs := ls.map V.ref) (ys := zs.map V.ref) (n := F.length) (by rw [List.length_map, List.length_map, lls, lzs, Nat.min_self])) (fun i H' => Same H2 H' ∧ ∃ bs : List Addr, H' D = some (.lst (bs.map V.ref)) ∧ bs.length ≤ i ∧ Paired (fun a r => a ≠ D ∧ H' a = some (.lst (r.map V.int))) bs (kerF rows.length (F.take i))) ⟨AL.Same.new hD, [], upd_same, Nat.le_refl _, .nil⟩ (fun i H' _ hh => ⟨SqL.of (hh.1 _ _ L1), SqL.of (hh.1 _ _ Z1)⟩) ?_ ?_
    · rintro i x H3 H4 hi ⟨s3, bs, hd, lb, pr⟩ ⟨T0, u1, u2, rfl, hT0, rfl, e1, e2⟩
      obtain ⟨a, ha, rfl⟩ := map_ref e1
      obtain ⟨b, hb, rfl⟩ := map_ref e2
      obtain ⟨u, hu, hua⟩ := prd_get L2 ha
      obtain ⟨v, hv, hvb⟩ := prd_get Z2 hb
      obtain ⟨f, hf⟩ : ∃ f, F[i]? = some f := ⟨_, List.getElem?_eq_getElem hi⟩
      rw [List.getElem?_map, hf] at hu hv
      obtain rfl := Option.some.inj hu
      obtain rfl := Option.some.inj hv
      have nT := AL.Same.new (o := .tup [.ref a, .ref b]) hT0
      have sT := s3.trans nT
      have hd4 := nT _ _ hd
      have hua4 := sT _ _ hua
      have pr4 := paired_mono pr fun _ _ z => (⟨z.1, nT _ _ z.2⟩ : _ ≠ D ∧ upd H3 T0 (.tup [.ref a, .ref b]) _ = _)
      refine ⟨T0, _, rfl, SqT.of upd_same, rfl, _, _, rfl, _, _, rfl, rfl, rfl, ?_⟩
      refine ⟨_, rfl, b, _, rfl, SqL.of (sT _ _ hvb), _, rfl, ?_⟩
      have st : kerF rows.length (F.take (i + 1)) = kerF rows.length (F.take i) ++ (if kzB rows.length f = true then [f.drop rows.length] else []) := by
        unfold kerF
        rw [List.take_add_one, hf, List.filter_append, List.map_append]
        congr 1
        show List.map _ (List.filter _ [f]) = _
        rw [List.filter_cons]
        split <;> rfl
      have kz : (!((f.take rows.length).any fun k => decide (k ≠ 0))) = kzB rows.length f := rfl
      dsimp only
      rw [kz]
      cases hk : kzB rows.length f with
      | true =>
        refine iteT ?_
        rw [hk, if_pos rfl] at st
        have aD : a ≠ D := fun z => by rw [z, hD] at hua; cases hua
        obtain ⟨r1, r2⟩ := rowsZ_snoc hd4 pr4 aD hua4
        refine ⟨_, rfl, _, hd4, ?_, AL.Same.updn sT hD, bs ++ [a], r1, by rw [List.length_append]; exact Nat.succ_le_succ lb, by rw [st]; exact r2⟩
        rw [List.length_map]; exact Nat.lt_of_le_of_lt (by omega : _ ≤ 1000) (by decide)
      | false =>
        refine iteF ?_
        rw [hk, if_neg (by decide), List.append_nil] at st
        exact ⟨sT, bs, hd4, by omega, by rw [st]; exact pr4⟩
    rintro H3 ⟨s3, bs, hd, lb, pr⟩
    rw [List.take_length] at pr
    exact q D H3 F (s1.trans (s2.trans s3)) ⟨bs, hd, paired_mono pr fun _ _ z => z.2⟩ hnf gF lF bF
end
end AL
set_option Elab.async false
set_option maxRecDepth 100000
set_option exponentiation.threshold 70000
set_option maxHeartbeats 1000000
namespace AL
open PySem PySem.Spec PyProof.Rows L2 RZ
section
variable {P : Program} {w : World} {K : PySem.W.Frag} {mg : Str → Option Value} {base : Heap}
theorem shaped_intsL (l : List Int) : SeqAt.shaped (.list (l.map PyData.int)) = true := by
  unfold SeqAt.shaped
  rw [show PyData.canLay0 (.list (l.map PyData.int)) = true by simpa [PyData.canLay0] using (can_ints l).1]
  simp [PyData.depth, (can_ints l).2]
theorem eqv_intsL (a b : List Int) : PyData.eqv (.list (a.map PyData.int)) (.list (b.map PyData.int)) = decide (a = b) := by
  rw [PyData.eqv]
  exact PySem.W.ked_eqvAll a b
def dL (z : List Int) : PyData := .list (z.map PyData.int)
theorem can_dL : ∀ z : List Int, PyData.canLayAll0 (z.map PyData.int) = true ∧ PyData.depthAll (z.map PyData.int) ≤ 1
  | [] => ⟨rfl, by decide⟩
  | x :: r => by
    have b := can_dL r
    rw [List.map_cons]
    constructor
    · simp only [PyData.canLayAll0, PyData.canLay0, b.1, Bool.and_self]
    · simp only [PyData.depthAll, PyData.depth]
      omega
theorem can_rows : ∀ zs : List (List Int), PyData.canLayAll0 (zs.map dL) = true ∧ PyData.depthAll (zs.map dL) ≤ 2
  | [] => ⟨rfl, by decide⟩
  | z :: r => by
    have a := can_dL z
    have b := can_rows r
    rw [List.map_cons]
    unfold dL at *
    constructor
    · simp only [PyData.canLayAll0, PyData.canLay0, a.1, b.1, Bool.and_self]
    · simp only [PyData.depthAll, PyData.depth]
      omega
theorem shaped_rows (zs : List (List Int)) : SeqAt.shaped (.list (zs.map dL)) = true := by
  have z := can_rows zs
  unfold SeqAt.shaped
  rw [show PyData.canLay0 (.list (zs.map dL)) = true by simpa only [PyData.canLay0] using z.1]
  have d : PyData.depth (.list (zs.map dL)) ≤ 3 := by simp only [PyData.depth]; omega
  simp only [Bool.true_and, decide_eq_true_eq]
  omega
theorem dpAll_z {K : PySem.W.Frag} {H : Hp} : ∀ z : List Int, DpAll K H (z.map V.int) (z.map PyData.int)
  | [] => .nil
  | x :: r => .cons (.int x) (dpAll_z r)
theorem ixN_of {n j : Nat} (h : j < n) : ixN n (j : Int) = some j := by
  unfold ixN
  rw [if_pos (by omega), if_pos (by omega)]
  show some ((j : Int)).toNat = some j
  rw [Int.toNat_natCast]
theorem prd_set {α β : Type} {R : α → β → Prop} {as : List α} {bs : List β} {a : α} {b : β} (h : Paired R as bs) (i : Nat) (r : R a b) : Paired R (as.set i a) (bs.set i b) := by
  induction h generalizing i with
  | nil => exact .nil
  | cons h t ih =>
    cases i with
    | zero => exact .cons r t
    | succ i => exact .cons h (ih i)

theorem dp_rowsL {K : PySem.W.Frag} {H : Hp} {rs : List Addr} {zs : List (List Int)} (h : Paired (fun r z => LI H r z) rs zs) : DpAll K H (rs.map V.ref) (zs.map dL) := by
  induction h with
  | nil => exact .nil
  | cons r _ ih => exact .cons (.lst (SqL.of r) (dpAll_z _)) ih
theorem eqv_rowsL (zs : List (List Int)) : PyData.eqv (.list (zs.map dL)) (.list []) = decide (zs = []) := by
  cases zs with
  | nil => rw [List.map_nil, PyData.eqv, PyData.eqvAll]; rfl
  | cons z r => rw [List.map_cons, PyData.eqv, PyData.eqvAll]; rfl
/-- _law_rank(rows) -/
def spRk : Sp := fun vs H Q _ => ∃ (w : Addr) (W B : Nat) (rows : List Rw), vs = [.ref w] ∧ RowsT H w rows ∧ (∀ r ∈ rows, r.length = W) ∧ W ≤ 100 ∧ rows.length ≤ 30 ∧ (∀ r ∈ rows, ∀ v ∈ r, v.natAbs ≤ B) ∧ 1 ≤ B ∧ facB B (rows.length + 1) < 2 ^ 6000 ∧
  ∀ H' s, Same H H' → RankIs rows s → Q (.int (s : Nat)) H'

abbrev st_law_rank : Stmt := top 35
theorem sc_law_rank : FnScope ["_law_rows", "_law_left", "_law_last", "_law_place", "_law_row", "_law_k", "_law_found", "_law_j", "_law_lead", "_law_by", "_law_one", "_law_two"] ["_law_rows"] (defScope st_law_rank) := ⟨rfl, rfl, rfl, by decide +kernel, rfl, by decide +kernel, by decide +kernel⟩
theorem ok_law_rank (B : Blt mg)  {f_law_rank : Addr} {fd_law_rank : FuncData} (D_law_rank : DefAt K mg "_law_rank" st_law_rank ["_law_rows"] f_law_rank fd_law_rank) : FnOk P w K mg base CX0 1 f_law_rank fd_law_rank ["_law_rows"] spRk := by
  refine D_law_rank.F.ok sc_law_rank (fun vs H Q E h => ?_) (fun cdv A outer s H vs Q E hr h => ?_)
  · obtain ⟨w, W, B0, rows, rfl, _⟩ := h; rfl
  · have hu := hu_of hr
    refine ⟨_, (pss_cons (ps_asg (pe_tup (pa_cons (pe_lc (own := [("_law_row", 4)]) (g := gName 4) (tt := tYes) rfl sc_law_rank.nd (pi_list (pv 0)) (blkOk_by (own := [("_law_row", 4)]) (N := ["_law_rows", "_law_left", "_law_last", "_law_place", "_law_row", "_law_k", "_law_found", "_law_j", "_law_lead", "_law_by", "_law_one", "_law_two"]) (sc := defScope st_law_rank) (by decide +kernel)) (fun _ _ _ _ _ => (pg_name (i := 4) sc_law_rank.nd rfl (Or.inl rfl))) (fun _ _ _ _ _ => pts_nil) (fun _ _ _ _ _ => (pe_callTy (call_listK : CallR _ _ (rListK K)) (by rfl) B.list_ (by decide +kernel) (pa_cons (pv 4) pa_nil)))) (pa_cons pe_int (pa_cons pe_int pa_nil)))) (pg_tup rfl (pgs_cons (pg_name (i := 1) sc_law_rank.nd rfl (Or.inr rfl)) (pgs_cons (pg_name (i := 2) sc_law_rank.nd rfl (Or.inr rfl)) (pgs_cons (pg_name (i := 3) sc_law_rank.nd rfl (Or.inl rfl)) pgs_nil)))))
    (pss_cons (ps_if (pt_cmpR (op_eqD hr.units) (pv 1) (pe_lst pa_nil) (nomark _)) (pss_one (ps_ret pe_int)) pss_nil)
    (pss_cons (ps_for PassesOwn.never rfl (pi_range1 rfl B.range_ (pa_cons (pe_callB call_len_seq (by rfl) B.len_ (by decide +kernel) (pa_cons (pe_ix ix_list (pv 1) pe_int (fun _ _ => rfl)) pa_nil)) pa_nil)) (pg_name (i := 5) sc_law_rank.nd rfl (Or.inr rfl))
      (pss_cons (ps_setLc (i := 6) (own := [("_law_j", 7)]) (g := gName 7) rfl sc_law_rank.nd rfl rfl (sw_true rfl rfl rfl (by decide +kernel)) (pi_range2 rfl B.range_ (pa_cons (pv 3) (pa_cons (pe_callB (call_lenK : CallR _ (.builtin "len") (rLenK K)) (by rfl) B.len_ (by decide +kernel) (pa_cons (pv 1) pa_nil)) pa_nil))) (blkOk_by (own := [("_law_j", 7)]) (N := ["_law_rows", "_law_left", "_law_last", "_law_place", "_law_row", "_law_k", "_law_found", "_law_j", "_law_lead", "_law_by", "_law_one", "_law_two"]) (sc := defScope st_law_rank) (by decide +kernel)) (fun _ _ _ _ _ => (pg_name (i := 7) sc_law_rank.nd rfl (Or.inl rfl))) (fun _ _ _ _ _ => (pts_one (pt_cmpR op_ne (pe_ix (ix_list : IxR _ (rIxL K)) (pe_ix (ix_list : IxR _ (rIxL K)) (pv 1) (pv 7) (fun _ _ => rfl)) (pv 5) (fun _ _ => rfl)) pe_int (nomark _)))) (fun _ _ _ _ _ => (pv 7)))
    (pss_cons (ps_if (pt_cmpR (op_eqD hr.units) (pv 6) (pe_lst pa_nil) (nomark _)) (pss_one ps_continue) pss_nil)
    (pss_cons (ps_asg (pe_tup (pa_cons (pe_ix ix_list (pv 1) (pe_ix ix_list (pv 6) pe_int (fun _ _ => rfl)) (fun _ _ => rfl)) (pa_cons (pe_ix ix_list (pv 1) (pv 3) (fun _ _ => rfl)) pa_nil))) (pg_tup rfl (pgs_cons (pg_sub (pv 1) (pv 3) set_list) (pgs_cons (pg_sub (pv 1) (pe_ix ix_list (pv 6) pe_int (fun _ _ => rfl)) set_list) pgs_nil))))
    (pss_cons (ps_set (i := 8) sc_law_rank.nd rfl (Or.inr rfl) (pe_ix ix_list (pv 1) (pv 3) (fun _ _ => rfl)))
    (pss_cons (ps_for PassesOwn.never rfl (pi_range2 rfl B.range_ (pa_cons (pe_op op_add (pv 3) pe_int) (pa_cons (pe_callB (call_lenK : CallR _ (.builtin "len") (rLenK K)) (by rfl) B.len_ (by decide +kernel) (pa_cons (pv 1) pa_nil)) pa_nil))) (pg_name (i := 7) sc_law_rank.nd rfl (Or.inl rfl))
      (pss_cons (ps_set (i := 9) sc_law_rank.nd rfl (Or.inr rfl) (pe_ix (ix_list : IxR _ (rIxL K)) (pe_ix (ix_list : IxR _ (rIxL K)) (pv 1) (pv 7) (fun _ _ => rfl)) (pv 5) (fun _ _ => rfl)))
    (pss_one (ps_asg (pe_lc (own := [("_law_one", 10), ("_law_two", 11)]) (g := (gTup K 2 (gCons (gName 10) (gCons (gName 11) gNil)))) (tt := tYes) rfl sc_law_rank.nd (pi_zip (by rfl) B.zip_ (pa_cons (pe_ix (ix_list : IxR _ (rIxL K)) (pv 1) (pv 7) (fun _ _ => rfl)) (pa_cons (pv 8) pa_nil))) (blkOk_by (own := [("_law_one", 10), ("_law_two", 11)]) (N := ["_law_rows", "_law_left", "_law_last", "_law_place", "_law_row", "_law_k", "_law_found", "_law_j", "_law_lead", "_law_by", "_law_one", "_law_two"]) (sc := defScope st_law_rank) (by decide +kernel)) (fun _ _ _ _ _ => (pg_tup rfl (pgs_cons (pg_name (i := 10) sc_law_rank.nd rfl (Or.inl rfl)) (pgs_cons (pg_name (i := 11) sc_law_rank.nd rfl (Or.inl rfl)) pgs_nil)))) (fun _ _ _ _ _ => pts_nil) (fun _ _ _ _ _ => (pe_op op_fdivB (pe_op op_sub (pe_op op_mulW (pv 10) (pe_ix (ix_list : IxR _ (rIxL K)) (pv 8) (pv 5) (fun _ _ => rfl))) (pe_op op_mulW (pv 11) (pv 9))) (pv 2)))) (pg_sub (pv 1) (pv 7) set_list)))))
    (pss_cons (ps_asg (pe_tup (pa_cons (pe_ix (ix_list : IxR _ (rIxL K)) (pv 8) (pv 5) (fun _ _ => rfl)) (pa_cons (pe_op op_add (pv 3) pe_int) pa_nil))) (pg_tup rfl (pgs_cons (pg_name (i := 2) sc_law_rank.nd rfl (Or.inr rfl)) (pgs_cons (pg_name (i := 3) sc_law_rank.nd rfl (Or.inl rfl)) pgs_nil))))
    (pss_one (ps_if (pt_cmpR op_eq (pv 3) (pe_callB (call_lenK : CallR _ (.builtin "len") (rLenK K)) (by rfl) B.len_ (by decide +kernel) (pa_cons (pv 1) pa_nil)) (nomark _)) (pss_one ps_break) pss_nil)))))))))
    (pss_one (ps_ret (pv 3)))))), ?_⟩
    obtain ⟨w, W, B0, rows, rfl, hw, hl, lW, l30, hB, B1, fb, q⟩ := h
    obtain ⟨as, W1, W2⟩ := hw
    have las := prd_len W2
    refine ⟨_, rfl, w, rfl, ⟨_, SqL.of W1⟩, fun L hL => ?_⟩
    refine lc_list (K := K) (a := w) (xs := as.map V.ref) (fun i H' => Same H H' ∧ ∃ bs : List Addr, H' L = some (.lst (bs.map V.ref)) ∧ Paired (fun a r => a ≠ L ∧ H' a = some (.lst (r.map V.int))) bs (rows.take i)) ⟨AL.Same.new hL, [], upd_same, .nil⟩ (fun i H' _ hh => SqL.of (hh.1 _ _ W1)) ?_ ?_
    · rintro i x H1 hx ⟨s1, bs, hd, pr⟩
      obtain ⟨a, ha, rfl⟩ := map_ref hx
      obtain ⟨r, hr, hra⟩ := prd_get W2 ha
      have il := (List.getElem?_eq_some_iff.mp hr).1
      refine ⟨rfl, ?_⟩
      refine ⟨_, rfl, a, _, rfl, (hra.same s1).seq, fun D0 hD0 => ?_⟩
      have n0 := AL.Same.new (o := .lst (r.map V.int)) hD0
      have DL : D0 ≠ L := fun z => by rw [z, hd] at hD0; cases hD0
      have lbs := prd_len pr
      rw [List.length_take] at lbs
      obtain ⟨r1, r2⟩ := rowsZ_snoc (n0 _ _ hd) (paired_mono pr fun _ _ z => ⟨z.1, n0 _ _ z.2⟩) DL upd_same
      refine ⟨_, n0 _ _ hd, ?_, AL.Same.updn (s1.trans n0) hL, bs ++ [D0], r1, by rw [List.take_add_one, hr]; exact r2⟩
      rw [List.length_map, lbs]; exact Nat.lt_of_le_of_lt (by omega : _ ≤ 1000) (by decide)
    rintro H1 ⟨s1, bs, hL1, pr1⟩
    rw [List.length_map, las, List.take_length] at pr1
    have lbs := prd_len pr1
    refine ⟨(by show 3 ≤ sizeLine; decide), fun T hT => ?_⟩
    have nT := AL.Same.new (o := .tup [.ref L, .int 1, .int 0]) hT
    refine ⟨T, _, rfl, SqT.of upd_same, rfl, _, _, rfl, _, _, rfl, _, _, rfl, rfl, ?_⟩
    have s2 := s1.trans nT
    have hL2 := nT _ _ hL1
    have pr2 := paired_mono pr1 fun _ _ z => (⟨z.1, nT _ _ z.2⟩ : _ ≠ L ∧ upd H1 T (.tup [.ref L, .int 1, .int 0]) _ = _)
    generalize upd H1 T (.tup [.ref L, .int 1, .int 0]) = H2 at s2 hL2 pr2 ⊢
    clear nT hT hL1 pr1 s1
    refine ⟨_, rfl, (by show 0 ≤ sizeLine; decide), fun e he => ?_⟩
    have ne := AL.Same.new (o := .lst []) he
    have s3 := s2.trans ne
    have hL3 := ne _ _ hL2
    have pr3 := paired_mono pr2 fun _ _ z => (⟨z.1, ne _ _ z.2⟩ : _ ≠ L ∧ upd H2 e (.lst []) _ = _)
    refine ⟨.list (rows.map dL), .list [], .lst (SqL.of hL3) (dp_rowsL (paired_mono pr3 fun _ _ z => z.2)), .lst (SqL.of upd_same) .nil, shaped_rows _, rfl, _, rfl, ?_⟩
    rw [eqv_rowsL]
    generalize upd H2 e (.lst []) = H3 at s3 hL3 pr3 ⊢
    clear ne he s2 hL2 pr2
    by_cases c0 : rows = []
    · rw [decide_eq_true c0]
      refine iteT ?_
      subst c0
      exact q _ 0 s3 (bar_end (bar_start hl) (.inr rfl))
    rw [decide_eq_false c0]
    refine iteF ?_
    obtain ⟨r0, rows', hrs⟩ : ∃ r0 rows', rows = r0 :: rows' := by
      cases rows with
      | nil => exact absurd rfl c0
      | cons r0 rows' => exact ⟨r0, rows', rfl⟩
    obtain ⟨b0, bs', hbs⟩ : ∃ b0 bs', bs = b0 :: bs' := by
      cases bs with
      | nil => rw [hrs] at lbs; simp at lbs
      | cons b0 bs' => exact ⟨b0, bs', rfl⟩
    have h0 : LI H3 b0 r0 := by rw [hrs, hbs] at pr3; cases pr3 with | cons z _ => exact z.2
    have l0 := hl r0 (by rw [hrs]; exact List.mem_cons_self ..)
    have g0 : atI (bs.map V.ref) 0 = some (.ref b0) := by rw [hbs]; exact (atI_of (by rw [List.length_map, List.length_cons]; omega : 0 < _))
    refine ⟨_, rfl, L, _, _, _, rfl, rfl, SqL.of hL3, g0, b0, _, rfl, .inl (SqL.of h0), ?_⟩
    rw [List.length_map, l0]
    have n0 : 0 < rows.length := List.length_pos_iff.mpr c0
    refine ⟨_, rfl, by omega, by omega, for_range (lo := 0) (n := ((W : Nat) : Int).toNat) (fun i σ H' => ∃ (d : Int) (s : Nat) (v5 v6 v7 v8 v9 : Option V) (cs : List Addr) (left R : List Rw) (P : List Nat), σ = [some (.ref w), some (.ref L), some (.int d), some (.int (s : Int)), none, v5, v6, v7, v8, v9, none, none] ∧ Same H H' ∧ H' L = some (.lst (cs.map V.ref)) ∧ Paired (fun a r => a ≠ L ∧ H' a = some (.lst (r.map V.int))) cs left ∧ Bar W s i rows left d R P ∧ s < R.length) ⟨1, 0, none, none, none, none, none, bs, rows, rows, [], rfl, s3, hL3, pr3, bar_start hl, n0⟩ ?_ ?_⟩
    · rintro i σ H4 hi ⟨d, s, v5, v6, v7, v8, v9, cs, left, R, P, rfl, s4, hL4, pr4, br, sR⟩
      rw [Int.toNat_natCast] at hi
      have zi : (0 : Int) + (i : Int) = ((i : Nat) : Int) := Int.zero_add _
      rw [zi]
      have ll := br.ll
      have lR : R.length = rows.length := br.pm.length_eq
      have lcs := prd_len pr4
      refine ⟨_, rfl, _, rfl, L, _, rfl, .inl (SqL.of hL4), _, _, rfl, ?_, fun D hD => ?_⟩
      · rw [List.length_map]; exact ⟨by omega, by omega, by omega, by omega⟩
      refine lc_range (lo := (s : Int)) (n := (((cs.map V.ref).length : Int) - (s : Int)).toNat) (fun t H' => Same H4 H' ∧ ∃ fnd : List Nat, H' D = some (.lst (fnd.map fun j : Nat => V.int (j : Int))) ∧ fnd.length ≤ t ∧ (∀ j ∈ fnd, s ≤ j ∧ j < R.length ∧ vl (left.getD j []) i ≠ 0) ∧ ∀ j, s ≤ j → j < s + t → vl (left.getD j []) i ≠ 0 → j ∈ fnd) ⟨AL.Same.new hD, [], upd_same, Nat.le_refl _, (fun j hj => nomatch hj), fun j h1 h2 => by omega⟩ ?_ ?_
      · rintro t H5 ht ⟨s5, fnd, hd, lf, f1, f2⟩
        rw [List.length_map, lcs] at ht
        have jl : s + t < left.length := by omega
        have zt : (s : Int) + (t : Int) = ((s + t : Nat) : Int) := by omega
        rw [zt]
        obtain ⟨ca, hca⟩ : ∃ ca, cs[s + t]? = some ca := ⟨_, List.getElem?_eq_getElem (by omega)⟩
        obtain ⟨r, hr, hcr⟩ := prd_get pr4 hca
        have er : left.getD (s + t) [] = r := by rw [List.getD_eq_getElem?_getD, hr]; rfl
        have lr : r.length = W := br.lw r (List.mem_of_getElem? hr)
        have gc : atI (cs.map V.ref) ((s + t : Nat) : Int) = some (.ref ca) := by rw [atI_of (by rw [List.length_map]; omega), List.getElem?_map, hca]; rfl
        have gr : atI (r.map V.int) ((i : Nat) : Int) = some (.int (vl r i)) := by rw [atI_of (by rw [List.length_map]; omega), List.getElem?_map, vl_at (by omega)]; rfl
        refine ⟨rfl, ?_⟩
        refine ⟨_, rfl, _, rfl, L, _, _, _, rfl, rfl, SqL.of (s5 _ _ hL4), gc, _, rfl, ca, _, _, _, rfl, rfl, SqL.of (s5 _ _ hcr.2), gr, rfl, _, rfl, ?_⟩
        by_cases c : vl r i = 0
        · rw [show (!decide (V.int (vl r i) = V.int 0)) = false by rw [c, decide_eq_true rfl]; rfl]
          refine iteF ?_
          refine ⟨s5, fnd, hd, by omega, f1, fun j h1 h2 h3 => ?_⟩
          by_cases e : j = s + t
          · rw [e, er] at h3; exact absurd c h3
          · exact f2 j h1 (by omega) h3
        · rw [show (!decide (V.int (vl r i) = V.int 0)) = true by rw [decide_eq_false (fun w => c (by injection w))]; rfl]
          refine iteT ?_
          refine ⟨_, rfl, _, hd, ?_, AL.Same.updn s5 hD, fnd ++ [s + t], by rw [upd_same, List.map_append]; rfl, by rw [List.length_append]; exact Nat.succ_le_succ lf, fun j hj => ?_, fun j h1 h2 h3 => ?_⟩
          · rw [List.length_map]; exact Nat.lt_of_le_of_lt (by omega : _ ≤ 1000) (by decide)
          · rcases List.mem_append.mp hj with h | h
            · exact f1 j h
            · rw [List.mem_singleton.mp h, er]; exact ⟨by omega, by omega, c⟩
          · by_cases e : j = s + t
            · rw [e]; exact List.mem_append_right _ (List.mem_singleton.mpr rfl)
            · exact List.mem_append_left _ (f2 j h1 (by omega) h3)
      rintro H5 ⟨s5, fnd, hd, lf, f1, f2⟩
      rw [List.length_map, lcs] at f2
      have hL5 := s5 _ _ hL4
      have pr5 := paired_mono pr4 fun _ _ z => (⟨z.1, s5 _ _ z.2⟩ : _ ≠ L ∧ H5 _ = _)
      have s45 := s4.trans s5
      clear s5 hL4 pr4 s4
      refine ⟨_, rfl, (by show 0 ≤ sizeLine; decide), fun e he => ?_⟩
      have ne := AL.Same.new (o := .lst []) he
      have hd6 := ne _ _ hd
      refine ⟨.list ((fnd.map fun j : Nat => (j : Int)).map PyData.int), .list (([] : List Int).map PyData.int), .lst (SqL.of (by rw [hd6, List.map_map]; rfl)) (dpAll_int _), .lst (SqL.of upd_same) .nil, shaped_intsL _, shaped_intsL _, _, rfl, ?_⟩
      rw [eqv_intsL]
      have hL6 := ne _ _ hL5
      have pr6 := paired_mono pr5 fun _ _ z => (⟨z.1, ne _ _ z.2⟩ : _ ≠ L ∧ upd H5 e (.lst []) _ = _)
      have s6 := s45.trans ne
      generalize upd H5 e (.lst []) = H6 at hd6 hL6 pr6 s6 ⊢
      clear ne he hL5 pr5 s45 hd
      cases fnd with
      | nil =>
        rw [show decide ((([] : List Nat).map fun j : Nat => (j : Int)) = ([] : List Int)) = true from rfl]
        refine iteT ?_
        refine ⟨d, s, _, _, _, _, _, cs, left, R, P, rfl, s6, hL6, pr6, bar_skip br (fun j h1 h2 => Classical.byContradiction fun c => ?_), sR⟩
        have := f2 j h1 (by omega) c
        exact nomatch this
      | cons f fnd =>
        rw [decide_eq_false (fun z => nomatch z)]
        refine iteF ?_
        obtain ⟨sf, fl, fz⟩ := f1 f (List.mem_cons_self ..)
        clear f1 f2 lf
        have sl : s < left.length := by omega
        have fl' : f < left.length := by omega
        have g0 : atI ((f :: fnd).map fun j : Nat => V.int (j : Int)) 0 = some (.int (f : Int)) := atI_of (by rw [List.length_map, List.length_cons]; omega : 0 < _)
        have cf : f < cs.length := by omega
        have cS : s < cs.length := by omega
        have gf : atI (cs.map V.ref) ((f : Nat) : Int) = some (.ref cs[f]) := by rw [atI_of (by rw [List.length_map]; omega), List.getElem?_map, List.getElem?_eq_getElem cf]; rfl
        have gs : atI (cs.map V.ref) ((s : Nat) : Int) = some (.ref cs[s]) := by rw [atI_of (by rw [List.length_map]; omega), List.getElem?_map, List.getElem?_eq_getElem cS]; rfl
        refine ⟨_, rfl, _, rfl, D, _, _, _, rfl, rfl, SqL.of hd6, g0, L, _, _, _, rfl, rfl, SqL.of hL6, gf, _, rfl, _, rfl, L, _, _, _, rfl, rfl, SqL.of hL6, gs, (by show 2 ≤ sizeLine; decide), fun T0 hT0 => ?_⟩
        have nT := AL.Same.new (o := .tup [.ref cs[f], .ref cs[s]]) hT0
        have DL : D ≠ L := fun z => by
          rw [z, hL6] at hd6
          have := congrArg (fun o => match o with | some (HO.lst (V.int _ :: _)) => true | _ => false) hd6
          cases cs with
          | nil => simp at cf
          | cons a b => exact nomatch this
        refine ⟨T0, _, rfl, SqT.of upd_same, rfl, _, _, rfl, _, rfl, _, rfl, L, _, _, _, rfl, rfl, nT _ _ hL6, ixN_of (by rw [List.length_map]; exact cS), ?_⟩
        refine ⟨_, _, rfl, _, rfl, _, rfl, D, _, _, _, rfl, rfl, SqL.of (Eq.trans (upd_ne DL) (nT _ _ hd6)), g0, L, _, _, _, rfl, rfl, upd_same, ixN_of (by rw [List.length_set, List.length_map]; exact cf), rfl, ?_⟩
        rw [L2.upd_upd]
        obtain ⟨R', br', lR'⟩ := bar_swap br sl sf fl'
        have lcs6 := prd_len pr6
        have e1 : left[f] = left[f]'fl' := rfl
        obtain ⟨lf', hlf', plf⟩ := prd_get pr6 (List.getElem?_eq_getElem cf)
        obtain ⟨ls', hls', pls⟩ := prd_get pr6 (List.getElem?_eq_getElem cS)
        rw [List.getElem?_eq_getElem fl'] at hlf'
        rw [List.getElem?_eq_getElem sl] at hls'
        obtain rfl := Option.some.inj hlf'
        obtain rfl := Option.some.inj hls'
        have pr7 : Paired (fun a r => a ≠ L ∧ H6 a = some (.lst (r.map V.int))) ((cs.set s cs[f]).set f cs[s]) ((left.set s left[f]).set f left[s]) := prd_set (prd_set pr6 s plf) f pls
        have sw : (left.set s left[f]).set f left[s] = (left.set s left[f]).set f left[s] := rfl
        have lead0 : ((left.set s left[f]).set f left[s]).getD s [] = left.getD f [] := by
          rw [getD_swap sl fl' sl]
          by_cases e : s = f
          · rw [if_pos e, e]
          · rw [if_neg e, if_pos rfl]
        have hk : vl (((left.set s left[f]).set f left[s]).getD s []) i ≠ 0 := by rw [lead0]; exact fz
        have ev : ((cs.map V.ref).set s (.ref cs[f])).set f (.ref cs[s]) = ((cs.set s cs[f]).set f cs[s]).map V.ref := by rw [List.map_set, List.map_set]
        rw [ev]
        have pr8 : Paired (fun a r => a ≠ L ∧ upd (upd H6 T0 (.tup [.ref cs[f], .ref cs[s]])) L (.lst (((cs.set s cs[f]).set f cs[s]).map V.ref)) a = some (.lst (r.map V.int))) ((cs.set s cs[f]).set f cs[s]) ((left.set s left[f]).set f left[s]) := paired_mono pr7 fun _ _ z => ⟨z.1, by rw [upd_ne z.1]; exact nT _ _ z.2⟩
        have hL8 : upd (upd H6 T0 (.tup [.ref cs[f], .ref cs[s]])) L (.lst (((cs.set s cs[f]).set f cs[s]).map V.ref)) L = _ := upd_same
        have s8 : Same H (upd (upd H6 T0 (.tup [.ref cs[f], .ref cs[s]])) L (.lst (((cs.set s cs[f]).set f cs[s]).map V.ref))) := AL.Same.updn (s6.trans nT) hL
        generalize upd (upd H6 T0 (.tup [.ref cs[f], .ref cs[s]])) L (.lst (((cs.set s cs[f]).set f cs[s]).map V.ref)) = H8 at pr8 hL8 s8 ⊢
        have lR8 : R'.length = rows.length := by rw [lR', lR]
        have ll8 := br'.ll
        have bd8 := fun {j : Nat} (h1 : s ≤ j) (h2 : j < R'.length) (c : Nat) => bar_bd br' hB h1 h2 c
        have d8 : ∀ r ∈ (left.set s left[f]).set f left[s], r.length = W := br'.lw
        generalize (left.set s left[f]).set f left[s] = left2 at *
        generalize (cs.set s cs[f]).set f cs[s] = cs2 at *
        clear pr7 pr6 hd6 hL6 s6 nT hT0 ev lead0 fz plf pls gf gs g0 DL hD
        have lcs2 := prd_len pr8
        obtain ⟨la, hla⟩ : ∃ la, cs2[s]? = some la := ⟨_, List.getElem?_eq_getElem (by omega)⟩
        obtain ⟨lead, hlead, plead⟩ := prd_get pr8 hla
        have elead : left2.getD s [] = lead := by rw [List.getD_eq_getElem?_getD, hlead]; rfl
        have llead : lead.length = W := d8 lead (List.mem_of_getElem? hlead)
        have gs : atI (cs2.map V.ref) ((s : Nat) : Int) = some (.ref la) := by rw [atI_of (by rw [List.length_map]; omega), List.getElem?_map, hla]; rfl
        have gl : atI (lead.map V.int) ((i : Nat) : Int) = some (.int (vl lead i)) := by rw [atI_of (by rw [List.length_map]; omega), List.getElem?_map, vl_at (by omega)]; rfl
        have fbs : facB B0 (s + 1) < 2 ^ 6000 := Nat.lt_of_le_of_lt (facB_mono B1 (by omega)) fb
        refine ⟨_, rfl, _, rfl, L, _, _, _, rfl, rfl, SqL.of hL8, gs, ?_⟩
        refine ⟨_, rfl, _, _, rfl, rfl, _, rfl, L, _, rfl, .inl (SqL.of hL8), _, _, rfl, ?_, ?_⟩
        · rw [List.length_map]; exact ⟨by omega, by omega, by omega, by omega⟩
        rw [List.length_map, lcs2]
        refine for_range (lo := (s : Int) + 1) (n := (((left2.length : Nat) : Int) - ((s : Int) + 1)).toNat) (fun t σ H' => ∃ (v7 v9 : Option V) (cs3 : List Addr) (left3 : List Rw), σ = [some (.ref w), some (.ref L), some (.int d), some (.int (s : Int)), none, some (.int (i : Int)), some (.ref D), v7, some (.ref la), v9, none, none] ∧ Same H H' ∧ H' L = some (.lst (cs3.map V.ref)) ∧ Paired (fun a r => a ≠ L ∧ H' a = some (.lst (r.map V.int))) cs3 left3 ∧ LI H' la lead ∧ left3.length = left2.length ∧ ∀ j, j < R'.length → left3.getD j [] = if s < j ∧ j < s + 1 + t then barR lead (left2.getD j []) i d else left2.getD j []) ⟨_, _, cs2, left2, rfl, s8, hL8, pr8, plead.2, rfl, fun j hj => by rw [if_neg (by omega)]⟩ ?_ ?_
        · rintro t σ H9 ht ⟨v7, v9, cs3, left3, rfl, s9, hL9, pr9, hl9, ll3, g3⟩
          have lcs3 := prd_len pr9
          have jl : s + 1 + t < left3.length := by omega
          have zt : (s : Int) + 1 + (t : Int) = ((s + 1 + t : Nat) : Int) := by omega
          rw [zt]
          generalize hj : s + 1 + t = j at *
          obtain ⟨ca, hca⟩ : ∃ ca, cs3[j]? = some ca := ⟨_, List.getElem?_eq_getElem (by omega)⟩
          obtain ⟨r, hr, hcr⟩ := prd_get pr9 hca
          have er : left2.getD j [] = r := by
            have := g3 j (by omega)
            rw [if_neg (by omega), List.getD_eq_getElem?_getD, hr] at this
            exact this.symm
          have lr : r.length = W := by
            rw [← er, List.getD_eq_getElem?_getD, List.getElem?_eq_getElem (by omega)]
            exact d8 _ (List.getElem_mem _)
          have gc : atI (cs3.map V.ref) ((j : Nat) : Int) = some (.ref ca) := by rw [atI_of (by rw [List.length_map]; omega), List.getElem?_map, hca]; rfl
          have gr : atI (r.map V.int) ((i : Nat) : Int) = some (.int (vl r i)) := by rw [atI_of (by rw [List.length_map]; omega), List.getElem?_map, vl_at (by omega)]; rfl
          have rb : ∀ c, (vl r c).natAbs < 2 ^ 6000 := fun c => Nat.lt_of_le_of_lt (by rw [← er]; exact bd8 (by omega) (by omega) c) fbs
          have lb : ∀ c, (vl lead c).natAbs < 2 ^ 6000 := fun c => Nat.lt_of_le_of_lt (by rw [← elead]; exact bd8 (Nat.le_refl s) (by omega) c) fbs
          refine ⟨_, rfl, _, rfl, L, _, _, _, rfl, rfl, SqL.of hL9, gc, _, rfl, ca, _, _, _, rfl, rfl, SqL.of hcr.2, gr, ?_⟩
          refine ⟨_, rfl, _, rfl, L, _, _, _, rfl, rfl, SqL.of hL9, gc, _, rfl, ca, la, _, _, rfl, SqL.of hcr.2, SqL.of hl9, fun D2 hD2 => ?_⟩
          refine lc_it (walk_zip (K := K) (a := ca) (b := la) (xs := r.map V.int) (ys := lead.map V.int) (n := W) (by rw [List.length_map, List.length_map, lr, llead, Nat.min_self])) (fun c H' => Same H9 H' ∧ H' D2 = some (.lst (((barR lead r i d).take c).map V.int))) ⟨AL.Same.new hD2, upd_same⟩ (fun i H' _ hh => ⟨SqL.of (hh.1 _ _ hcr.2), SqL.of (hh.1 _ _ hl9)⟩) ?_ ?_
          · rintro c x H10 H11 hc ⟨s10, hd10⟩ ⟨T1, u1, u2, rfl, hT1, rfl, e1, e2⟩
            obtain ⟨z1, c1, rfl⟩ := map_int e1
            obtain ⟨z2, c2, rfl⟩ := map_int e2
            have hDT : D2 ≠ T1 := fun z => by rw [z, hT1] at hd10; cases hd10
            have sT : Same H9 (upd H10 T1 (.tup [.int z1, .int z2])) := s10.trans (AL.Same.new hT1)
            have b1 : z1.natAbs < 2 ^ 6000 := by have := rb c; rwa [vl_get c1] at this
            have b2 : z2.natAbs < 2 ^ 6000 := by have := lb c; rwa [vl_get c2] at this
            refine ⟨T1, _, rfl, SqT.of upd_same, rfl, _, _, rfl, _, _, rfl, rfl, rfl, ?_⟩
            refine ⟨_, rfl, _, rfl, _, rfl, la, _, _, _, rfl, rfl, SqL.of (sT _ _ hl9), gl, _, _, rfl, rfl, wml b1 (lb i) (by decide) (by decide), _, rfl, _, rfl, _, _, rfl, rfl, wml b2 (rb i) (by decide) (by decide), _, _, rfl, rfl, _, rfl, _, _, rfl, rfl, ⟨br'.d0, ?_⟩, _, Eq.trans (upd_ne hDT) hd10, ?_, AL.Same.updn sT hD2, ?_⟩
            · have m1 : (z1 * vl lead i).natAbs < 2 ^ 6000 * 2 ^ 6000 := by
                rw [Int.natAbs_mul]; exact Nat.mul_lt_mul'' b1 (lb i)
              have m2 : (z2 * vl r i).natAbs < 2 ^ 6000 * 2 ^ 6000 := by
                rw [Int.natAbs_mul]; exact Nat.mul_lt_mul'' b2 (rb i)
              rw [← Nat.pow_add] at m1 m2
              have m3 : 2 ^ (6000 + 6000) + 2 ^ (6000 + 6000) = 2 ^ 12001 := by rw [Nat.pow_succ 2 12000, Nat.mul_two]
              have m4 : 2 ^ 12001 ≤ 2 ^ 13500 := Nat.pow_le_pow_right (by decide) (by decide)
              omega
            · rw [List.length_map, List.length_take]; exact Nat.lt_of_le_of_lt (by omega : _ ≤ 1000) (by decide)
            · have g : (barR lead r i d)[c]? = some ((z1 * vl lead i - z2 * vl r i).fdiv d) := by unfold barR; rw [List.getElem?_zipWith, c1, c2]
              rw [upd_same, List.take_add_one, g, List.map_append]; rfl
          rintro H10 ⟨s10, hd10⟩
          rw [List.take_of_length_le (by rw [barR_len (by omega), lr]; exact Nat.le_refl _)] at hd10
          have D2L : D2 ≠ L := fun z => by rw [z, hL9] at hD2; cases hD2
          have laL : la ≠ L := plead.1
          refine ⟨_, rfl, _, rfl, L, _, _, _, rfl, rfl, s10 _ _ hL9, ixN_of (by rw [List.length_map]; omega), ?_⟩
          have ev : (cs3.map V.ref).set j (.ref D2) = (cs3.set j D2).map V.ref := by rw [List.map_set]
          rw [ev]
          refine ⟨_, _, cs3.set j D2, left3.set j (barR lead r i d), rfl, AL.Same.updn (s9.trans s10) hL, upd_same, prd_set (paired_mono pr9 fun _ _ z => ⟨z.1, by rw [upd_ne z.1]; exact s10 _ _ z.2⟩) j ⟨D2L, by rw [upd_ne D2L]; exact hd10⟩, Eq.trans (upd_ne laL) (s10 _ _ hl9), by rw [List.length_set]; exact ll3, fun j' hj' => ?_⟩
          by_cases e : j' = j
          · subst e
            rw [List.getD_eq_getElem?_getD, List.getElem?_set_self jl, if_pos (by omega), er]; rfl
          · rw [List.getD_eq_getElem?_getD, List.getElem?_set_ne (fun z => e z.symm), ← List.getD_eq_getElem?_getD, g3 j' hj']
            by_cases c : s < j' ∧ j' < j
            · rw [if_pos c, if_pos (by omega)]
            · rw [if_neg c, if_neg (by omega)]
        · rintro σ H9 ⟨v7, v9, cs3, left3, rfl, s9, hL9, pr9, hl9, ll3, g3⟩
          have nb : Bar W (s + 1) (i + 1) rows left3 (vl lead i) R' (P ++ [i]) := by
            have w := bar_step br' (by omega) hk (left' := left3) (by omega) fun j hj => by
              rw [g3 j hj, elead]
              by_cases c : s < j
              · rw [if_pos (by omega), if_pos c]
              · rw [if_neg (by omega), if_neg c]
            rw [elead] at w
            exact w
          have lcs3 := prd_len pr9
          refine ⟨_, rfl, _, rfl, la, _, _, _, rfl, rfl, SqL.of hl9, gl, _, rfl, _, _, rfl, rfl, (by show 2 ≤ sizeLine; decide), fun T2 hT2 => ?_⟩
          have zs : (s : Int) + 1 = ((s + 1 : Nat) : Int) := by omega
          have nT := AL.Same.new (o := .tup [.int (vl lead i), .int ((s : Int) + 1)]) hT2
          have hL10 := nT _ _ hL9
          have pr10 := paired_mono pr9 fun _ _ z => (⟨z.1, nT _ _ z.2⟩ : _ ≠ L ∧ upd H9 T2 (.tup [.int (vl lead i), .int ((s : Int) + 1)]) _ = _)
          have s10 := s9.trans nT
          refine ⟨T2, _, rfl, SqT.of upd_same, rfl, _, _, rfl, _, _, rfl, rfl, ?_⟩
          refine ⟨_, rfl, _, rfl, L, _, rfl, .inl (SqL.of hL10), rfl, _, rfl, ?_⟩
          rw [List.length_map]
          dsimp only
          by_cases c : s + 1 = cs3.length
          · rw [show decide (V.int ((s : Int) + 1) = V.int (cs3.length : Int)) = true from decide_eq_true (by rw [zs, c])]
            refine iteT ?_
            exact ⟨_, rfl, q _ (s + 1) s10 (bar_end nb (.inr (by omega)))⟩
          · rw [show decide (V.int ((s : Int) + 1) = V.int (cs3.length : Int)) = false from decide_eq_false (fun z => c (by injection z with z; omega))]
            refine iteF ?_
            exact ⟨vl lead i, s + 1, _, _, _, _, _, cs3, left3, R', _, rfl, s10, hL10, pr10, nb, by omega⟩
    · rintro σ H4 ⟨d, s, v5, v6, v7, v8, v9, cs, left, R, P, rfl, s4, hL4, pr4, br, sR⟩
      rw [Int.toNat_natCast] at br
      exact ⟨_, rfl, q _ s s4 (bar_end br (.inl (Nat.le_refl _)))⟩
end
end AL
set_option Elab.async false
set_option maxRecDepth 100000
set_option exponentiation.threshold 70000
set_option maxHeartbeats 1000000
namespace AL
open PySem PySem.Spec PyProof.Rows L2 RZ
section
variable {P : Program} {w : World} {K : PySem.W.Frag} {mg : Str → Option Value} {base : Heap}
/-- a sum over the first n -/
def sm : Nat → (Nat → Int) → Int
  | 0, _ => 0
  | n + 1, f => sm n f + f n
theorem sm_congr {f g : Nat → Int} : ∀ {n : Nat}, (∀ t, t < n → f t = g t) → sm n f = sm n g
  | 0, _ => rfl
  | n + 1, h => by unfold sm; rw [sm_congr fun t ht => h t (by omega), h n (by omega)]
theorem sm_zero : ∀ n : Nat, sm n (fun _ => 0) = 0
  | 0 => rfl
  | n + 1 => by unfold sm; rw [sm_zero n]; rfl
theorem sm_lin (a b : Int) (f g : Nat → Int) : ∀ n : Nat, sm n (fun t => a * f t + b * g t) = a * sm n f + b * sm n g
  | 0 => by unfold sm; grind
  | n + 1 => by unfold sm; rw [sm_lin a b f g n]; grind
theorem sm_one {f : Nat → Int} {k : Nat} : ∀ {n : Nat}, k < n → (∀ t, t < n → t ≠ k → f t = 0) → sm n f = f k
  | 0, h, _ => by omega
  | n + 1, h, z => by
    unfold sm
    by_cases e : k = n
    · rw [sm_congr (g := fun _ => 0) fun t ht => z t (by omega) (by omega), sm_zero, e]; grind
    · rw [sm_one (n := n) (by omega) fun t ht => z t (by omega), z n (by omega) (by omega)]; grind
theorem unitR_vl {n j t : Nat} (ht : t < n) : vl (unitR n j) t = if t = j then 1 else 0 := by
  unfold vl unitR
  rw [List.getD_eq_getElem?_getD, List.getElem?_map, List.getElem?_range ht]; rfl

theorem app_vl {a b : Rw} (c : Nat) : vl (a ++ b) c = if c < a.length then vl a c else vl b (c - a.length) := by
  unfold vl
  rw [List.getD_eq_getElem?_getD]
  split
  · rename_i h; rw [List.getElem?_append_left h, ← List.getD_eq_getElem?_getD]
  · rename_i h; rw [List.getElem?_append_right (by omega), ← List.getD_eq_getElem?_getD]
theorem take_vl {f : Rw} {u c : Nat} : vl (f.take u) c = if c < u then vl f c else 0 := by
  by_cases h : c < u
  · rw [if_pos h]; unfold vl
    rw [List.getD_eq_getElem?_getD, List.getElem?_take, if_pos h, ← List.getD_eq_getElem?_getD]
  · rw [if_neg h]; exact vl_out (by rw [List.length_take]; omega)
theorem drop_vl {f : Rw} {u c : Nat} : vl (f.drop u) c = vl f (u + c) := by
  unfold vl
  rw [List.getD_eq_getElem?_getD, List.getElem?_drop, ← List.getD_eq_getElem?_getD]
/-- what stands ahead is the sum of the rows by what stands behind -/
def LinW (U N : Nat) (A : List Rw) (x : Fn) : Prop := ∀ c, c < U → x c = sm N fun i => x (U + i) * vl (A.getD i []) c
theorem linW_cls (U N : Nat) (A : List Rw) : Cls0 (LinW U N A) := by
  refine ⟨fun c _ => ?_, fun {x y} m t hx hy c hc => ?_, fun {x s} s0 h c hc => ?_⟩
  · rw [sm_congr (g := fun _ => 0) fun i _ => Int.zero_mul _, sm_zero]
  · dsimp only
    rw [hx c hc, hy c hc, ← sm_lin]
    exact sm_congr fun i _ => by grind
  · have w := h c hc
    dsimp only at w
    rw [sm_congr (g := fun i => s * (x (U + i) * vl (A.getD i []) c) + 0 * 0) fun i _ => by grind, sm_lin s 0 (fun i => x (U + i) * vl (A.getD i []) c) (fun _ => 0) N] at w
    exact Int.eq_of_mul_eq_mul_left s0 (by omega)
theorem wide_lin {U N : Nat} {A : List Rw} (hA : ∀ r ∈ A, r.length = U) (lA : A.length = N) : ∀ w ∈ wideR A, LinW U N A (vl w) := fun w hw c hc => by
  obtain ⟨i, hi⟩ := List.mem_iff_getElem?.mp hw
  have il := (List.getElem?_eq_some_iff.mp hi).1
  rw [wideR_len] at il
  rw [wideR_at (List.getElem?_eq_getElem il)] at hi
  obtain rfl := Option.some.inj hi
  have lr := hA _ (List.getElem_mem il)
  have e : ∀ k, k < N → vl (A[i] ++ unitR A.length i) (U + k) = if k = i then 1 else 0 := fun k hk => by
    rw [app_vl, if_neg (by omega), lr, show U + k - U = k by omega]
    exact unitR_vl (by omega)
  rw [app_vl, if_pos (by omega), sm_one (k := i) (by omega) fun t ht ne => by rw [e t ht, if_neg ne, Int.zero_mul], e i (by omega), if_pos rfl, Int.one_mul, List.getD_eq_getElem?_getD, List.getElem?_eq_getElem il]; rfl
theorem spn_lin {U N : Nat} {A : List Rw} (hA : ∀ r ∈ A, r.length = U) (lA : A.length = N) {x : Fn} (h : Spn (inR (wideR A)) x) : LinW U N A x :=
  h.clo (linW_cls U N A) fun y ⟨w, hw, e⟩ => by rw [e]; exact wide_lin hA lA w hw
theorem sm_spn {S : Fn → Prop} {A : List Rw} {a : Nat → Int} : ∀ {n : Nat}, (∀ i, i < n → a i = 0 ∨ Spn S (vl (A.getD i []))) → Spn S fun c => sm n fun i => a i * vl (A.getD i []) c
  | 0, _ => Spn.zero
  | n + 1, h => by
    have ih := sm_spn (n := n) fun i hi => h i (by omega)
    rcases h n (by omega) with z | z
    · exact ih.of fun c => by show sm n _ + a n * _ = _; rw [z]; omega
    · exact (Spn.lin 1 (a n) ih z).of fun c => by show sm n _ + a n * _ = _; omega
theorem exq_pzero {r : Fn} : ∀ {P : List Nat} {F : List Nat → Int}, (∀ p ∈ P, r p = 0) → exq r F P = 0
  | [], _, _ => rfl
  | p :: P, F, h => by
    show r p * F P - exq r _ P = 0
    rw [h p (List.mem_cons_self ..), exq_pzero fun q hq => h q (List.mem_cons_of_mem _ hq)]; omega
theorem det_diag : ∀ {R : List Fn} {P : List Nat}, R.length = P.length → (∀ (i j : Nat) (r : Fn) (p : Nat), R[i]? = some r → P[j]? = some p → r p = if i = j then 1 else 0) → det R P = 1
  | [], [], _, _ => rfl
  | [], _ :: _, l, _ => by simp at l
  | _ :: _, [], l, _ => by simp at l
  | r :: R, p :: P, l, h => by
    have ih := det_diag (R := R) (P := P) (by simpa using l) fun i j q k hq hk => by
      have := h (i + 1) (j + 1) q k (by simpa using hq) (by simpa using hk)
      rw [this]
      by_cases e : i = j
      · rw [if_pos e, if_pos (by omega)]
      · rw [if_neg e, if_neg (by omega)]
    have h0 := h 0 0 r p rfl rfl
    rw [if_pos rfl] at h0
    show r p * det R P - exq r (fun Q => det R (p :: Q)) P = 1
    rw [ih, h0, exq_pzero fun q hq => by
      obtain ⟨j, hj⟩ := List.mem_iff_getElem?.mp hq
      have := h 0 (j + 1) r q rfl (by simpa using hj)
      rw [this, if_neg (by omega)]]
    rfl
theorem wide_full {U N W : Nat} {A F : List Rw} (hA : ∀ r ∈ A, r.length = U) (lA : A.length = N) (g : ∀ w ∈ wideR A, Spn (inR F) (vl w)) : N ≤ F.length := by
  have d : det (vR (wideR A)) ((List.range N).map (U + ·)) = 1 := by
    refine det_diag (by rw [List.length_map, wideR_len, List.length_map, List.length_range, lA]) fun i j r p hr hp => ?_
    rw [List.getElem?_map] at hr hp
    cases e : (wideR A)[i]? with
    | none => rw [e] at hr; cases hr
    | some w =>
      rw [e] at hr
      obtain rfl := Option.some.inj hr
      have il := (List.getElem?_eq_some_iff.mp e).1
      rw [wideR_len] at il
      rw [wideR_at (List.getElem?_eq_getElem il)] at e
      obtain rfl := Option.some.inj e
      by_cases hj : j < N
      · rw [List.getElem?_range hj] at hp
        obtain rfl := Option.some.inj hp
        have lr := hA _ (List.getElem_mem il)
        show vl (A[i] ++ unitR A.length i) (U + j) = _
        rw [app_vl, if_neg (by omega), lr, show U + j - U = j by omega, unitR_vl (by omega)]
        by_cases e : i = j
        · rw [if_pos e, if_pos e.symm]
        · rw [if_neg e, if_neg (fun z => e z.symm)]
      · rw [List.getElem?_eq_none (by rw [List.length_range]; omega)] at hp; cases hp
  have := minor_le (F := F) (B := wideR A) (P := (List.range N).map (U + ·)) g (by rw [d]; decide)
  rwa [wideR_len, lA] at this
theorem kz_iff {U : Nat} {f : Rw} (lf : U ≤ f.length) : kzB U f = true ↔ ∀ c, c < U → vl f c = 0 := by
  unfold kzB
  rw [Bool.not_eq_true', List.any_eq_false]
  constructor
  · intro h c hc
    have m : vl (f.take U) c ∈ f.take U := vl_mem (by rw [List.length_take]; omega)
    have := h _ m
    rw [take_vl, if_pos hc] at this
    exact Classical.byContradiction fun z => this (decide_eq_true z)
  · intro h k hk
    obtain ⟨c, hc⟩ := List.mem_iff_getElem?.mp hk
    have cl := (List.getElem?_eq_some_iff.mp hc).1
    rw [List.length_take] at cl
    have e := vl_get hc
    rw [take_vl, if_pos (by omega), h c (by omega)] at e
    rw [← e]; decide
section
variable {U N s : Nat} {A F : List Rw}
/-- a row of the kernel -/
theorem ker_item (hF : Hnf (U + N) F) (g : Gen F (wideR A)) (hA : ∀ r ∈ A, r.length = U) (lA : A.length = N) {u : Rw} (hu : u ∈ kerF U F) : u.length = N ∧ (∃ i, i < N ∧ vl u i ≠ 0) ∧ ∀ c, c < U → (sm N fun i => vl u i * vl (A.getD i []) c) = 0 := by
  unfold kerF at hu
  obtain ⟨f, hf, rfl⟩ := List.mem_map.mp hu
  obtain ⟨mf, kz⟩ := List.mem_filter.mp hf
  have lf := hF.len f mf
  have z := (kz_iff (by omega)).mp kz
  refine ⟨by rw [List.length_drop, lf]; omega, ?_, fun c hc => ?_⟩
  · have p := hF.pos f mf
    have pl := piv_lt_len (by omega : vl f (piv f) ≠ 0)
    have pu : U ≤ piv f := Classical.byContradiction fun c => by have := z (piv f) (by omega); omega
    refine ⟨piv f - U, by omega, ?_⟩
    rw [drop_vl, show U + (piv f - U) = piv f by omega]; omega
  · have w := spn_lin hA lA (g.1 f mf).spn c hc
    rw [z c hc] at w
    rw [sm_congr (g := fun i => vl f (U + i) * vl (A.getD i []) c) fun i _ => by rw [drop_vl]]
    exact w.symm
theorem rel_lt (lA : A.length = N) (rk : RankIs A s) {u : Nat → Int} {k : Nat} (hk : k < N) (uk : u k ≠ 0) (h : ∀ c, (sm N fun i => u i * vl (A.getD i []) c) = 0) : s < N := by
  have lk : k < A.length := by omega
  have le := rk.le (F := A.eraseIdx k) fun r hr => by
    obtain ⟨i, hi⟩ := List.mem_iff_getElem?.mp hr
    have il := (List.getElem?_eq_some_iff.mp hi).1
    have oth : ∀ i, i < A.length → i ≠ k → Spn (inR (A.eraseIdx k)) (vl (A.getD i [])) := fun i hi ne => by
      refine .mem ⟨_, List.mem_eraseIdx_iff_getElem.mpr ⟨i, hi, ne, ?_⟩, rfl⟩
      rw [List.getD_eq_getElem?_getD, List.getElem?_eq_getElem hi]; rfl
    by_cases e : i = k
    · subst e
      have gi : A.getD i [] = r := by rw [List.getD_eq_getElem?_getD, hi]; rfl
      refine Spn.div (s := u i) uk ((Spn.lin (-1) 0 (sm_spn (A := A) (a := fun t => if t = i then 0 else u t) (n := N) fun t ht => ?_) Spn.zero).of fun c => ?_)
      · by_cases e : t = i
        · exact .inl (if_pos e)
        · exact .inr (oth t (by omega) e)
      · have w := h c
        have e1 : (sm N fun t => u t * vl (A.getD t []) c) = 1 * (sm N fun t => (if t = i then 0 else u t) * vl (A.getD t []) c) + 1 * (sm N fun t => if t = i then u i * vl r c else 0) := by
          rw [← sm_lin]
          refine sm_congr fun t _ => ?_
          by_cases e : t = i
          · rw [if_pos e, if_pos e, e, gi]; omega
          · rw [if_neg e, if_neg e]; omega
        have e2 : (sm N fun t => if t = i then u i * vl r c else 0) = u i * vl r c := by
          rw [sm_one (k := i) hk fun t _ ne => if_neg ne, if_pos rfl]
        rw [e1, e2] at w
        omega
    · have := oth i il e
      rwa [List.getD_eq_getElem?_getD, hi] at this
  rw [List.length_eraseIdx, if_pos lk] at le
  omega
/-- the kernel is empty just where all rows are independent -/
theorem ker_rank (hF : Hnf (U + N) F) (g : Gen F (wideR A)) (hA : ∀ r ∈ A, r.length = U) (lA : A.length = N) (rk : RankIs A s) : kerF U F = [] ↔ s = N := by
  have sN : s ≤ N := by
    rw [← lA]
    exact rk.le fun r hr => .mem ⟨r, hr, rfl⟩
  constructor
  · intro h
    have fl : N ≤ F.length := wide_full (W := 0) hA lA fun w hw => (g.2 w hw).spn
    have low : ∀ f ∈ F, piv f < U := fun f hf => Classical.byContradiction fun c => by
      have lf := hF.len f hf
      have kz : kzB U f = true := (kz_iff (by omega)).mpr fun c hc => ahead_zero (hF.ech.nz f hf) c (by omega)
      have : f.drop U ∈ kerF U F := List.mem_map.mpr ⟨f, List.mem_filter.mpr ⟨hf, kz⟩, rfl⟩
      rw [h] at this
      exact nomatch this
    have pv : ∀ f ∈ F, piv (f.take U) = piv f := fun f hf => piv_is (by rw [take_vl, if_pos (low f hf)]; exact hF.ech.nz f hf) fun j hj => by
      rw [take_vl]
      split
      · exact ahead_zero (hF.ech.nz f hf) j hj
      · rfl
    have E : Ech U (F.map (List.take U)) := by
      refine ⟨fun m hm => ?_, fun m hm => ?_, ?_⟩
      · obtain ⟨f, hf, rfl⟩ := List.mem_map.mp hm
        rw [List.length_take, hF.len f hf]; omega
      · obtain ⟨f, hf, rfl⟩ := List.mem_map.mp hm
        rw [pv f hf, take_vl, if_pos (low f hf)]; exact hF.ech.nz f hf
      · rw [List.pairwise_map]
        refine List.Pairwise.imp_of_mem (fun {a b} ha hb o => ?_) hF.asc
        rw [pv a ha, pv b hb]; exact o
    obtain ⟨B, P, lB, _, _, _, hB⟩ := rk.ex
    have le := minor_le (F := B) (B := F.map (List.take U)) (fun m hm => ?_) (ech_det E)
    · rw [List.length_map] at le
      omega
    · obtain ⟨f, hf, rfl⟩ := List.mem_map.mp hm
      have w := spn_lin hA lA (g.1 f hf).spn
      refine (sm_spn (S := inR B) (A := A) (a := fun i => vl f (U + i)) (n := N) fun i hi => .inr ?_).of fun c => ?_
      · rw [List.getD_eq_getElem?_getD, List.getElem?_eq_getElem (by omega)]
        exact hB _ (List.getElem_mem _)
      · rw [take_vl]
        split
        · rename_i hc; exact w c hc
        · rename_i hc
          rw [sm_congr (g := fun _ => 0) fun i hi => by
            rw [vl_out (x := A.getD i []) (by
              rw [List.getD_eq_getElem?_getD, List.getElem?_eq_getElem (by omega)]
              show (A[i]).length ≤ c
              rw [hA _ (List.getElem_mem _)]; omega), Int.mul_zero], sm_zero]
  · intro h
    refine List.eq_nil_iff_forall_not_mem.mpr fun u hu => ?_
    obtain ⟨_, ⟨i, hi, ui⟩, z⟩ := ker_item hF g hA lA hu
    have := rel_lt lA rk (u := vl u) hi ui fun c => by
      by_cases hc : c < U
      · exact z c hc
      · rw [sm_congr (g := fun _ => 0) fun i hi => by
          rw [vl_out (x := A.getD i []) (by
            rw [List.getD_eq_getElem?_getD, List.getElem?_eq_getElem (by omega)]
            show (A[i]).length ≤ c
            rw [hA _ (List.getElem_mem _)]; omega), Int.mul_zero], sm_zero]
    omega
end

end
end AL
set_option Elab.async false
set_option maxRecDepth 100000
set_option exponentiation.threshold 70000
set_option maxHeartbeats 1000000
namespace AL
open PySem PySem.Spec PyProof.Rows L2 RZ
section
variable {P : Program} {w : World} {K : PySem.W.Frag} {mg : Str → Option Value} {base : Heap}

theorem sqB_same7 {K : PySem.W.Frag} {H H' : Hp} {a : Addr} {xs : List V} {k : Bool} (h : SqB K H a xs k) (s : Same H H') : SqB K H' a xs k := by
  cases k with
  | true => exact Same.seq s h
  | false => exact same_seqT s h
/-- what is no list: none, an int, a text -/
inductive Atom : V → Prop
  | non : Atom .non
  | int (i : Int) : Atom (.int i)
  | str (s : Str) : Atom (.str s)
def spIsLv (K : PySem.W.Frag) : Sp := fun vs H Q _ => ∃ v : V, vs = [v] ∧ ((∃ (a : Addr) (xs : List V), v = .ref a ∧ (H a = some (.lst xs) ∨ H a = some (.tup xs)) ∧ ∀ H', Same H H' → Q (.bl true) H') ∨ (Atom v ∧ ∀ H', Same H H' → Q (.bl false) H'))
def spWhI : Sp := fun vs H Q _ => ∃ (i : Int), vs = [.int i] ∧ Q (.bl true) H
/-- are_integers(items), ints in a list or a tuple -/
def spAreL : Sp := fun vs H Q _ => ∃ (a : Addr) (xs : List Int), vs = [.ref a] ∧ LT H a xs ∧ xs.length ≤ 200 ∧ ∀ H', Same H H' → Q (.bl true) H'
/-- is_matrix(rows) -/
def spMat : Sp := fun vs H Q _ => ∃ (w : Addr) (n : Nat) (rows : List Rw), vs = [.ref w] ∧ RowsT H w rows ∧ rows ≠ [] ∧ (∀ r ∈ rows, r.length = n) ∧ 0 < n ∧ n ≤ 100 ∧ rows.length ≤ 100 ∧ ∀ H', Same H H' → Q (.bl true) H'
/-- check_matrix(rows, what) -/
def spChM : Sp := fun vs H Q _ => ∃ (w : Addr) (n : Nat) (rows : List Rw) (v : V), vs = [.ref w, v] ∧ RowsT H w rows ∧ rows ≠ [] ∧ (∀ r ∈ rows, r.length = n) ∧ 0 < n ∧ n ≤ 100 ∧ rows.length ≤ 100 ∧ ∀ H', Same H H' → Q .non H'
/-- check_exponents(exponents, result) -/
def spChE : Sp := fun vs H Q _ => ∃ (w r : Addr) (n : Nat) (rows : List Rw) (rs : Rw), vs = [.ref w, .ref r] ∧ RowsT H w rows ∧ rows ≠ [] ∧ (∀ r ∈ rows, r.length = n) ∧ 0 < n ∧ n ≤ 100 ∧ rows.length ≤ 100 ∧ LI H r rs ∧ rs.length = n ∧ ∀ H', Same H H' → Q .non H'
theorem all_rep (n : Nat) : (List.replicate n true).all id = true := by rw [List.all_eq_true]; intro x hx; rw [List.eq_of_mem_replicate hx]; rfl
theorem bl_snoc (n : Nat) : (List.replicate n true).map V.bl ++ [.bl true] = (List.replicate (n + 1) true).map V.bl := by rw [List.replicate_succ', List.map_append]; rfl

abbrev stis_list : Stmt := top 17
theorem scis_list : FnScope ["value"] ["value"] (defScope stis_list) := ⟨rfl, rfl, rfl, by decide +kernel, rfl, by decide +kernel, by decide +kernel⟩
theorem okis_list (B : Blt mg)  {fis_list : Addr} {fdis_list : FuncData} (Dis_list : DefAt K mg "is_list" stis_list ["value"] fis_list fdis_list) : FnOk P w K mg base CX0 1 fis_list fdis_list ["value"] (spIsLv K) := by
  refine Dis_list.F.ok scis_list (fun vs H Q E h => ?_) (fun cdv A outer s H vs Q E hr h => ?_)
  · obtain ⟨v, rfl, _⟩ := h; rfl
  · have hu := hu_of hr
    refine ⟨_, (pss_one (ps_ret (pe_callB call_isiT (by rfl) B.isinstance_ (by decide +kernel) (pa_cons (pv 0) (pa_cons (pe_tup (pa_cons (pe_bltn (v := .ty "list") (by rfl) B.list_ PyProof.Rows.Boot.«list» rfl) (pa_cons (pe_bltn (v := .ty "tuple") (by rfl) B.tuple_ PyProof.Rows.Boot.«tuple» rfl) pa_nil))) pa_nil))))), ?_⟩
    obtain ⟨v, rfl, h⟩ := h
    rcases h with ⟨a, xs, rfl, ha, q⟩ | ⟨at_, q⟩
    · refine ⟨_, rfl, (by show 2 ≤ sizeLine; decide), fun T hT => ?_⟩
      have n1 := AL.Same.new (o := .tup [.ty "list", .ty "tuple"]) hT
      rcases ha with ha | ha
      · exact ⟨_, T, _, _, _, true, rfl, upd_same, .cons (ClsV.ty _) (.cons (ClsV.ty _) .nil), TyX.base (.lst (n1 _ _ ha)), rfl, q _ n1⟩
      · exact ⟨_, T, _, _, _, true, rfl, upd_same, .cons (ClsV.ty _) (.cons (ClsV.ty _) .nil), TyX.base (.tup (n1 _ _ ha)), rfl, q _ n1⟩
    · refine ⟨_, rfl, (by show 2 ≤ sizeLine; decide), fun T hT => ?_⟩
      have n1 := AL.Same.new (o := .tup [.ty "list", .ty "tuple"]) hT
      cases at_ with
      | non => exact ⟨_, T, _, _, _, false, rfl, upd_same, .cons (ClsV.ty _) (.cons (ClsV.ty _) .nil), TyX.base .non, rfl, q _ n1⟩
      | int i => exact ⟨_, T, _, _, _, false, rfl, upd_same, .cons (ClsV.ty _) (.cons (ClsV.ty _) .nil), TyX.base (.int _), rfl, q _ n1⟩
      | str s => exact ⟨_, T, _, _, _, false, rfl, upd_same, .cons (ClsV.ty _) (.cons (ClsV.ty _) .nil), TyX.base (.str _), rfl, q _ n1⟩
abbrev stis_whole : Stmt := top 16
theorem scis_whole : FnScope ["value"] ["value"] (defScope stis_whole) := ⟨rfl, rfl, rfl, by decide +kernel, rfl, by decide +kernel, by decide +kernel⟩
theorem okis_whole (B : Blt mg)  {fis_whole : Addr} {fdis_whole : FuncData} (Dis_whole : DefAt K mg "is_whole" stis_whole ["value"] fis_whole fdis_whole) : FnOk P w K mg base CX0 1 fis_whole fdis_whole ["value"] spWhI := by
  refine Dis_whole.F.ok scis_whole (fun vs H Q E h => ?_) (fun cdv A outer s H vs Q E hr h => ?_)
  · obtain ⟨i, rfl, _⟩ := h; rfl
  · have hu := hu_of hr
    refine ⟨_, (pss_one (ps_ret (pe_and (pe_callB call_isi (by rfl) B.isinstance_ (by decide +kernel) (pa_cons (pv 0) (pa_cons (pe_bltn (v := .ty "int") (by rfl) B.int_ PyProof.Rows.Boot.«int» rfl) pa_nil))) (pe_one (pe_not (pe_callB call_isi (by rfl) B.isinstance_ (by decide +kernel) (pa_cons (pv 0) (pa_cons (pe_bltn (v := .ty "bool") (by rfl) B.bool_ PyProof.Rows.Boot.«bool» rfl) pa_nil)))))))), ?_⟩
    obtain ⟨i, rfl, q⟩ := h
    refine ⟨_, rfl, _, _, _, _, _, rfl, ClsV.ty _, TyX.base (.int _), rfl, true, rfl, ?_⟩
    refine iteT ?_
    refine ⟨_, rfl, _, _, _, _, _, rfl, ClsV.ty _, TyX.base (.int _), rfl, _, rfl, ?_⟩
    exact q
abbrev stare_integers : Stmt := top 18
theorem scare_integers : FnScope ["items", "item"] ["items"] (defScope stare_integers) := ⟨rfl, rfl, rfl, by decide +kernel, rfl, by decide +kernel, by decide +kernel⟩
theorem okare_integers (B : Blt mg)  {fis_whole : Addr} {fdis_whole : FuncData} (Dis_whole : DefAt K mg "is_whole" stis_whole ["value"] fis_whole fdis_whole) {fare_integers : Addr} {fdare_integers : FuncData} (Dare_integers : DefAt K mg "are_integers" stare_integers ["items"] fare_integers fdare_integers) : FnOk P w K mg base CX0 2 fare_integers fdare_integers ["items"] spAreL := by
  have OKis_whole : FnOk P w K mg base CX0 1 fis_whole fdis_whole ["value"] spWhI := okis_whole B  Dis_whole
  refine Dare_integers.F.ok scare_integers (fun vs H Q E h => ?_) (fun cdv A outer s H vs Q E hr h => ?_)
  · obtain ⟨a, xs, rfl, _⟩ := h; rfl
  · have hu := hu_of hr
    refine ⟨_, (pss_one (ps_ret (pe_callB (cr_all rfl) (by rfl) B.all_ (by decide +kernel) (pa_cons (pe_lc (own := [("item", 1)]) (g := gName 1) (tt := tYes) rfl scare_integers.nd (pi_seq (pv 0)) (blkOk_by (own := [("item", 1)]) (N := ["items", "item"]) (sc := defScope stare_integers) (by decide +kernel)) (fun _ _ _ _ _ => pg_name (i := 1) scare_integers.nd rfl (Or.inl rfl)) (fun _ _ _ _ _ => pts_nil) (fun _ _ _ _ _ => (pe_call OKis_whole (hr.mono (by decide)) rfl Dis_whole.m Dis_whole.F.kp Dis_whole.b .nil pass0 (pa_cons (pv 1) pa_nil)))) pa_nil)))), ?_⟩
    obtain ⟨a, xs, rfl, ha, l2, q⟩ := h
    obtain ⟨kb, hb⟩ := ha.sqb (K := K)
    refine ⟨_, rfl, a, kb, rfl, ⟨_, hb⟩, fun D hD => ?_⟩
    refine lc_seq (K := K) (a := a) (k := kb) (xs := xs.map V.int) (fun i H' => Same H H' ∧ H' D = some (.lst ((List.replicate i true).map V.bl))) ⟨AL.Same.new hD, upd_same⟩ (fun i H' _ hh => sqB_same7 hb hh.1) ?_ ?_
    · rintro i x H1 hx ⟨s1, hd⟩
      obtain ⟨z, hz, rfl⟩ := map_int hx
      have il := (List.getElem?_eq_some_iff.mp hz).1
      refine ⟨rfl, ?_⟩
      refine ⟨_, rfl, z, rfl, _, hd, ?_, AL.Same.updn s1 hD, by rw [upd_same, bl_snoc]⟩
      rw [List.length_map, List.length_replicate]; exact Nat.lt_of_le_of_lt (by omega : _ ≤ 1000) (by decide)
    rintro H1 ⟨s1, hd⟩
    refine ⟨D, _, rfl, SqL.of hd, ?_⟩
    rw [all_rep]
    exact q H1 s1
end
end AL
set_option Elab.async false
set_option maxRecDepth 100000
set_option exponentiation.threshold 70000
set_option maxHeartbeats 1000000
namespace AL
open PySem PySem.Spec PyProof.Rows L2 RZ
section
variable {P : Program} {w : World} {K : PySem.W.Frag} {mg : Str → Option Value} {base : Heap}

abbrev TC := V ⊕ List V
/-- a value without a list, or a list or a tuple of such -/
def R1 (H : Hp) (v : V) : TC → Prop
  | .inl u => v = u ∧ Atom u
  | .inr xs => ∃ a, v = .ref a ∧ (H a = some (.lst xs) ∨ H a = some (.tup xs)) ∧ xs.length ≤ 100 ∧ ∀ x ∈ xs, Atom x
def Res1 (H : Hp) (y : V) : TC → Prop
  | .inl u => y = u
  | .inr xs => ∃ t, y = .ref t ∧ H t = some (.tup xs)
theorem R1.same {H H' : Hp} {v : V} {c : TC} (h : R1 H v c) (s : Same H H') : R1 H' v c := by
  cases c with
  | inl u => exact h
  | inr xs => obtain ⟨a, h1, h2, h3⟩ := h; exact ⟨a, h1, h2.imp (s _ _) (s _ _), h3⟩
theorem Res1.same {H H' : Hp} {v : V} {c : TC} (h : Res1 H v c) (s : Same H H') : Res1 H' v c := by
  cases c with
  | inl u => exact h
  | inr xs => obtain ⟨a, h1, h2⟩ := h; exact ⟨a, h1, s _ _ h2⟩
def spAs0 : Sp := fun vs H Q _ => ∃ v : V, vs = [v] ∧ Atom v ∧ ∀ H', Same H H' → Q v H'
def spAs1 : Sp := fun vs H Q _ => ∃ (v : V) (c : TC), vs = [v] ∧ R1 H v c ∧ ∀ H' y, Same H H' → Res1 H' y c → Q y H'
/-- as_tuples(value), a list or a tuple -/
def spAs2 : Sp := fun vs H Q _ => ∃ (a : Addr) (us : List V) (cs : List TC), vs = [.ref a] ∧ (H a = some (.lst us) ∨ H a = some (.tup us)) ∧ Paired (R1 H) us cs ∧ us.length ≤ 100 ∧ ∀ t H' ys, Same H H' → H' t = some (.tup ys) → Paired (Res1 H') ys cs → Q (.ref t) H'
theorem res_atoms {H : Hp} : ∀ {ys xs : List V}, Paired (Res1 H) ys (xs.map .inl) → ys = xs
  | [], [], _ => rfl
  | _ :: _, _ :: _, .cons h t => by rw [show _ = _ from h, res_atoms t]
theorem sq_of {K : PySem.W.Frag} {H : Hp} {a : Addr} {us : List V} (h : H a = some (.lst us) ∨ H a = some (.tup us)) : ∃ k, ∀ H', Same H H' → SqB K H' a us k := by
  rcases h with z | z
  · exact ⟨true, fun H' s => SqL.of (s _ _ z)⟩
  · exact ⟨false, fun H' s => SqT.of (s _ _ z)⟩

abbrev stas_tuples0 : Stmt := top 19
theorem scas_tuples0 : FnScope ["value", "item"] ["value"] (defScope stas_tuples0) := ⟨rfl, rfl, rfl, by decide +kernel, rfl, by decide +kernel, by decide +kernel⟩
theorem okas_tuples0 (B : Blt mg)  {fis_list : Addr} {fdis_list : FuncData} (Dis_list : DefAt K mg "is_list" stis_list ["value"] fis_list fdis_list) {fas_tuples0 : Addr} {fdas_tuples0 : FuncData} (Das_tuples0 : DefAt K mg "as_tuples" stas_tuples0 ["value"] fas_tuples0 fdas_tuples0) : FnOk P w K mg base CX0 2 fas_tuples0 fdas_tuples0 ["value"] spAs0 := by
  have OKFF : FnOk P w K mg base CX0 1 fas_tuples0 fdas_tuples0 ["value"] (fun _ _ _ _ => False) := Das_tuples0.F.ok scas_tuples0 (fun vs H Q E h => h.elim) (fun cdv A outer s H vs Q E hr h => h.elim)
  have OKis_list : FnOk P w K mg base CX0 1 fis_list fdis_list ["value"] (spIsLv K) := okis_list B  Dis_list
  refine Das_tuples0.F.ok scas_tuples0 (fun vs H Q E h => ?_) (fun cdv A outer s H vs Q E hr h => ?_)
  · obtain ⟨v, rfl, _⟩ := h; rfl
  · have hu := hu_of hr
    refine ⟨_, (pss_cons (ps_if (pt_val (pe_call OKis_list (hr.mono (by decide)) rfl Dis_list.m Dis_list.F.kp Dis_list.b .nil pass0 (pa_cons (pv 0) pa_nil))) (pss_one (ps_ret (pe_callTy (call_tupK : CallR _ _ (rTup K)) (by rfl) B.tuple_ (by decide +kernel) (pa_cons (pe_lc (own := [("item", 1)]) (g := gName 1) (tt := tYes) rfl scas_tuples0.nd (pi_seq (pv 0)) (blkOk_by (own := [("item", 1)]) (N := ["value", "item"]) (sc := defScope stas_tuples0) (by decide +kernel)) (fun _ _ _ _ _ => pg_name (i := 1) scas_tuples0.nd rfl (Or.inl rfl)) (fun _ _ _ _ _ => pts_nil) (fun _ _ _ _ _ => (pe_call OKFF (hr.mono (by decide)) rfl Das_tuples0.m Das_tuples0.F.kp Das_tuples0.b .nil pass0 (pa_cons (pv 1) pa_nil)))) pa_nil)))) pss_nil)
    (pss_one (ps_ret (pv 0)))), ?_⟩
    obtain ⟨v, rfl, av, q⟩ := h
    refine ⟨_, rfl, v, rfl, .inr ⟨av, fun H1 s1 => ⟨_, rfl, ?_⟩⟩⟩
    refine iteF ?_
    exact ⟨_, rfl, q _ s1⟩
abbrev stas_tuples1 : Stmt := top 19
theorem scas_tuples1 : FnScope ["value", "item"] ["value"] (defScope stas_tuples1) := ⟨rfl, rfl, rfl, by decide +kernel, rfl, by decide +kernel, by decide +kernel⟩
theorem okas_tuples1 (B : Blt mg)  {fis_list : Addr} {fdis_list : FuncData} (Dis_list : DefAt K mg "is_list" stis_list ["value"] fis_list fdis_list) {fas_tuples0 : Addr} {fdas_tuples0 : FuncData} (Das_tuples0 : DefAt K mg "as_tuples" stas_tuples0 ["value"] fas_tuples0 fdas_tuples0) {fas_tuples1 : Addr} {fdas_tuples1 : FuncData} (Das_tuples1 : DefAt K mg "as_tuples" stas_tuples1 ["value"] fas_tuples1 fdas_tuples1) : FnOk P w K mg base CX0 3 fas_tuples1 fdas_tuples1 ["value"] spAs1 := by
  have OKas_tuples0 : FnOk P w K mg base CX0 2 fas_tuples0 fdas_tuples0 ["value"] spAs0 := okas_tuples0 B  Dis_list Das_tuples0
  have OKis_list : FnOk P w K mg base CX0 1 fis_list fdis_list ["value"] (spIsLv K) := okis_list B  Dis_list
  refine Das_tuples1.F.ok scas_tuples1 (fun vs H Q E h => ?_) (fun cdv A outer s H vs Q E hr h => ?_)
  · obtain ⟨v, c, rfl, _⟩ := h; rfl
  · have hu := hu_of hr
    refine ⟨_, (pss_cons (ps_if (pt_val (pe_call OKis_list (hr.mono (by decide)) rfl Dis_list.m Dis_list.F.kp Dis_list.b .nil pass0 (pa_cons (pv 0) pa_nil))) (pss_one (ps_ret (pe_callTy (call_tupK : CallR _ _ (rTup K)) (by rfl) B.tuple_ (by decide +kernel) (pa_cons (pe_lc (own := [("item", 1)]) (g := gName 1) (tt := tYes) rfl scas_tuples1.nd (pi_seq (pv 0)) (blkOk_by (own := [("item", 1)]) (N := ["value", "item"]) (sc := defScope stas_tuples1) (by decide +kernel)) (fun _ _ _ _ _ => pg_name (i := 1) scas_tuples1.nd rfl (Or.inl rfl)) (fun _ _ _ _ _ => pts_nil) (fun _ _ _ _ _ => (pe_call OKas_tuples0 (hr.mono (by decide)) rfl Das_tuples0.m Das_tuples0.F.kp Das_tuples0.b .nil pass0 (pa_cons (pv 1) pa_nil)))) pa_nil)))) pss_nil)
    (pss_one (ps_ret (pv 0)))), ?_⟩
    obtain ⟨v, c, rfl, rv, q⟩ := h
    cases c with
    | inl u =>
      obtain ⟨rfl, av⟩ := rv
      refine ⟨_, rfl, v, rfl, .inr ⟨av, fun H1 s1 => ⟨_, rfl, ?_⟩⟩⟩
      refine iteF ?_
      exact ⟨_, rfl, q _ _ s1 rfl⟩
    | inr us =>
      obtain ⟨a, rfl, ha, lu, au⟩ := rv
      refine ⟨_, rfl, .ref a, rfl, .inl ⟨a, us, rfl, ha, fun H1 s1 => ⟨true, rfl, ?_⟩⟩⟩
      refine iteT ?_
      obtain ⟨k, sq⟩ := sq_of (K := K) ha
      refine ⟨_, rfl, a, k, rfl, ⟨_, sq _ s1⟩, fun D hD => ?_⟩
      refine lc_seq (K := K) (k := k) (a := a) (xs := us) (fun i H' => Same H1 H' ∧ H' D = some (.lst (us.take i))) ⟨AL.Same.new hD, upd_same⟩ (fun i H' _ hh => sq _ (s1.trans hh.1)) ?_ ?_
      · rintro i x H2 hx ⟨s2, hd⟩
        have il := (List.getElem?_eq_some_iff.mp hx).1
        refine ⟨rfl, ?_⟩
        refine ⟨_, rfl, x, rfl, au x (List.mem_of_getElem? hx), fun H3 s3 => ⟨_, s3 _ _ hd, ?_, AL.Same.updn (s2.trans s3) hD, ?_⟩⟩
        · rw [List.length_take]; exact Nat.lt_of_le_of_lt (by omega : _ ≤ 1000) (by decide)
        · rw [upd_same, List.take_add_one, hx]; rfl
      rintro H2 ⟨s2, hd⟩
      rw [List.take_length] at hd
      refine ⟨D, _, rfl, .inl ⟨SqL.of hd, fun t ht => ?_⟩⟩
      exact q _ _ (s1.trans (s2.trans (AL.Same.new ht))) ⟨t, rfl, upd_same⟩
abbrev stas_tuples : Stmt := top 19
theorem scas_tuples : FnScope ["value", "item"] ["value"] (defScope stas_tuples) := ⟨rfl, rfl, rfl, by decide +kernel, rfl, by decide +kernel, by decide +kernel⟩
theorem okas_tuples (B : Blt mg)  {fis_list : Addr} {fdis_list : FuncData} (Dis_list : DefAt K mg "is_list" stis_list ["value"] fis_list fdis_list) {fas_tuples0 : Addr} {fdas_tuples0 : FuncData} (Das_tuples0 : DefAt K mg "as_tuples" stas_tuples0 ["value"] fas_tuples0 fdas_tuples0) {fas_tuples1 : Addr} {fdas_tuples1 : FuncData} (Das_tuples1 : DefAt K mg "as_tuples" stas_tuples1 ["value"] fas_tuples1 fdas_tuples1) {fas_tuples : Addr} {fdas_tuples : FuncData} (Das_tuples : DefAt K mg "as_tuples" stas_tuples ["value"] fas_tuples fdas_tuples) : FnOk P w K mg base CX0 4 fas_tuples fdas_tuples ["value"] spAs2 := by
  have OKas_tuples1 : FnOk P w K mg base CX0 3 fas_tuples1 fdas_tuples1 ["value"] spAs1 := okas_tuples1 B  Dis_list Das_tuples0 Das_tuples1
  have OKis_list : FnOk P w K mg base CX0 1 fis_list fdis_list ["value"] (spIsLv K) := okis_list B  Dis_list
  refine Das_tuples.F.ok scas_tuples (fun vs H Q E h => ?_) (fun cdv A outer s H vs Q E hr h => ?_)
  · obtain ⟨a, us, cs, rfl, _⟩ := h; rfl
  · have hu := hu_of hr
    refine ⟨_, (pss_cons (ps_if (pt_val (pe_call OKis_list (hr.mono (by decide)) rfl Dis_list.m Dis_list.F.kp Dis_list.b .nil pass0 (pa_cons (pv 0) pa_nil))) (pss_one (ps_ret (pe_callTy (call_tupK : CallR _ _ (rTup K)) (by rfl) B.tuple_ (by decide +kernel) (pa_cons (pe_lc (own := [("item", 1)]) (g := gName 1) (tt := tYes) rfl scas_tuples.nd (pi_seq (pv 0)) (blkOk_by (own := [("item", 1)]) (N := ["value", "item"]) (sc := defScope stas_tuples) (by decide +kernel)) (fun _ _ _ _ _ => pg_name (i := 1) scas_tuples.nd rfl (Or.inl rfl)) (fun _ _ _ _ _ => pts_nil) (fun _ _ _ _ _ => (pe_call OKas_tuples1 (hr.mono (by decide)) rfl Das_tuples1.m Das_tuples1.F.kp Das_tuples1.b .nil pass0 (pa_cons (pv 1) pa_nil)))) pa_nil)))) pss_nil)
    (pss_one (ps_ret (pv 0)))), ?_⟩
    obtain ⟨a, us, cs, rfl, ha, pr, lu, q⟩ := h
    have lc := prd_len pr
    
    refine ⟨_, rfl, .ref a, rfl, .inl ⟨a, us, rfl, ha, fun H1 s1 => ⟨true, rfl, ?_⟩⟩⟩
    refine iteT ?_
    obtain ⟨k, sq⟩ := sq_of (K := K) ha
    refine ⟨_, rfl, a, k, rfl, ⟨_, sq _ s1⟩, fun D hD => ?_⟩
    
    refine lc_seq (K := K) (k := k) (a := a) (xs := us) (fun i H' => Same H1 H' ∧ ∃ ys, H' D = some (.lst ys) ∧ Paired (Res1 H') ys (cs.take i)) ⟨AL.Same.new hD, [], upd_same, .nil⟩ (fun i H' _ hh => sq _ (s1.trans hh.1)) ?_ ?_
    · rintro i x H2 hx ⟨s2, ys, hd, py⟩
      have il := (List.getElem?_eq_some_iff.mp hx).1
      obtain ⟨c, hc, rx⟩ := prd_get pr hx
      have ly := prd_len py
      rw [List.length_take] at ly
      refine ⟨rfl, ?_⟩
      refine ⟨_, rfl, x, c, rfl, rx.same (s1.trans s2), fun H3 y s3 ry => ⟨_, s3 _ _ hd, Nat.lt_of_le_of_lt (by omega : _ ≤ 1000) (by decide), AL.Same.updn (s2.trans s3) hD, ys ++ [y], upd_same, ?_⟩⟩
      have tu := upd_tups (o := .lst (ys ++ [y])) (s3 _ _ hd) (fun _ z => nomatch z)
      have rt : ∀ {v : V} {c : TC}, Res1 H3 v c → Res1 (upd H3 D (.lst (ys ++ [y]))) v c := fun {v c} h => by
        cases c with
        | inl u => exact h
        | inr xs => obtain ⟨t, h1, h2⟩ := h; exact ⟨t, h1, tu _ _ h2⟩
      rw [List.take_add_one, hc]
      exact prd_snoc (paired_mono py fun _ _ z => rt (z.same s3)) (rt ry)
    rintro H2 ⟨s2, ys, hd, py⟩
    rw [List.take_of_length_le (by omega)] at py
    refine ⟨D, _, rfl, .inl ⟨SqL.of hd, fun t ht => ?_⟩⟩
    have nt := AL.Same.new (o := .tup ys) ht
    exact q t _ ys (s1.trans (s2.trans nt)) upd_same (paired_mono py fun _ _ z => z.same nt)
end
end AL
set_option Elab.async false
set_option maxRecDepth 100000
set_option exponentiation.threshold 70000
set_option maxHeartbeats 1000000
namespace AL
open PySem PySem.Spec PyProof.Rows L2 RZ
section
variable {P : Program} {w : World} {K : PySem.W.Frag} {mg : Str → Option Value} {base : Heap}

/-- a def with a default value that the calls leave out -/
structure DefDd (dvs : List V) (K : PySem.W.Frag) (mg : Str → Option Value) (x : Str) (st : Stmt) (ps : List Str) (f : Addr) (fd : FuncData) : Prop where
  F : L2.FunD K x x (defArgs st) (defBody st) (defScope st) dvs [] f fd
  m : mg x = some (.ref f)
  b : ∃ ds, Vals dvs ds ∧ Binds K fd ps ds
/-- tuples of whole numbers, in a list or a tuple -/
def RowsU (H : Hp) (w : Addr) (ws : List Rw) : Prop := ∃ as : List Addr, (H w = some (.lst (as.map V.ref)) ∨ H w = some (.tup (as.map V.ref))) ∧ Paired (fun a r => H a = some (.tup (r.map V.int))) as ws
theorem RowsU.same {H H' : Hp} {w : Addr} {ws : List Rw} (h : RowsU H w ws) (s : Same H H') : RowsU H' w ws := by
  obtain ⟨as, h1, h2⟩ := h
  exact ⟨as, h1.imp (s _ _) (s _ _), paired_mono h2 fun _ _ z => s _ _ z⟩
theorem rIx_seq {K : PySem.W.Frag} {H : Hp} {a : Addr} {xs : List V} {i : Int} {v : V} {Q : VK} (h : H a = some (.lst xs) ∨ H a = some (.tup xs)) (g : atI xs i = some v) (q : Q v H) : rIx K (.ref a) (.int i) H Q := by
  rcases h with h | h
  · exact .inl ⟨a, _, _, _, rfl, rfl, SqL.of h, g, q⟩
  · exact .inr (.inl ⟨a, _, _, _, rfl, rfl, SqT.of h, g, q⟩)
/-- is_letters(exponents) -/
def spIl : Sp := fun vs H Q _ => ∃ (w : Addr) (n : Nat) (rows : List Rw), vs = [.ref w] ∧ RowsU H w rows ∧ rows ≠ [] ∧ (∀ r ∈ rows, r.length = n) ∧ 0 < n ∧ n ≤ 100 ∧ rows.length ≤ 100 ∧ ∀ H', Same H H' → Q (.bl true) H'
/-- check_letters(exponents), many left out -/
def spCl : Sp := fun vs H Q _ => ∃ (w : Addr) (n : Nat) (rows : List Rw), vs = [.ref w, .non] ∧ RowsU H w rows ∧ rows ≠ [] ∧ (∀ r ∈ rows, r.length = n) ∧ 0 < n ∧ n ≤ 100 ∧ rows.length ≤ 100 ∧ ∀ H', Same H H' → Q .non H'

abbrev stis_letters : Stmt := top 21
theorem scis_letters : FnScope ["exponents", "row", "width"] ["exponents"] (defScope stis_letters) := ⟨rfl, rfl, rfl, by decide +kernel, rfl, by decide +kernel, by decide +kernel⟩
theorem okis_letters (B : Blt mg)  {fis_whole : Addr} {fdis_whole : FuncData} (Dis_whole : DefAt K mg "is_whole" stis_whole ["value"] fis_whole fdis_whole) {fare_integers : Addr} {fdare_integers : FuncData} (Dare_integers : DefAt K mg "are_integers" stare_integers ["items"] fare_integers fdare_integers) {fis_list : Addr} {fdis_list : FuncData} (Dis_list : DefAt K mg "is_list" stis_list ["value"] fis_list fdis_list) {fis_letters : Addr} {fdis_letters : FuncData} (Dis_letters : DefAt K mg "is_letters" stis_letters ["exponents"] fis_letters fdis_letters) : FnOk P w K mg base CX0 3 fis_letters fdis_letters ["exponents"] spIl := by
  have OKare_integers : FnOk P w K mg base CX0 2 fare_integers fdare_integers ["items"] spAreL := okare_integers B  Dis_whole Dare_integers
  have OKis_list : FnOk P w K mg base CX0 1 fis_list fdis_list ["value"] (spIsLv K) := okis_list B  Dis_list
  refine Dis_letters.F.ok scis_letters (fun vs H Q E h => ?_) (fun cdv A outer s H vs Q E hr h => ?_)
  · obtain ⟨w, n, rows, rfl, _⟩ := h; rfl
  · have hu := hu_of hr
    refine ⟨_, (pss_cons (ps_if (PW.pt (pw_or (pt_not (pt_val (pe_call OKis_list (hr.mono (by decide)) rfl Dis_list.m Dis_list.F.kp Dis_list.b .nil pass0 (pa_cons (pv 0) pa_nil)))) (pw_or (pt_cmpR op_eq (pe_callB call_len_seq (by rfl) B.len_ (by decide +kernel) (pa_cons (pv 0) pa_nil)) pe_int (nomark _)) (pw_or1 (pt_not (pt_val (pe_callB (cr_all rfl) (by rfl) B.all_ (by decide +kernel) (pa_cons (pe_lc (own := [("row", 1)]) (g := gName 1) (tt := tYes) rfl scis_letters.nd (pi_seq (pv 0)) (blkOk_by (own := [("row", 1)]) (N := ["exponents", "row", "width"]) (sc := defScope stis_letters) (by decide +kernel)) (fun _ _ _ _ _ => pg_name (i := 1) scis_letters.nd rfl (Or.inl rfl)) (fun _ _ _ _ _ => pts_nil) (fun _ _ _ _ _ => (pe_callB (call_isi : CallR _ (.builtin "isinstance") (rIsi K)) (by rfl) B.isinstance_ (by decide +kernel) (pa_cons (pv 1) (pa_cons (pe_bltn (v := .ty "tuple") (by rfl) B.tuple_ PyProof.Rows.Boot.«tuple» rfl) pa_nil))))) pa_nil)))))))) (pss_one (ps_ret pe_bl)) pss_nil)
    (pss_cons (ps_set (i := 2) scis_letters.nd rfl (Or.inr rfl) (pe_callB call_len_seq (by rfl) B.len_ (by decide +kernel) (pa_cons (pe_ix (ix_seq : IxR _ (rIx K)) (pv 0) pe_int (fun _ _ => rfl)) pa_nil)))
    (pss_one (ps_ret (pe_and (pe_cmpR op_gt (pv 2) pe_int (nomark _)) (pe_one (pe_callB (cr_all rfl) (by rfl) B.all_ (by decide +kernel) (pa_cons (pe_lc (own := [("row", 1)]) (g := gName 1) (tt := tYes) rfl scis_letters.nd (pi_seq (pv 0)) (blkOk_by (own := [("row", 1)]) (N := ["exponents", "row", "width"]) (sc := defScope stis_letters) (by decide +kernel)) (fun _ _ _ _ _ => pg_name (i := 1) scis_letters.nd rfl (Or.inl rfl)) (fun _ _ _ _ _ => pts_nil) (fun _ _ _ _ _ => (pe_and (pe_cmpR op_eq (pe_callB (call_lenK : CallR _ (.builtin "len") (rLenK K)) (by rfl) B.len_ (by decide +kernel) (pa_cons (pv 1) pa_nil)) (pv 2) (nomark _)) (pe_one (pe_call OKare_integers (hr.mono (by decide)) rfl Dare_integers.m Dare_integers.F.kp Dare_integers.b .nil pass0 (pa_cons (pv 1) pa_nil)))))) pa_nil)))))))), ?_⟩
    obtain ⟨w, n, rows, rfl, hw, ne, hl, n0, hn, hm, q⟩ := h
    obtain ⟨as, W1, W2⟩ := hw
    have la := prd_len W2
    have lr : 0 < rows.length := List.length_pos_iff.mpr ne
    obtain ⟨k, sq⟩ := sq_of (K := K) W1
    refine ⟨_, rfl, .ref w, rfl, .inl ⟨w, _, rfl, W1, fun H1 s1 => ⟨true, rfl, ?_⟩⟩⟩
    refine iteF ?_
    refine ⟨_, rfl, w, _, rfl, (W1.imp (fun z => SqL.of (s1 _ _ z)) fun z => SqT.of (s1 _ _ z)), rfl, _, rfl, ?_⟩
    rw [decide_eq_false (fun z => by injection z with z; rw [List.length_map] at z; omega)]
    refine iteF ?_
    refine ⟨_, rfl, w, k, rfl, ⟨_, sq _ s1⟩, fun D hD => ?_⟩
    refine lc_seq (K := K) (a := w) (k := k) (xs := as.map V.ref) (fun i H' => Same H1 H' ∧ H' D = some (.lst ((List.replicate i true).map V.bl))) ⟨AL.Same.new hD, upd_same⟩ (fun i H' _ hh => sq _ (s1.trans hh.1)) ?_ ?_
    · rintro i x H2 hx ⟨s2, hd⟩
      obtain ⟨a, ha, rfl⟩ := map_ref hx
      obtain ⟨r, hr, hra⟩ := prd_get W2 ha
      have il := (List.getElem?_eq_some_iff.mp hr).1
      refine ⟨rfl, ?_⟩
      refine ⟨_, rfl, _, _, _, _, _, rfl, ClsV.ty _, TyX.base (.tup ((s1.trans s2) _ _ hra)), rfl, _, hd, ?_, AL.Same.updn s2 hD, by rw [upd_same, bl_snoc]⟩
      rw [List.length_map, List.length_replicate]; exact Nat.lt_of_le_of_lt (by omega : _ ≤ 1000) (by decide)
    rintro H2 ⟨s2, hd⟩
    refine ⟨D, _, rfl, SqL.of hd, _, rfl, ?_⟩
    rw [all_rep]
    refine iteF ?_
    have s12 := s1.trans s2
    obtain ⟨r0, rows', rfl⟩ : ∃ r0 rows', rows = r0 :: rows' := by
      cases rows with
      | nil => exact absurd rfl ne
      | cons r0 rows' => exact ⟨r0, rows', rfl⟩
    obtain ⟨a0, as', rfl⟩ : ∃ a0 as', as = a0 :: as' := by
      cases as with
      | nil => simp at la
      | cons a0 as' => exact ⟨a0, as', rfl⟩
    have h0 : H a0 = some (.tup (r0.map V.int)) := by cases W2 with | cons z _ => exact z
    have l0 := hl r0 (List.mem_cons_self ..)
    generalize r0 :: rows' = rows at *
    have g0 : atI ((a0 :: as').map V.ref) 0 = some (.ref a0) := atI_of (by rw [List.length_map, List.length_cons]; omega : 0 < _)
    refine ⟨_, rfl, rIx_seq (W1.imp (s12 _ _) (s12 _ _)) g0 ?_⟩
    refine ⟨a0, _, rfl, .inr (SqT.of (s12 _ _ h0)), ?_⟩
    rw [List.length_map, l0]
    refine ⟨_, rfl, _, _, rfl, rfl, true, congrArg V.bl (decide_eq_true (by omega)), ?_⟩
    refine iteT ?_
    refine ⟨_, rfl, w, k, rfl, ⟨_, sq _ s12⟩, fun D2 hD2 => ?_⟩
    refine lc_seq (K := K) (a := w) (k := k) (xs := (a0 :: as').map V.ref) (fun i H' => Same H2 H' ∧ H' D2 = some (.lst ((List.replicate i true).map V.bl))) ⟨AL.Same.new hD2, upd_same⟩ (fun i H' _ hh => sq _ (s12.trans hh.1)) ?_ ?_
    · rintro i x H3 hx ⟨s3, hd3⟩
      obtain ⟨a, ha, rfl⟩ := map_ref hx
      obtain ⟨r, hr, hra⟩ := prd_get W2 ha
      have il := (List.getElem?_eq_some_iff.mp hr).1
      have lrr := hl r (List.mem_of_getElem? hr)
      refine ⟨rfl, ?_⟩
      refine ⟨_, rfl, a, _, rfl, .inr (SqT.of ((s12.trans s3) _ _ hra)), _, rfl, rfl, true, congrArg V.bl (decide_eq_true (by rw [List.length_map, lrr])), ?_⟩
      refine iteT ?_
      refine ⟨_, rfl, a, r, rfl, .inr ((s12.trans s3) _ _ hra), by omega, fun H4 s4 => ⟨_, s4 _ _ hd3, ?_, AL.Same.updn (s3.trans s4) hD2, by rw [upd_same, bl_snoc]⟩⟩
      rw [List.length_map, List.length_replicate]; exact Nat.lt_of_le_of_lt (by omega : _ ≤ 1000) (by decide)
    rintro H3 ⟨s3, hd3⟩
    refine ⟨D2, _, rfl, SqL.of hd3, ?_⟩
    rw [all_rep]
    exact q H3 (s12.trans s3)
abbrev stcheck_letters : Stmt := top 25
theorem sccheck_letters : FnScope ["exponents", "many"] ["exponents", "many"] (defScope stcheck_letters) := ⟨rfl, rfl, rfl, by decide +kernel, rfl, by decide +kernel, by decide +kernel⟩
theorem okcheck_letters (B : Blt mg)  {fis_whole : Addr} {fdis_whole : FuncData} (Dis_whole : DefAt K mg "is_whole" stis_whole ["value"] fis_whole fdis_whole) {fare_integers : Addr} {fdare_integers : FuncData} (Dare_integers : DefAt K mg "are_integers" stare_integers ["items"] fare_integers fdare_integers) {fis_list : Addr} {fdis_list : FuncData} (Dis_list : DefAt K mg "is_list" stis_list ["value"] fis_list fdis_list) {fis_letters : Addr} {fdis_letters : FuncData} (Dis_letters : DefAt K mg "is_letters" stis_letters ["exponents"] fis_letters fdis_letters) {fcheck_letters : Addr} {fdcheck_letters : FuncData} (Dcheck_letters : DefDd [.non] K mg "check_letters" stcheck_letters ["exponents", "many"] fcheck_letters fdcheck_letters) : FnOk P w K mg base CX0 4 fcheck_letters fdcheck_letters ["exponents", "many"] spCl := by
  have OKis_letters : FnOk P w K mg base CX0 3 fis_letters fdis_letters ["exponents"] spIl := okis_letters B  Dis_whole Dare_integers Dis_list Dis_letters
  refine Dcheck_letters.F.ok sccheck_letters (fun vs H Q E h => ?_) (fun cdv A outer s H vs Q E hr h => ?_)
  · obtain ⟨w, n, rows, rfl, _⟩ := h; rfl
  · have hu := hu_of hr
    refine ⟨_, PSs.nox (pss_one (ps_if (PW.pt (pw_or (pt_not (pt_val (pe_call OKis_letters (hr.mono (by decide)) rfl Dis_letters.m Dis_letters.F.kp Dis_letters.b .nil pass0 (pa_cons (pv 0) pa_nil)))) (pw_or1 (PW.pt (pw_and (pt_cmpR op_notN (pv 1) pe_non (nomark _)) (pw_and1 (pt_cmpR op_ne (pe_callB call_len_seq (by rfl) B.len_ (by decide +kernel) (pa_cons (pv 0) pa_nil)) (pv 1) (nomark _)))))))) (pss_one ps_never) pss_nil)), ?_⟩
    obtain ⟨w, n, rows, rfl, hw, ne, hl, n0, hn, hm, q⟩ := h
    refine ⟨_, rfl, w, n, rows, rfl, hw, ne, hl, n0, hn, hm, fun H1 s1 => ⟨true, rfl, ?_⟩⟩
    refine iteF ?_
    refine ⟨_, rfl, rfl, _, rfl, ?_⟩
    rw [decide_eq_true rfl]
    refine iteF ?_
    refine iteF ?_
    exact q H1 s1
end
end AL
set_option Elab.async false
set_option maxRecDepth 100000
set_option exponentiation.threshold 70000
set_option maxHeartbeats 1000000
namespace AL
open PySem PySem.Spec PyProof.Rows L2 RZ
section
variable {P : Program} {w : World} {K : PySem.W.Frag} {mg : Str → Option Value} {base : Heap}

/-- _law_inner(row, column) -/
def dotI (ns es : List Int) : Int := (List.zipWith (· * ·) ns es).sum
def spInn : Sp := fun vs H Q _ => ∃ (r k : Addr) (ns es : List Int), vs = [.ref r, .ref k] ∧ LT H r ns ∧ LI H k es ∧ ns.length = es.length ∧ es.length ≤ 60 ∧ (∀ x ∈ ns, x.natAbs < 2 ^ 3000) ∧ (∀ x ∈ es, x.natAbs < 2 ^ 3000) ∧ ∀ H', Same H H' → Q (.int (dotI ns es)) H'

abbrev st_law_inner : Stmt := top 32
theorem sc_law_inner : FnScope ["_law_row", "_law_column_here", "_law_one", "_law_two"] ["_law_row", "_law_column_here"] (defScope st_law_inner) := ⟨rfl, rfl, rfl, by decide +kernel, rfl, by decide +kernel, by decide +kernel⟩
theorem ok_law_inner (B : Blt mg)  {f_law_inner : Addr} {fd_law_inner : FuncData} (D_law_inner : DefAt K mg "_law_inner" st_law_inner ["_law_row", "_law_column_here"] f_law_inner fd_law_inner) : FnOk P w K mg base CX0 1 f_law_inner fd_law_inner ["_law_row", "_law_column_here"] spInn := by
  refine D_law_inner.F.ok sc_law_inner (fun vs H Q E h => ?_) (fun cdv A outer s H vs Q E hr h => ?_)
  · obtain ⟨r, k, ns, es, rfl, _⟩ := h; rfl
  · have hu := hu_of hr
    refine ⟨_, (pss_one (ps_ret (pe_callB (cr_sum rfl) (by rfl) B.sum_ (by decide +kernel) (pa_cons (pe_lc (own := [("_law_one", 2), ("_law_two", 3)]) (g := (gTup K 2 (gCons (gName 2) (gCons (gName 3) gNil)))) (tt := tYes) rfl sc_law_inner.nd (pi_zipB (by rfl) B.zip_ (pa_cons (pv 0) (pa_cons (pv 1) pa_nil))) (blkOk_by (own := [("_law_one", 2), ("_law_two", 3)]) (N := ["_law_row", "_law_column_here", "_law_one", "_law_two"]) (sc := defScope st_law_inner) (by decide +kernel)) (fun _ _ _ _ _ => (pg_tup rfl (pgs_cons (pg_name (i := 2) sc_law_inner.nd rfl (Or.inl rfl)) (pgs_cons (pg_name (i := 3) sc_law_inner.nd rfl (Or.inl rfl)) pgs_nil)))) (fun _ _ _ _ _ => pts_nil) (fun _ _ _ _ _ => (pe_op op_mulW (pv 2) (pv 3)))) pa_nil)))), ?_⟩
    obtain ⟨r, k, ns, es, rfl, hr, hk, hl, le, b1, b2, q⟩ := h
    obtain ⟨kb, hb⟩ := hr.sqb (K := K)
    refine ⟨_, rfl, _, rfl, r, k, kb, true, _, _, rfl, hb, SqL.of hk, fun D hD => ?_⟩
    refine lc_it (walk_zipB (K := K) (a := r) (b := k) (k := kb) (l := true) (xs := ns.map V.int) (ys := es.map V.int) (n := ns.length) (by rw [List.length_map, List.length_map]; omega)) (fun i H' => Same H H' ∧ H' D = some (.lst (((List.zipWith (· * ·) ns es).take i).map V.int))) ⟨AL.Same.new hD, upd_same⟩ (fun i H' _ hh => ⟨sqB_same7 hb hh.1, SqL.of (hh.1 _ _ hk)⟩) ?_ ?_
    · rintro i x0 H0 H1' hi ⟨s0, hd0⟩ ⟨T0, u1, u2, rfl, hT, rfl, e1, e2⟩
      obtain ⟨z1, c1, rfl⟩ := map_int e1
      obtain ⟨z2, c2, rfl⟩ := map_int e2
      have hDT : D ≠ T0 := fun z => by rw [z, hT] at hd0; cases hd0
      have sT : Same H (upd H0 T0 (.tup [.int z1, .int z2])) := s0.trans (AL.Same.new hT)
      refine ⟨T0, _, rfl, SqT.of upd_same, rfl, _, _, rfl, _, _, rfl, rfl, rfl, ?_⟩
      refine ⟨_, rfl, _, rfl, _, _, rfl, rfl, wide_mul (a := 3000) (b := 3000) (b1 _ (List.mem_of_getElem? c1)) (b2 _ (List.mem_of_getElem? c2)) (by decide) (by decide) (by decide), _, Eq.trans (upd_ne hDT) hd0, ?_, AL.Same.updn sT hD, ?_⟩
      · rw [List.length_map, List.length_take]
        exact Nat.lt_of_le_of_lt (by omega : _ ≤ 100) (by decide)
      · rw [upd_same, List.take_add_one, List.getElem?_zipWith, c1, c2]
        simp
    · rintro H3 ⟨s3, hd3⟩
      rw [List.take_of_length_le (by rw [List.length_zipWith]; omega)] at hd3
      exact ⟨D, _, rfl, SqL.of hd3, q H3 s3⟩
abbrev st_law_unit : Stmt := top 34
theorem sc_law_unit : FnScope ["_law_many", "_law_k", "_law_j"] ["_law_many"] (defScope st_law_unit) := ⟨rfl, rfl, rfl, by decide +kernel, rfl, by decide +kernel, by decide +kernel⟩
theorem ok_law_unit (B : Blt mg)  {f_law_unit : Addr} {fd_law_unit : FuncData} (D_law_unit : DefAt K mg "_law_unit" st_law_unit ["_law_many"] f_law_unit fd_law_unit) : FnOk P w K mg base CX0 1 f_law_unit fd_law_unit ["_law_many"] spId := by
  refine D_law_unit.F.ok sc_law_unit (fun vs H Q E h => ?_) (fun cdv A outer s H vs Q E hr h => ?_)
  · obtain ⟨n, rfl, _⟩ := h; rfl
  · have hu := hu_of hr
    refine ⟨_, (pss_one (ps_ret (pe_lc (own := [("_law_k", 1)]) (g := gName 1) (tt := tYes) rfl sc_law_unit.nd (pi_range1 rfl B.range_ (pa_cons (pv 0) pa_nil)) (blkOk_by (own := [("_law_k", 1)]) (N := ["_law_many", "_law_k", "_law_j"]) (by kernel_rfl)) (fun _ _ _ _ _ => (pg_name (i := 1) sc_law_unit.nd rfl (Or.inr rfl))) (fun _ _ _ _ _ => pts_nil) (fun _ _ _ _ _ => (pe_lc (own := [("_law_j", 2)]) (g := gName 2) (tt := tYes) rfl sc_law_unit.nd (pi_range1 rfl B.range_ (pa_cons (pv 0) pa_nil)) (blkOk_by (own := [("_law_j", 2)]) (N := ["_law_many", "_law_k", "_law_j"]) (by kernel_rfl)) (fun _ _ _ _ _ => (pg_name (i := 2) sc_law_unit.nd rfl (Or.inl rfl))) (fun _ _ _ _ _ => pts_nil) (fun _ _ _ _ _ => (pe_callTy call_int1 (by rfl) B.int_ (by decide +kernel) (pa_cons (pe_cmpR op_eq (pv 2) (pv 1) (nomark _)) pa_nil)))))))), ?_⟩
    obtain ⟨n, rfl, hn, q⟩ := h
    refine ⟨_, rfl, _, rfl, by omega, by omega, fun D hD => ?_⟩
    refine lc_range (lo := 0) (n := ((n : Int)).toNat) (fun i H' => Same H H' ∧ ∃ as : List Addr, H' D = some (.lst (as.map V.ref)) ∧ Paired (fun a r => a ≠ D ∧ H' a = some (.lst (r.map V.int))) as ((idM n).take i)) ⟨AL.Same.new hD, [], upd_same, .nil⟩ ?_ ?_
    · rintro i H1 hi ⟨s1, as, hd, pr⟩
      rw [Int.toNat_natCast] at hi
      refine ⟨rfl, ?_⟩
      refine ⟨_, rfl, _, rfl, by omega, by omega, fun D2 hD2 => ?_⟩
      refine lc_range (lo := 0) (n := ((n : Int)).toNat) (fun j H' => Same H1 H' ∧ H' D2 = some (.lst (((unitR n i).take j).map V.int))) ⟨AL.Same.new hD2, upd_same⟩ ?_ ?_
      · rintro j H2 hj ⟨s2, hd2⟩
        rw [Int.toNat_natCast] at hj
        refine ⟨rfl, ?_⟩
        have g : (unitR n i)[j]? = some (if j = i then 1 else 0) := by unfold unitR; rw [List.getElem?_map, List.getElem?_range hj]; rfl
        have put : ∀ v : Int, v = (if j = i then 1 else 0) → ∃ acc, H2 D2 = some (.lst acc) ∧ acc.length < sizeLine ∧ Same H1 (upd H2 D2 (.lst (acc ++ [.int v]))) ∧ upd H2 D2 (.lst (acc ++ [.int v])) D2 = some (.lst (((unitR n i).take (j + 1)).map V.int)) := fun v hv => by
          refine ⟨_, hd2, ?_, AL.Same.updn s2 hD2, ?_⟩
          · rw [List.length_map, List.length_take]; exact Nat.lt_of_le_of_lt (by omega : _ ≤ 1000) (by decide)
          · rw [upd_same, List.take_add_one, g, hv, List.map_append]; rfl
        refine ⟨_, rfl, _, rfl, rfl, .inr ⟨_, rfl, ?_⟩⟩
        by_cases e : j = i
        · rw [decide_eq_true (by rw [e])]
          exact put _ (by rw [if_pos e]; rfl)
        · rw [decide_eq_false (fun z => e (by injection z with z; omega))]
          exact put _ (by rw [if_neg e]; rfl)
      · rintro H2 ⟨s2, hd2⟩
        rw [List.take_of_length_le (by rw [unitR_len, Int.toNat_natCast]; exact Nat.le_refl _)] at hd2
        have bD : D2 ≠ D := fun z => by rw [z, hd] at hD2; cases hD2
        have la := prd_len pr
        rw [List.length_take] at la
        obtain ⟨r1, r2⟩ := rowsZ_snoc (s2 _ _ hd) (paired_mono pr fun _ _ z => ⟨z.1, s2 _ _ z.2⟩) bD hd2
        refine ⟨_, s2 _ _ hd, ?_, AL.Same.updn (s1.trans s2) hD, as ++ [D2], r1, ?_⟩
        · rw [List.length_map]; exact Nat.lt_of_le_of_lt (by omega : _ ≤ 1000) (by decide)
        · have g : (idM n)[i]? = some (unitR n i) := by unfold idM; rw [List.getElem?_map, List.getElem?_range hi]; rfl
          rw [List.take_add_one, g]
          exact r2
    rintro H1 ⟨s1, as, hd, pr⟩
    rw [Int.toNat_natCast, List.take_of_length_le (by rw [idM_len]; exact Nat.le_refl _)] at pr
    exact q D H1 hD s1 ⟨as, hd, paired_mono pr fun _ _ z => z.2⟩
end
end AL
set_option Elab.async false
set_option maxRecDepth 100000
set_option exponentiation.threshold 70000
set_option maxHeartbeats 1000000
namespace AL
open PySem PySem.Spec PyProof.Rows L2 RZ
section
variable {P : Program} {w : World} {K : PySem.W.Frag} {mg : Str → Option Value} {base : Heap}
theorem same_k7 {p : Addr} {H H' : Hp} (s : Same H H') : Keep p H H' := fun b o _ h => s _ _ h
theorem keep_upd7 {p : Addr} {H H' : Hp} {D : Addr} {o : HO} (k : Keep p H H') (h : H D = none) : Keep p H (upd H' D o) := fun b u nb e => by
  rw [upd_ne (ne_of_none e h)]; exact k b u nb e
theorem pen_ne7 {H : Hp} {p c : Addr} {m : Nat} {D : Addr} (P : Pen H p c m) (h : H D = none) : p ≠ D ∧ c ≠ D := by
  refine ⟨fun z => ?_, fun z => ?_⟩
  · obtain ⟨l, w⟩ := P.dict
    rw [z, h] at w; cases w
  · obtain ⟨ns, i, d, n, f, h1, h2, _⟩ := P.ex
    rw [z, h] at h2; cases h2
theorem pen_upd7 {H : Hp} {p c : Addr} {m : Nat} {D : Addr} {o : HO} (P : Pen H p c m) (h1 : p ≠ D) (h2 : c ≠ D) : Pen (upd H D o) p c m := P.keep (fun u e => by rw [upd_ne h1]; exact e) fun u e => by rw [upd_ne h2]; exact e


/-- _law_matrix(pen, many, wide, most) -/
def spMx : Sp := fun vs H Q _ => ∃ (p c : Addr) (m k n mo : Nat), vs = [.ref p, .int (k : Int), .int (n : Int), .int (mo : Int)] ∧ Pen H p c m ∧ m < 600000000 ∧ k ≤ 6 ∧ n ≤ 4 ∧ 1 ≤ mo ∧ mo ≤ 20 ∧
  ∀ w H' M, Pen H' p c (m + 14 * k) → Keep p H H' → RowsZ H' w M → M.length = k → (∀ r ∈ M, r.length = n ∧ ∀ v ∈ r, v.natAbs ≤ mo * 3 ^ k) → Q (.ref w) H'

abbrev st_law_matrix : Stmt := top 38
theorem sc_law_matrix : FnScope ["_law_pen_here", "_law_many", "_law_wide", "_law_most", "_law_rows", "_law_k", "_law_row", "_law_j", "_law_one", "_law_by", "_law_other", "_law_a", "_law_b"] ["_law_pen_here", "_law_many", "_law_wide", "_law_most"] (defScope st_law_matrix) := ⟨rfl, rfl, rfl, by decide +kernel, rfl, by decide +kernel, by decide +kernel⟩
theorem ok_law_matrix (B : Blt mg)  {f_law_draw : Addr} {fd_law_draw : FuncData} (D_law_draw : DefAt K mg "_law_draw" st_law_draw ["_law_pen_here", "_law_many"] f_law_draw fd_law_draw) {f_law_pick : Addr} {fd_law_pick : FuncData} (D_law_pick : DefAt K mg "_law_pick" st_law_pick ["_law_pen_here", "_law_some"] f_law_pick fd_law_pick) {f_law_matrix : Addr} {fd_law_matrix : FuncData} (D_law_matrix : DefAt K mg "_law_matrix" st_law_matrix ["_law_pen_here", "_law_many", "_law_wide", "_law_most"] f_law_matrix fd_law_matrix) : FnOk P w K mg base CX0 3 f_law_matrix fd_law_matrix ["_law_pen_here", "_law_many", "_law_wide", "_law_most"] spMx := by
  have OK_law_draw : FnOk P w K mg base CX0 1 f_law_draw fd_law_draw ["_law_pen_here", "_law_many"] spDraw := ok_law_draw B  D_law_draw
  have OK_law_pick : FnOk P w K mg base CX0 2 f_law_pick fd_law_pick ["_law_pen_here", "_law_some"] (spPick K) := ok_law_pick B  D_law_draw D_law_pick
  refine D_law_matrix.F.ok sc_law_matrix (fun vs H Q E h => ?_) (fun cdv A outer s H vs Q E hr h => ?_)
  · obtain ⟨p, c, m, k, n, mo, rfl, _⟩ := h; rfl
  · have hu := hu_of hr
    refine ⟨_, (pss_cons (ps_set (i := 4) sc_law_matrix.nd rfl (Or.inl rfl) (pe_lst pa_nil))
    (pss_cons (ps_for PassesOwn.never rfl (pi_range1 rfl B.range_ (pa_cons (pv 1) pa_nil)) (pg_name (i := 5) sc_law_matrix.nd rfl (Or.inl rfl))
      (pss_cons (ps_setLc (i := 6) (own := [("_law_j", 7)]) (g := gName 7) (tt := tYes) rfl sc_law_matrix.nd rfl rfl (sw_true rfl rfl rfl (by decide +kernel)) (pi_range1 rfl B.range_ (pa_cons (pv 2) pa_nil)) (blkOk_by (own := [("_law_j", 7)]) (N := ["_law_pen_here", "_law_many", "_law_wide", "_law_most", "_law_rows", "_law_k", "_law_row", "_law_j", "_law_one", "_law_by", "_law_other", "_law_a", "_law_b"]) (sc := defScope st_law_matrix) (by decide +kernel)) (fun _ _ _ _ _ => (pg_name (i := 7) sc_law_matrix.nd rfl (Or.inl rfl))) (fun _ _ _ _ _ => pts_nil) (fun _ _ _ _ _ => (pe_op op_sub (pe_call OK_law_draw (hr.mono (by decide)) rfl D_law_draw.m D_law_draw.F.kp D_law_draw.b .nil pass0 (pa_cons (pv 0) (pa_cons (pe_op op_add (pe_op op_mulW pe_int (pv 3)) pe_int) pa_nil))) (pv 3))))
    (Evl.pss_cut (ps_if (pt_cmpR op_eq (pe_call OK_law_draw (hr.mono (by decide)) rfl D_law_draw.m D_law_draw.F.kp D_law_draw.b .nil pass0 (pa_cons (pv 0) (pa_cons pe_int pa_nil))) pe_int (nomark _)) (pss_one (ps_setLc (i := 6) (own := [("_law_one", 8)]) (g := gName 8) (tt := tYes) rfl sc_law_matrix.nd rfl rfl (sw_true rfl rfl rfl (by decide +kernel)) (pi_list (pv 6)) (blkOk_by (own := [("_law_one", 8)]) (N := ["_law_pen_here", "_law_many", "_law_wide", "_law_most", "_law_rows", "_law_k", "_law_row", "_law_j", "_law_one", "_law_by", "_law_other", "_law_a", "_law_b"]) (sc := defScope st_law_matrix) (by decide +kernel)) (fun _ _ _ _ _ => (pg_name (i := 8) sc_law_matrix.nd rfl (Or.inl rfl))) (fun _ _ _ _ _ => pts_nil) (fun _ _ _ _ _ => (pe_ifExp (pt_cmpR op_eq (pe_call OK_law_draw (hr.mono (by decide)) rfl D_law_draw.m D_law_draw.F.kp D_law_draw.b .nil pass0 (pa_cons (pv 0) (pa_cons pe_int pa_nil))) pe_int (nomark _)) (pv 8) pe_int)))) pss_nil)
    (Evl.pss_cut (ps_if (PW.pt (pw_and (pt_cmpR op_gt (pv 5) pe_int (nomark _)) (pw_and1 (pt_cmpR op_eq (pe_call OK_law_draw (hr.mono (by decide)) rfl D_law_draw.m D_law_draw.F.kp D_law_draw.b .nil pass0 (pa_cons (pv 0) (pa_cons pe_int pa_nil))) pe_int (nomark _))))) (pss_cons (ps_asg (pe_tup (pa_cons (pe_op op_sub (pe_call OK_law_draw (hr.mono (by decide)) rfl D_law_draw.m D_law_draw.F.kp D_law_draw.b .nil pass0 (pa_cons (pv 0) (pa_cons pe_int pa_nil))) pe_int) (pa_cons (pe_call OK_law_pick (hr.mono (by decide)) rfl D_law_pick.m D_law_pick.F.kp D_law_pick.b .nil pass0 (pa_cons (pv 0) (pa_cons (pv 4) pa_nil))) (pa_cons (pe_call OK_law_pick (hr.mono (by decide)) rfl D_law_pick.m D_law_pick.F.kp D_law_pick.b .nil pass0 (pa_cons (pv 0) (pa_cons (pv 4) pa_nil))) pa_nil)))) (pg_tup rfl (pgs_cons (pg_name (i := 9) sc_law_matrix.nd rfl (Or.inr rfl)) (pgs_cons (pg_name (i := 8) sc_law_matrix.nd rfl (Or.inl rfl)) (pgs_cons (pg_name (i := 10) sc_law_matrix.nd rfl (Or.inl rfl)) pgs_nil)))))
    (pss_one (ps_setLc (i := 6) (own := [("_law_a", 11), ("_law_b", 12)]) (g := (gTup K 2 (gCons (gName 11) (gCons (gName 12) gNil)))) (tt := tYes) rfl sc_law_matrix.nd rfl rfl (sw_true rfl rfl rfl (by decide +kernel)) (pi_zip (by rfl) B.zip_ (pa_cons (pv 8) (pa_cons (pv 10) pa_nil))) (blkOk_by (own := [("_law_a", 11), ("_law_b", 12)]) (N := ["_law_pen_here", "_law_many", "_law_wide", "_law_most", "_law_rows", "_law_k", "_law_row", "_law_j", "_law_one", "_law_by", "_law_other", "_law_a", "_law_b"]) (sc := defScope st_law_matrix) (by decide +kernel)) (fun _ _ _ _ _ => (pg_tup rfl (pgs_cons (pg_name (i := 11) sc_law_matrix.nd rfl (Or.inl rfl)) (pgs_cons (pg_name (i := 12) sc_law_matrix.nd rfl (Or.inl rfl)) pgs_nil)))) (fun _ _ _ _ _ => pts_nil) (fun _ _ _ _ _ => (pe_op op_add (pe_op op_mulW (pv 9) (pv 11)) (pv 12)))))) pss_nil)
    (pss_one (ps_expr (pe_bm PySem.F.plainAttrs_list PySem.F.slot_list_append PySem.F.type_list_append mt_append (pv 4) (pa_cons (pv 6) pa_nil))))))))
    (pss_one (ps_ret (pv 4))))), ?_⟩
    obtain ⟨p, c, m, k, n, mo, rfl, P, hm, hk, hn, mo1, mo20, q⟩ := h
    refine ⟨(by show 0 ≤ sizeLine; decide), fun w hw => ?_⟩
    obtain ⟨pw, cw⟩ := pen_ne7 P hw
    have n1 := AL.Same.new (o := .lst []) hw
    refine ⟨_, rfl, _, rfl, by omega, by omega, for_range (lo := 0) (n := ((k : Int)).toNat) (fun i σ H' => ∃ v5 v6 v8 v9 v10 : Option V, σ = [some (.ref p), some (.int (k : Int)), some (.int (n : Int)), some (.int (mo : Int)), some (.ref w), v5, v6, none, v8, v9, v10, none, none] ∧ Pen H' p c (m + 14 * i) ∧ Keep p H H' ∧ ∃ (as : List Addr) (M : List Rw), H' w = some (.lst (as.map V.ref)) ∧ Paired (fun a r => a ≠ w ∧ H' a = some (.lst (r.map V.int))) as M ∧ M.length = i ∧ ∀ r ∈ M, r.length = n ∧ ∀ v ∈ r, v.natAbs ≤ mo * 3 ^ i) ⟨none, none, none, none, none, rfl, P.same n1, same_k7 n1, [], [], upd_same, .nil, rfl, (fun r hr => nomatch hr)⟩ ?_ ?_⟩
    · rintro i σ H1 hi ⟨v5, v6, v8, v9, v10, rfl, P1, k1, as, M, hw1, pr1, lM, bM⟩
      rw [Int.toNat_natCast] at hi
      have las := prd_len pr1
      refine ⟨_, rfl, _, rfl, by omega, by omega, fun D hD => ?_⟩
      obtain ⟨pD, cD⟩ := pen_ne7 P1 hD
      have nD := AL.Same.new (o := .lst []) hD
      refine lc_range (lo := 0) (n := ((n : Int)).toNat) (fun i2 H' => Pen H' p c (m + 14 * i + i2) ∧ Keep p H1 H' ∧ ∃ rs : List Int, H' D = some (.lst (rs.map V.int)) ∧ rs.length = i2 ∧ ∀ x ∈ rs, x.natAbs ≤ mo) ⟨P1.same nD, same_k7 nD, [], upd_same, rfl, (fun r hr => nomatch hr)⟩ ?_ ?_
      · rintro i2 H3 hi2 ⟨P3, k3, rs, he, le, be⟩
        rw [Int.toNat_natCast] at hi2
        refine ⟨rfl, ?_⟩
        refine ⟨_, rfl, _, rfl, _, _, rfl, rfl, wide_mul (a := 60) (b := 60) (by decide) (by omega) (by decide) (by decide) (by decide), _, _, rfl, rfl, p, c, _, (2 * (mo : Int) + 1), rfl, P3, by omega, by omega, by omega, fun v H4 v0 v1 P4 k4 => ⟨_, rfl, _, _, rfl, rfl, ?_⟩⟩
        refine ⟨_, k4.at P3 he (fun _ z => nomatch z), ?_, (pen_upd7 P4 pD cD).mono (by omega), keep_upd7 (k3.trans k4) hD, rs ++ [v - (mo : Int)], ?_, ?_, ?_⟩
        · rw [List.length_map, le]; exact Nat.lt_of_lt_of_le (by omega : i2 < 9) (by decide)
        · rw [upd_same, List.map_append]; rfl
        · rw [List.length_append, le]; rfl
        · intro z hz
          rcases List.mem_append.mp hz with hz | hz
          · exact be z hz
          · rw [List.mem_singleton] at hz
            omega
      rintro H3 ⟨P3, k3, rs, he, le, be⟩
      rw [Int.toNat_natCast] at P3 le
      have hw3 := k3.at P1 hw1 (fun _ z => nomatch z)
      have pr3 : Paired (fun a r => a ≠ w ∧ H3 a = some (.lst (r.map V.int))) as M := paired_mono pr1 fun _ _ z => ⟨z.1, k3.at P1 z.2 (fun _ z => nomatch z)⟩
      have K3 := k1.trans k3
      have Dw : D ≠ w := fun z => by rw [z, hw1] at hD; cases hD
      clear k3 nD hw1 pr1 P1 k1
      refine ⟨fun σ' H' => ∃ (D : Addr) (rs : List Int), σ' = [some (.ref p), some (.int (k : Int)), some (.int (n : Int)), some (.int (mo : Int)), some (.ref w), some (.int (0 + (i : Int))), some (.ref D), none, v8, v9, v10, none, none] ∧ Pen H' p c (m + 14 * i + 9) ∧ Keep p H H' ∧ H' w = some (.lst (as.map V.ref)) ∧ Paired (fun a (r : Rw) => a ≠ w ∧ H' a = some (.lst (r.map V.int))) as M ∧ D ≠ w ∧ H' D = some (.lst (rs.map V.int)) ∧ rs.length = n ∧ ∀ x ∈ rs, x.natAbs ≤ mo, ?_, ?_⟩
      · refine ⟨_, rfl, p, c, _, (3 : Int), rfl, P3, by omega, by decide, by decide, fun v H4 v0 v1 P4 k4 => ⟨rfl, _, rfl, ?_⟩⟩
        have hw4 := k4.at P3 hw3 (fun _ z => nomatch z)
        have pr4 : Paired (fun a (r : Rw) => a ≠ w ∧ H4 a = some (.lst (r.map V.int))) as M := paired_mono pr3 fun _ _ z => ⟨z.1, k4.at P3 z.2 (fun _ z => nomatch z)⟩
        have he4 := k4.at P3 he (fun _ z => nomatch z)
        refine ite2 (fun _ => ?_) (fun _ => ?_)
        · refine ⟨_, rfl, D, rfl, ⟨_, SqL.of he4⟩, fun D2 hD2 => ?_⟩
          obtain ⟨pD2, cD2⟩ := pen_ne7 P4 hD2
          have nD2 := AL.Same.new (o := .lst []) hD2
          refine lc_list (K := K) (a := D) (xs := rs.map V.int) (fun i1 H' => Pen H' p c (m + 14 * i + 5 + i1) ∧ Keep p H4 H' ∧ ∃ qs : List Int, H' D2 = some (.lst (qs.map V.int)) ∧ qs.length = i1 ∧ ∀ x ∈ qs, x.natAbs ≤ mo) ⟨(P4.same nD2).mono (by omega), same_k7 nD2, [], upd_same, rfl, (fun r hr => nomatch hr)⟩ (fun i H' _ hh => SqL.of (hh.2.1.at P4 he4 (fun _ z => nomatch z))) ?_ ?_
          · rintro i1 x H5 hx ⟨P5, k5, qs, hq5, lq, bq⟩
            obtain ⟨z, hz, rfl⟩ := map_int hx
            have i1l := (List.getElem?_eq_some_iff.mp hz).1
            have zb := be z (List.mem_of_getElem? hz)
            refine ⟨rfl, ?_⟩
            refine ⟨_, rfl, p, c, _, (2 : Int), rfl, P5, by omega, by decide, by decide, fun v H6 v0 v1 P6 k6 => ⟨rfl, _, rfl, ?_⟩⟩
            have put : ∀ y : Int, y.natAbs ≤ mo → ∃ acc, H6 D2 = some (.lst acc) ∧ acc.length < sizeLine ∧ Pen (upd H6 D2 (.lst (acc ++ [.int y]))) p c (m + 14 * i + 5 + (i1 + 1)) ∧ Keep p H4 (upd H6 D2 (.lst (acc ++ [.int y]))) ∧ ∃ qs : List Int, upd H6 D2 (.lst (acc ++ [.int y])) D2 = some (.lst (qs.map V.int)) ∧ qs.length = i1 + 1 ∧ ∀ x ∈ qs, x.natAbs ≤ mo := fun y hy => by
              refine ⟨_, k6.at P5 hq5 (fun _ z => nomatch z), ?_, (pen_upd7 P6 pD2 cD2).mono (by omega), keep_upd7 (k5.trans k6) hD2, qs ++ [y], ?_, ?_, ?_⟩
              · rw [List.length_map, lq]; exact Nat.lt_of_lt_of_le (by omega : i1 < 9) (by decide)
              · rw [upd_same, List.map_append]; rfl
              · rw [List.length_append, lq]; rfl
              · intro z hz
                rcases List.mem_append.mp hz with hz | hz
                · exact bq z hz
                · rw [List.mem_singleton.mp hz]; exact hy
            refine ite2 (fun _ => ?_) (fun _ => ?_)
            · exact ⟨_, rfl, put z zb⟩
            · exact put 0 (Nat.zero_le _)
          rintro H5 ⟨P5, k5, qs, hq5, lq, bq⟩
          rw [List.length_map, le] at P5 lq
          have hw5 := k5.at P4 hw4 (fun _ z => nomatch z)
          exact ⟨D2, qs, rfl, P5.mono (by omega), K3.trans (k4.trans k5), hw5, paired_mono pr4 fun _ _ z => ⟨z.1, k5.at P4 z.2 (fun _ z => nomatch z)⟩, (fun z => by rw [z, hw4] at hD2; cases hD2), hq5, lq, bq⟩
        · exact ⟨D, rs, rfl, P4.mono (by omega), K3.trans k4, hw4, pr4, Dw, he4, le, be⟩
      clear hw3 pr3 he le be P3 Dw K3 pD cD hD
      rintro σ' H3 ⟨D, rs, rfl, P3, K3, hw3, pr3, Dw, he, le, be⟩
      have bi : ∀ x ∈ rs, x.natAbs ≤ mo * 3 ^ (i + 1) := fun x hx => Nat.le_trans (be x hx) (Nat.le_mul_of_pos_right _ (Nat.pow_pos (by decide)))
      refine ⟨fun σ' H' => ∃ (v8 v9 v10 : Option V) (D : Addr) (rs : List Int), σ' = [some (.ref p), some (.int (k : Int)), some (.int (n : Int)), some (.int (mo : Int)), some (.ref w), some (.int (0 + (i : Int))), some (.ref D), none, v8, v9, v10, none, none] ∧ Pen H' p c (m + 14 * i + 13) ∧ Keep p H H' ∧ H' w = some (.lst (as.map V.ref)) ∧ Paired (fun a (r : Rw) => a ≠ w ∧ H' a = some (.lst (r.map V.int))) as M ∧ D ≠ w ∧ H' D = some (.lst (rs.map V.int)) ∧ rs.length = n ∧ ∀ x ∈ rs, x.natAbs ≤ mo * 3 ^ (i + 1), ?_, ?_⟩
      · refine ⟨_, rfl, _, _, rfl, rfl, _, rfl, ?_⟩
        by_cases ci : i = 0
        · rw [decide_eq_false (by omega : ¬ (0 + (i : Int)) > 0)]
          refine iteF ?_
          refine iteF ?_
          exact ⟨_, _, _, D, rs, rfl, P3.mono (by omega), K3, hw3, pr3, Dw, he, le, bi⟩
        rw [decide_eq_true (by omega : (0 + (i : Int)) > 0)]
        refine iteT ?_
        refine ⟨_, rfl, p, c, _, (4 : Int), rfl, P3, by omega, by decide, by decide, fun v H4 v0 v1 P4 k4 => ⟨rfl, _, rfl, ?_⟩⟩
        have hw4 := k4.at P3 hw3 (fun _ z => nomatch z)
        have pr4 : Paired (fun a (r : Rw) => a ≠ w ∧ H4 a = some (.lst (r.map V.int))) as M := paired_mono pr3 fun _ _ z => ⟨z.1, k4.at P3 z.2 (fun _ z => nomatch z)⟩
        refine ite2 (fun _ => ?_) (fun _ => ?_)
        · refine ⟨_, rfl, p, c, _, (5 : Int), rfl, P4, by omega, by decide, by decide, fun by0 H5 b0 b1 P5 k5 => ⟨_, _, rfl, rfl, ?_⟩⟩
          have hw5 := k5.at P4 hw4 (fun _ z => nomatch z)
          refine ⟨_, rfl, _, rfl, p, c, w, _, _, rfl, P5, by omega, SqL.of hw5, by rw [List.length_map]; omega, by rw [List.length_map]; omega, fun j1 x1 H6 hx1 P6 k6 => ?_⟩
          have hw6 := k6.at P5 hw5 (fun _ z => nomatch z)
          refine ⟨_, rfl, _, rfl, p, c, w, _, _, rfl, P6, by omega, SqL.of hw6, by rw [List.length_map]; omega, by rw [List.length_map]; omega, fun j2 x2 H7 hx2 P7 k7 => ?_⟩
          obtain ⟨a1, ha1, rfl⟩ := map_ref hx1
          obtain ⟨a2, ha2, rfl⟩ := map_ref hx2
          have k47 := k5.trans (k6.trans k7)
          have hw7 := k7.at P6 hw6 (fun _ z => nomatch z)
          have pr7 : Paired (fun a (r : Rw) => a ≠ w ∧ H7 a = some (.lst (r.map V.int))) as M := paired_mono pr4 fun _ _ z => ⟨z.1, k47.at P4 z.2 (fun _ z => nomatch z)⟩
          obtain ⟨r1, hr1, h1⟩ := prd_get pr7 ha1
          obtain ⟨r2, hr2, h2⟩ := prd_get pr7 ha2
          have m1 := bM r1 (List.mem_of_getElem? hr1)
          have m2 := bM r2 (List.mem_of_getElem? hr2)
          refine ⟨(by show 3 ≤ sizeLine; decide), fun T hT => ?_⟩
          have nT := AL.Same.new (o := .tup [.int (by0 - 2), .ref a1, .ref a2]) hT
          have h17 := nT _ _ h1.2
          have h27 := nT _ _ h2.2
          have hw8 := nT _ _ hw7
          refine ⟨T, _, rfl, SqT.of upd_same, rfl, _, _, rfl, _, _, rfl, _, _, rfl, rfl, ?_⟩
          refine ⟨_, rfl, _, rfl, a1, a2, _, _, rfl, SqL.of h17, SqL.of h27, fun D2 hD2 => ?_⟩
          have P8 := P7.same nT
          have K8 := (K3.trans (k4.trans k47)).trans (same_k7 nT)
          have pr8 : Paired (fun a (r : Rw) => a ≠ w ∧ upd H7 T (.tup [.int (by0 - 2), .ref a1, .ref a2]) a = some (.lst (r.map V.int))) as M := paired_mono pr7 fun _ _ z => ⟨z.1, nT _ _ z.2⟩
          have hT8 : upd H7 T (.tup [.int (by0 - 2), .ref a1, .ref a2]) = upd H7 T (.tup [(fun i j => V.int (i - j)) by0 2, .ref a1, .ref a2]) := rfl
          rw [← hT8]
          rw [← hT8] at hD2
          clear hT8
          generalize upd H7 T (.tup [.int (by0 - 2), .ref a1, .ref a2]) = H8 at h17 h27 hw8 P8 K8 pr8 hD2 ⊢
          have Dw2 : D2 ≠ w := fun z => by rw [z, hw8] at hD2; cases hD2
          refine lc_it (walk_zip (K := K) (a := a1) (b := a2) (xs := r1.map V.int) (ys := r2.map V.int) (n := n) (by rw [List.length_map, List.length_map, m1.1, m2.1, Nat.min_self])) (fun i H' => Same H8 H' ∧ H' D2 = some (.lst (((List.zipWith (fun u v => (by0 - 2) * u + v) r1 r2).take i).map V.int))) ⟨AL.Same.new hD2, upd_same⟩ (fun i H' _ hh => ⟨SqL.of (hh.1 _ _ h17), SqL.of (hh.1 _ _ h27)⟩) ?_ ?_
          · rintro i1 x0 H9 H10 hi1 ⟨s9, hd9⟩ ⟨T0, u1, u2, rfl, hT0, rfl, e1, e2⟩
            obtain ⟨z1, c1, rfl⟩ := map_int e1
            obtain ⟨z2, c2, rfl⟩ := map_int e2
            have hDT : D2 ≠ T0 := fun z => by rw [z, hT0] at hd9; cases hd9
            have sT : Same H8 (upd H9 T0 (.tup [.int z1, .int z2])) := s9.trans (AL.Same.new hT0)
            have b1 : z1.natAbs < 2 ^ 60 := by
              have w1 := m1.2 z1 (List.mem_of_getElem? c1)
              have w2 : 3 ^ i ≤ 3 ^ 6 := Nat.pow_le_pow_right (by decide) (by omega)
              have w3 : 20 * 3 ^ 6 < 2 ^ 60 := by decide
              have w4 : mo * 3 ^ i ≤ 20 * 3 ^ 6 := Nat.mul_le_mul mo20 w2
              omega
            refine ⟨T0, _, rfl, SqT.of upd_same, rfl, _, _, rfl, _, _, rfl, rfl, rfl, ?_⟩
            refine ⟨_, rfl, _, rfl, _, _, rfl, rfl, wide_mul (a := 60) (b := 60) (by omega) b1 (by decide) (by decide) (by decide), _, rfl, _, _, rfl, rfl, _, Eq.trans (upd_ne hDT) hd9, ?_, AL.Same.updn sT hD2, ?_⟩
            · rw [List.length_map, List.length_take, List.length_zipWith]
              exact Nat.lt_of_le_of_lt (by rw [m1.1]; omega : _ ≤ 100) (by decide)
            · have g : (List.zipWith (fun u v => (by0 - 2) * u + v) r1 r2)[i1]? = some ((by0 - 2) * z1 + z2) := by rw [List.getElem?_zipWith, c1, c2]
              rw [upd_same, List.take_add_one, g, List.map_append]
              rfl
          rintro H9 ⟨s9, hd9⟩
          rw [List.take_of_length_le (by rw [List.length_zipWith, m1.1]; omega)] at hd9
          refine ⟨_, _, _, D2, _, rfl, (P8.same s9).mono (by omega), K8.trans (same_k7 s9), s9 _ _ hw8, paired_mono pr8 fun _ _ z => ⟨z.1, s9 _ _ z.2⟩, Dw2, hd9, by rw [List.length_zipWith, m1.1, m2.1, Nat.min_self], fun x hx => ?_⟩
          obtain ⟨t, ht⟩ := List.mem_iff_getElem?.mp hx
          rw [List.getElem?_zipWith] at ht
          cases e1 : r1[t]? with
          | none => rw [e1] at ht; cases ht
          | some u =>
            cases e2 : r2[t]? with
            | none => rw [e1, e2] at ht; cases ht
            | some v =>
              rw [e1, e2] at ht
              have w0 : x = (by0 - 2) * u + v := (Option.some.inj ht).symm
              have w1 := m1.2 u (List.mem_of_getElem? e1)
              have w2 := m2.2 v (List.mem_of_getElem? e2)
              have w3 : ((by0 - 2) * u).natAbs ≤ 2 * (mo * 3 ^ i) := by rw [Int.natAbs_mul]; exact Nat.mul_le_mul (by omega) w1
              have e3 : mo * 3 ^ (i + 1) = 3 * (mo * 3 ^ i) := by rw [Nat.pow_succ]; grind
              rw [w0, e3]
              omega
        · exact ⟨_, _, _, D, rs, rfl, P4.mono (by omega), K3.trans k4, hw4, pr4, Dw, k4.at P3 he (fun _ z => nomatch z), le, bi⟩
      clear hw3 pr3 he le be bi P3 Dw K3
      rintro σ' H3 ⟨v8, v9, v10, D, rs, rfl, P3, K3, hw3, pr3, Dw, he, le, be⟩
      obtain ⟨r1, r2⟩ := rowsZ_snoc hw3 pr3 Dw (r := rs) he
      refine ⟨_, rfl, .inl ⟨rfl, _, SqL.of hw3⟩, _, rfl, w, _, _, rfl, rfl, hw3, ?_, ?_⟩
      · rw [List.length_map, las, lM]; exact Nat.lt_of_le_of_lt (by omega : _ ≤ 1000) (by decide)
      refine ⟨_, _, _, _, _, rfl, (pen_upd7 P3 pw cw).mono (by omega), keep_upd7 K3 hw, as ++ [D], M ++ [rs], r1, r2, by rw [List.length_append, lM]; rfl, fun r hr => ?_⟩
      rcases List.mem_append.mp hr with h | h
      · refine ⟨(bM r h).1, fun v hv => Nat.le_trans ((bM r h).2 v hv) ?_⟩
        have e3 : mo * 3 ^ (i + 1) = 3 * (mo * 3 ^ i) := by rw [Nat.pow_succ]; grind
        rw [e3]; omega
      · rw [List.mem_singleton.mp h]; exact ⟨le, be⟩
    · rintro σ H2 ⟨v5, v6, v8, v9, v10, rfl, P2, k2, as, M, hw2, pr2, lM, bM⟩
      rw [Int.toNat_natCast] at P2 lM bM
      exact ⟨_, rfl, q w H2 M P2 k2 ⟨as, hw2, paired_mono pr2 fun _ _ z => z.2⟩ lM bM⟩
end
end AL
set_option Elab.async false
set_option maxRecDepth 100000
set_option exponentiation.threshold 70000
set_option maxHeartbeats 1000000
namespace AL
open PySem PySem.Spec PyProof.Rows L2 RZ
section
variable {P : Program} {w : World} {K : PySem.W.Frag} {mg : Str → Option Value} {base : Heap}
/-- rows that are a basis of all whole rows -/
structure Uni (n e : Nat) (U : List Rw) : Prop where
  len : U.length = n
  rl : ∀ r ∈ U, r.length = n
  bd : ∀ r ∈ U, ∀ v ∈ r, v.natAbs ≤ e
  du : ∃ D : Nat → Nat → Int, ∀ i, i < n → ∀ j, j < n → sm n (fun t => D i t * vl (U.getD j []) t) = if i = j then 1 else 0
theorem idM_getD {n j : Nat} (hj : j < n) : (idM n).getD j [] = unitR n j := by
  unfold idM
  rw [List.getD_eq_getElem?_getD, List.getElem?_map, List.getElem?_range hj]; rfl
theorem set_getD {U : List Rw} {j i : Nat} {x : Rw} (hj : j < U.length) : (U.set j x).getD i [] = if i = j then x else U.getD i [] := by
  rw [List.getD_eq_getElem?_getD, List.getD_eq_getElem?_getD, List.getElem?_set]
  by_cases e : j = i
  · subst e; rw [if_pos rfl, if_pos hj, if_pos rfl]; rfl
  · rw [if_neg e, if_neg (fun z => e z.symm)]
theorem uni_id (n : Nat) : Uni n 1 (idM n) := by
  refine ⟨idM_len n, fun r hr => ?_, fun r hr v hv => ?_, fun i t => if t = i then 1 else 0, fun i hi j hj => ?_⟩
  · unfold idM at hr
    obtain ⟨k, _, rfl⟩ := List.mem_map.mp hr
    exact unitR_len n k
  · unfold idM at hr
    obtain ⟨k, _, rfl⟩ := List.mem_map.mp hr
    unfold unitR at hv
    obtain ⟨t, _, rfl⟩ := List.mem_map.mp hv
    split <;> decide
  · rw [sm_one (k := i) hi fun t ht ne => by dsimp only; rw [if_neg ne]; grind]
    dsimp only
    rw [if_pos rfl, idM_getD hj, unitR_vl hi]
    grind
theorem getD_mem {U : List Rw} {j : Nat} (h : j < U.length) : U.getD j [] ∈ U := by
  rw [List.getD_eq_getElem?_getD, List.getElem?_eq_getElem h]; exact List.getElem_mem h
theorem uni_neg {n e : Nat} {U : List Rw} (u : Uni n e U) {j : Nat} (hj : j < n) : Uni n e (U.set j ((U.getD j []).map fun v => -v)) := by
  have jl : j < U.length := by rw [u.len]; exact hj
  have m := getD_mem jl
  obtain ⟨D, hD⟩ := u.du
  refine ⟨by rw [List.length_set, u.len], fun r hr => ?_, fun r hr v hv => ?_, fun i t => if i = j then -(D i t) else D i t, fun i hi k hk => ?_⟩
  · rcases List.mem_or_eq_of_mem_set hr with h | rfl
    · exact u.rl r h
    · rw [List.length_map]; exact u.rl _ m
  · rcases List.mem_or_eq_of_mem_set hr with h | rfl
    · exact u.bd r h v hv
    · obtain ⟨x, hx, rfl⟩ := List.mem_map.mp hv
      rw [Int.natAbs_neg]; exact u.bd _ m x hx
  · have h0 := hD i hi k hk
    rw [set_getD jl]
    by_cases c1 : i = j
    · by_cases c2 : k = j
      · rw [sm_congr (g := fun t => D i t * vl (U.getD k []) t) fun t _ => by dsimp only; rw [if_pos c1, if_pos c2, vl_map (by rfl), c2]; grind]
        exact h0
      · rw [sm_congr (g := fun t => (-1) * (D i t * vl (U.getD k []) t) + 0 * (D i t * vl (U.getD k []) t)) fun t _ => by dsimp only; rw [if_pos c1, if_neg c2]; grind, sm_lin, h0, if_neg (by omega)]
        rfl
    · by_cases c2 : k = j
      · rw [sm_congr (g := fun t => (-1) * (D i t * vl (U.getD k []) t) + 0 * (D i t * vl (U.getD k []) t)) fun t _ => by dsimp only; rw [if_neg c1, if_pos c2, vl_map (by rfl), c2]; grind, sm_lin, h0, if_neg (by omega)]
        rfl
      · rw [sm_congr (g := fun t => D i t * vl (U.getD k []) t) fun t _ => by dsimp only; rw [if_neg c1, if_neg c2]]
        exact h0
def addR (x : Rw) (b : Int) (y : Rw) : Rw := List.zipWith (fun u v => u + b * v) x y
theorem addR_len {x y : Rw} {b : Int} (h : x.length = y.length) : (addR x b y).length = x.length := by unfold addR; rw [List.length_zipWith, h, Nat.min_self]
theorem addR_vl {x y : Rw} {b : Int} (h : x.length = y.length) (j : Nat) : vl (addR x b y) j = vl x j + b * vl y j := by
  have e : addR x b y = comb 1 x b y := by unfold addR comb; congr 1; funext u v; grind
  rw [e, comb_vl h]; grind
theorem addR_bd {x y : Rw} {b : Int} {e f : Nat} (h : x.length = y.length) (hx : ∀ v ∈ x, v.natAbs ≤ e) (hy : ∀ v ∈ y, v.natAbs ≤ f) (hb : b.natAbs ≤ 3) : ∀ v ∈ addR x b y, v.natAbs ≤ e + 3 * f := fun v hv => by
  obtain ⟨j, hj⟩ := List.mem_iff_getElem?.mp hv
  have jl := (List.getElem?_eq_some_iff.mp hj).1
  rw [addR_len h] at jl
  have e1 := addR_vl (b := b) h j
  rw [vl_get hj] at e1
  have h1 := hx _ (vl_mem jl)
  have h2 := hy _ (vl_mem (j := j) (by omega))
  rw [e1]
  have h3 : (b * vl y j).natAbs ≤ 3 * f := by rw [Int.natAbs_mul]; exact Nat.mul_le_mul hb h2
  omega
theorem uni_add {n e : Nat} {U : List Rw} (u : Uni n e U) {j k : Nat} (hj : j < n) (hk : k < n) (ne : j ≠ k) {b : Int} (hb : b.natAbs ≤ 3) : Uni n (4 * e) (U.set j (addR (U.getD j []) b (U.getD k []))) := by
  have jl : j < U.length := by rw [u.len]; exact hj
  have kl : k < U.length := by rw [u.len]; exact hk
  have mj := getD_mem jl
  have mk := getD_mem kl
  have le : (U.getD j []).length = (U.getD k []).length := by rw [u.rl _ mj, u.rl _ mk]
  obtain ⟨D, hD⟩ := u.du
  refine ⟨by rw [List.length_set, u.len], fun r hr => ?_, fun r hr v hv => ?_, fun i t => if i = k then D k t + (-b) * D j t else D i t, fun i hi l hl => ?_⟩
  · rcases List.mem_or_eq_of_mem_set hr with h | rfl
    · exact u.rl r h
    · rw [addR_len le]; exact u.rl _ mj
  · rcases List.mem_or_eq_of_mem_set hr with h | rfl
    · have := u.bd r h v hv; omega
    · have := addR_bd le (u.bd _ mj) (u.bd _ mk) hb v hv
      omega
  · rw [set_getD jl]
    have hij := hD i hi j hj
    have hik := hD i hi k hk
    have hil := hD i hi l hl
    have hjl := hD j hj l hl
    have hjk := hD j hj k hk
    have hjj := hD j hj j hj
    rw [if_pos rfl] at hjj
    rw [if_neg ne] at hjk
    by_cases c2 : l = j
    · by_cases c1 : i = k
      · have e1 : sm n (fun t => (if i = k then D k t + (-b) * D j t else D i t) * vl (if l = j then addR (U.getD j []) b (U.getD k []) else U.getD l []) t) = sm n (fun t => 1 * (1 * (D i t * vl (U.getD j []) t) + b * (D i t * vl (U.getD k []) t)) + (-b) * (1 * (D j t * vl (U.getD j []) t) + b * (D j t * vl (U.getD k []) t))) := sm_congr fun t _ => by
          rw [if_pos c1, if_pos c2, addR_vl le, c1]; grind
        rw [e1, sm_lin, sm_lin, sm_lin, hij, hik, hjj, hjk, if_pos c1]
        rw [if_neg (by omega), if_neg (by omega)]; grind
      · have e1 : sm n (fun t => (if i = k then D k t + (-b) * D j t else D i t) * vl (if l = j then addR (U.getD j []) b (U.getD k []) else U.getD l []) t) = sm n (fun t => 1 * (D i t * vl (U.getD j []) t) + b * (D i t * vl (U.getD k []) t)) := sm_congr fun t _ => by
          rw [if_neg c1, if_pos c2, addR_vl le]; grind
        rw [e1, sm_lin, hij, hik, if_neg c1, c2]; grind
    · by_cases c1 : i = k
      · have e1 : sm n (fun t => (if i = k then D k t + (-b) * D j t else D i t) * vl (if l = j then addR (U.getD j []) b (U.getD k []) else U.getD l []) t) = sm n (fun t => 1 * (D i t * vl (U.getD l []) t) + (-b) * (D j t * vl (U.getD l []) t)) := sm_congr fun t _ => by
          rw [if_pos c1, if_neg c2, c1]; grind
        rw [e1, sm_lin, hil, hjl, if_neg (show ¬ j = l from fun z => c2 z.symm)]; grind
      · have e1 : sm n (fun t => (if i = k then D k t + (-b) * D j t else D i t) * vl (if l = j then addR (U.getD j []) b (U.getD k []) else U.getD l []) t) = sm n (fun t => D i t * vl (U.getD l []) t) := sm_congr fun t _ => by
          rw [if_neg c1, if_neg c2]
        rw [e1, hil]
/-- _law_unimodular(pen, many, steps) -/
def spUm : Sp := fun vs H Q _ => ∃ (p c : Addr) (m n s : Nat), vs = [.ref p, .int (n : Int), .int (s : Int)] ∧ Pen H p c m ∧ m < 700000000 ∧ 1 ≤ n ∧ n ≤ 20 ∧ s ≤ 10 ∧
  ∀ w H' U, Pen H' p c (m + 3 * s) → Keep p H H' → RowsZ H' w U → Uni n (4 ^ s) U → Q (.ref w) H'

abbrev st_law_unimodular : Stmt := top 37
theorem sc_law_unimodular : FnScope ["_law_pen_here", "_law_many", "_law_steps", "_law_rows", "_law_lap", "_law_j", "_law_k", "_law_one", "_law_by", "_law_two"] ["_law_pen_here", "_law_many", "_law_steps"] (defScope st_law_unimodular) := ⟨rfl, rfl, rfl, by decide +kernel, rfl, by decide +kernel, by decide +kernel⟩
theorem ok_law_unimodular (B : Blt mg)  {f_law_draw : Addr} {fd_law_draw : FuncData} (D_law_draw : DefAt K mg "_law_draw" st_law_draw ["_law_pen_here", "_law_many"] f_law_draw fd_law_draw) {f_law_pick : Addr} {fd_law_pick : FuncData} (D_law_pick : DefAt K mg "_law_pick" st_law_pick ["_law_pen_here", "_law_some"] f_law_pick fd_law_pick) {f_law_unit : Addr} {fd_law_unit : FuncData} (D_law_unit : DefAt K mg "_law_unit" st_law_unit ["_law_many"] f_law_unit fd_law_unit) {f_law_unimodular : Addr} {fd_law_unimodular : FuncData} (D_law_unimodular : DefAt K mg "_law_unimodular" st_law_unimodular ["_law_pen_here", "_law_many", "_law_steps"] f_law_unimodular fd_law_unimodular) : FnOk P w K mg base CX0 3 f_law_unimodular fd_law_unimodular ["_law_pen_here", "_law_many", "_law_steps"] spUm := by
  have OK_law_draw : FnOk P w K mg base CX0 1 f_law_draw fd_law_draw ["_law_pen_here", "_law_many"] spDraw := ok_law_draw B  D_law_draw
  have OK_law_pick : FnOk P w K mg base CX0 2 f_law_pick fd_law_pick ["_law_pen_here", "_law_some"] (spPick K) := ok_law_pick B  D_law_draw D_law_pick
  have OK_law_unit : FnOk P w K mg base CX0 1 f_law_unit fd_law_unit ["_law_many"] spId := ok_law_unit B  D_law_unit
  refine D_law_unimodular.F.ok sc_law_unimodular (fun vs H Q E h => ?_) (fun cdv A outer s H vs Q E hr h => ?_)
  · obtain ⟨p, c, m, n, s, rfl, _⟩ := h; rfl
  · have hu := hu_of hr
    refine ⟨_, (pss_cons (ps_set (i := 3) sc_law_unimodular.nd rfl (Or.inl rfl) (pe_call OK_law_unit (hr.mono (by decide)) rfl D_law_unit.m D_law_unit.F.kp D_law_unit.b .nil pass0 (pa_cons (pv 1) pa_nil)))
    (pss_cons (ps_for PassesOwn.never rfl (pi_range1 rfl B.range_ (pa_cons (pe_ifExp (pt_cmpR op_gt (pv 1) pe_int (nomark _)) (pv 2) pe_int) pa_nil)) (pg_name (i := 4) sc_law_unimodular.nd rfl (Or.inl rfl))
      (pss_cons (ps_par (i := 5) (j := 6) (by rfl) sc_law_unimodular.nd rfl rfl (by decide) rfl rfl (pa_cons (pe_call OK_law_draw (hr.mono (by decide)) rfl D_law_draw.m D_law_draw.F.kp D_law_draw.b .nil pass0 (pa_cons (pv 0) (pa_cons (pv 1) pa_nil))) (pa_cons (pe_call OK_law_draw (hr.mono (by decide)) rfl D_law_draw.m D_law_draw.F.kp D_law_draw.b .nil pass0 (pa_cons (pv 0) (pa_cons (pv 1) pa_nil))) pa_nil)) (by rfl))
    (pss_one (ps_if (pt_cmpR op_eq (pv 5) (pv 6) (nomark _)) (pss_one (ps_asg (pe_lc (own := [("_law_one", 7)]) (g := gName 7) (tt := tYes) rfl sc_law_unimodular.nd (pi_list (pe_ix (ix_list : IxR _ (rIxL K)) (pv 3) (pv 5) (fun _ _ => rfl))) (blkOk_by (own := [("_law_one", 7)]) (N := ["_law_pen_here", "_law_many", "_law_steps", "_law_rows", "_law_lap", "_law_j", "_law_k", "_law_one", "_law_by", "_law_two"]) (sc := defScope st_law_unimodular) (by decide +kernel)) (fun _ _ _ _ _ => (pg_name (i := 7) sc_law_unimodular.nd rfl (Or.inl rfl))) (fun _ _ _ _ _ => pts_nil) (fun _ _ _ _ _ => (pe_un un_neg (pv 7)))) (pg_sub (pv 3) (pv 5) set_list))) (pss_cons (ps_set (i := 8) sc_law_unimodular.nd rfl (Or.inr rfl) (pe_call OK_law_pick (hr.mono (by decide)) rfl D_law_pick.m D_law_pick.F.kp D_law_pick.b .nil pass0 (pa_cons (pv 0) (pa_cons (pe_lst (pa_cons pe_int (pa_cons (pe_un un_neg pe_int) (pa_cons pe_int (pa_cons (pe_un un_neg pe_int) pa_nil))))) pa_nil))))
    (pss_one (ps_asg (pe_lc (own := [("_law_one", 7), ("_law_two", 9)]) (g := (gTup K 2 (gCons (gName 7) (gCons (gName 9) gNil)))) (tt := tYes) rfl sc_law_unimodular.nd (pi_zip (by rfl) B.zip_ (pa_cons (pe_ix (ix_list : IxR _ (rIxL K)) (pv 3) (pv 5) (fun _ _ => rfl)) (pa_cons (pe_ix (ix_list : IxR _ (rIxL K)) (pv 3) (pv 6) (fun _ _ => rfl)) pa_nil))) (blkOk_by (own := [("_law_one", 7), ("_law_two", 9)]) (N := ["_law_pen_here", "_law_many", "_law_steps", "_law_rows", "_law_lap", "_law_j", "_law_k", "_law_one", "_law_by", "_law_two"]) (sc := defScope st_law_unimodular) (by decide +kernel)) (fun _ _ _ _ _ => (pg_tup rfl (pgs_cons (pg_name (i := 7) sc_law_unimodular.nd rfl (Or.inl rfl)) (pgs_cons (pg_name (i := 9) sc_law_unimodular.nd rfl (Or.inl rfl)) pgs_nil)))) (fun _ _ _ _ _ => pts_nil) (fun _ _ _ _ _ => (pe_op op_add (pv 7) (pe_op op_mulW (pv 8) (pv 9))))) (pg_sub (pv 3) (pv 5) set_list))))))))
    (pss_one (ps_ret (pv 3))))), ?_⟩
    obtain ⟨p, c, m, n, s, rfl, P, hm, hn, hn2, hs, q⟩ := h
    refine ⟨_, rfl, n, rfl, by omega, fun w H1 hw s1 hI => ?_⟩
    refine ⟨_, rfl, (n : Int), (1 : Int), rfl, rfl, _, rfl, ?_⟩
    
    by_cases n1 : n = 1
    · rw [decide_eq_false (by omega : ¬ (n : Int) > 1)]
      refine iteF ?_
      refine ⟨_, rfl, by decide, by decide, for_range (lo := 0) (n := ((0 : Int)).toNat) (fun i σ H' => σ = [some (.ref p), some (.int (n : Int)), some (.int (s : Int)), some (.ref w), none, none, none, none, none, none] ∧ H' = H1) ⟨rfl, rfl⟩ (fun i σ H2 hi _ => absurd hi (by simp)) ?_⟩
      rintro σ H2 ⟨rfl, rfl⟩
      have u0 := uni_id n
      exact ⟨_, rfl, q w _ _ ((P.same s1).mono (by omega)) (same_k7 s1) hI ⟨u0.len, u0.rl, fun r hr v hv => Nat.le_trans (u0.bd r hr v hv) (Nat.pow_pos (by decide)), u0.du⟩⟩
    rw [decide_eq_true (by omega : (n : Int) > 1)]
    refine iteT ?_
    obtain ⟨as0, hw1, pr1⟩ := hI
    have la0 := prd_len pr1
    rw [idM_len] at la0
    obtain ⟨pw, cw⟩ := pen_ne7 P hw
    refine ⟨_, rfl, _, rfl, by omega, by omega, for_range (lo := 0) (n := ((s : Int)).toNat) (fun i σ H' => ∃ v4 v5 v6 v8 : Option V, σ = [some (.ref p), some (.int (n : Int)), some (.int (s : Int)), some (.ref w), v4, v5, v6, none, v8, none] ∧ Pen H' p c (m + 3 * i) ∧ Keep p H H' ∧ ∃ (as : List Addr) (U : List Rw), H' w = some (.lst (as.map V.ref)) ∧ Paired (fun a r => a ≠ w ∧ H' a = some (.lst (r.map V.int))) as U ∧ Uni n (4 ^ i) U) ⟨none, none, none, none, rfl, (P.same s1).mono (by omega), same_k7 s1, as0, _, hw1, paired_mono pr1 fun a r z => ⟨fun e => ?_, z⟩, uni_id n⟩ ?_ ?_⟩
    · rw [e, hw1] at z
      have z' : as0.map V.ref = r.map V.int := by injection z with z; injection z
      cases as0 with
      | nil => simp at la0; omega
      | cons x _ => cases r with
        | nil => cases z'
        | cons y _ => cases z'
    · rintro i σ H2 hi ⟨v4, v5, v6, v8, rfl, P2, k2, as, U, hw2, pr2, u⟩
      rw [Int.toNat_natCast] at hi
      have las := prd_len pr2
      rw [u.len] at las
      refine ⟨_, rfl, _, rfl, p, c, _, (n : Int), rfl, P2, by omega, by omega, by omega, fun jv H3 j0 j1 P3 k3 => ?_⟩
      refine ⟨_, rfl, _, rfl, p, c, _, (n : Int), rfl, P3, by omega, by omega, by omega, fun kv H4 k0 k1 P4 k4 => ?_⟩
      obtain ⟨j, rfl⟩ : ∃ j : Nat, jv = (j : Int) := ⟨jv.toNat, by omega⟩
      obtain ⟨k, rfl⟩ : ∃ k : Nat, kv = (k : Int) := ⟨kv.toNat, by omega⟩
      have e0 := Keep.at (k3.trans k4) P2 hw2 (fun _ z => nomatch z)
      have pr4 : Paired (fun a r => a ≠ w ∧ H4 a = some (.lst (r.map V.int))) as U := paired_mono pr2 fun a r z => ⟨z.1, Keep.at (k3.trans k4) P2 z.2 (fun _ z => nomatch z)⟩
      have K4 := k2.trans (k3.trans k4)
      refine ⟨_, _, rfl, ?_⟩
      refine ⟨_, rfl, _, rfl, rfl, _, rfl, ?_⟩
      have jn : j < n := by omega
      have kn : k < n := by omega
      have getU : ∀ t, t < n → ∃ a, as[t]? = some a ∧ a ≠ w ∧ H4 a = some (.lst ((U.getD t []).map V.int)) := fun t ht => by
        obtain ⟨r, hr, ha⟩ := prd_get pr4 (List.getElem?_eq_getElem (show t < as.length by omega))
        exact ⟨_, List.getElem?_eq_getElem (by omega), ha.1, by rw [List.getD_eq_getElem?_getD, hr]; exact ha.2⟩
      obtain ⟨aj, haj, ajw, hj⟩ := getU j jn
      obtain ⟨ak, hak, akw, hk⟩ := getU k kn
      have gj : atI (as.map V.ref) ((j : Nat) : Int) = some (.ref aj) := by rw [atI_of (by rw [List.length_map]; omega), List.getElem?_map, haj]; rfl
      have gk : atI (as.map V.ref) ((k : Nat) : Int) = some (.ref ak) := by rw [atI_of (by rw [List.length_map]; omega), List.getElem?_map, hak]; rfl
      have lj : (U.getD j []).length = n := u.rl _ (getD_mem (by rw [u.len]; exact jn))
      have lk : (U.getD k []).length = n := u.rl _ (getD_mem (by rw [u.len]; exact kn))
      by_cases e : j = k
      · rw [decide_eq_true (by rw [e])]
        refine iteT ?_
        refine ⟨_, rfl, _, rfl, w, _, _, _, rfl, rfl, SqL.of e0, gj, aj, rfl, ⟨_, SqL.of hj⟩, fun D hD => ?_⟩
        obtain ⟨pD, cD⟩ := pen_ne7 P4 hD
        refine lc_list (K := K) (a := aj) (xs := (U.getD j []).map V.int) (fun i H' => Same H4 H' ∧ H' D = some (.lst ((((U.getD j []).map fun v => -v).take i).map V.int))) ⟨AL.Same.new hD, upd_same⟩ (fun i H' _ hh => SqL.of (hh.1 _ _ hj)) ?_ ?_
        · rintro i1 x H5 hx ⟨s5, hd5⟩
          obtain ⟨z, hz, rfl⟩ := map_int hx
          have il := (List.getElem?_eq_some_iff.mp hz).1
          refine ⟨rfl, ?_⟩
          refine ⟨_, rfl, _, rfl, _, hd5, ?_, AL.Same.updn s5 hD, ?_⟩
          · rw [List.length_map, List.length_take]; exact Nat.lt_of_le_of_lt (by omega : _ ≤ 1000) (by decide)
          · rw [upd_same, List.take_add_one, List.getElem?_map, hz, List.map_append]; rfl
        rintro H5 ⟨s5, hd5⟩
        rw [List.take_of_length_le (by rw [List.length_map, List.length_map]; exact Nat.le_refl _)] at hd5
        have e5 := s5 _ _ e0
        have Dw : D ≠ w := fun z => by rw [z, e0] at hD; cases hD
        refine ⟨_, rfl, _, rfl, w, _, _, _, rfl, rfl, e5, ixN_of (by rw [List.length_map]; omega), ?_⟩
        refine ⟨_, _, _, _, rfl, (pen_upd7 (P4.same s5) pw cw).mono (by omega), keep_upd7 (K4.trans (same_k7 s5)) hw, as.set j D, _, by rw [upd_same, List.map_set], prd_set (paired_mono pr4 fun a r z => ⟨z.1, Eq.trans (upd_ne z.1) (s5 _ _ z.2)⟩) j ⟨Dw, Eq.trans (upd_ne Dw) hd5⟩, ?_⟩
        have un := uni_neg u jn
        exact ⟨un.len, un.rl, fun r hr v hv => Nat.le_trans (un.bd r hr v hv) (Nat.pow_le_pow_right (by decide) (Nat.le_succ _)), un.du⟩
      · rw [decide_eq_false (fun z => e (by injection z with z; omega))]
        refine iteF ?_
        refine ⟨_, rfl, _, rfl, _, rfl, (by show 4 ≤ sizeLine; decide), fun lp hlp => ?_⟩
        have n5 := AL.Same.new (o := .lst [.int 1, .int (-1), .int 2, .int (-3)]) hlp
        refine ⟨p, c, lp, _, _, rfl, P4.same n5, by omega, SqL.of upd_same, (by show 0 < 4; decide), (by show 4 < 1000000000; decide), fun jx x H5 hx P5 k5 => ?_⟩
        obtain ⟨b, rfl, hb⟩ : ∃ b : Int, x = V.int b ∧ b.natAbs ≤ 3 := by
          refine pick_of (P := fun x => ∃ b : Int, x = V.int b ∧ b.natAbs ≤ 3) (fun y hy => ?_) hx
          simp only [List.mem_cons, List.not_mem_nil, or_false] at hy
          rcases hy with rfl | rfl | rfl | rfl
          · exact ⟨_, rfl, by decide⟩
          · exact ⟨_, rfl, by decide⟩
          · exact ⟨_, rfl, by decide⟩
          · exact ⟨_, rfl, by decide⟩
        have k45 := (same_k7 n5).trans k5
        have e5 := Keep.at k45 P4 e0 (fun _ z => nomatch z)
        have hj5 := Keep.at k45 P4 hj (fun _ z => nomatch z)
        have hk5 := Keep.at k45 P4 hk (fun _ z => nomatch z)
        have pr5 : Paired (fun a r => a ≠ w ∧ H5 a = some (.lst (r.map V.int))) as U := paired_mono pr4 fun a r z => ⟨z.1, Keep.at k45 P4 z.2 (fun _ z => nomatch z)⟩
        have K5 := K4.trans k45
        refine ⟨_, rfl, _, rfl, w, _, _, _, rfl, rfl, SqL.of e5, gj, _, rfl, _, rfl, w, _, _, _, rfl, rfl, SqL.of e5, gk, aj, ak, _, _, rfl, SqL.of hj5, SqL.of hk5, fun D hD => ?_⟩
        refine lc_it (walk_zip (K := K) (a := aj) (b := ak) (xs := (U.getD j []).map V.int) (ys := (U.getD k []).map V.int) (n := n) (by rw [List.length_map, List.length_map]; omega)) (fun i H' => Same H5 H' ∧ H' D = some (.lst (((addR (U.getD j []) b (U.getD k [])).take i).map V.int))) ⟨AL.Same.new hD, upd_same⟩ (fun i H' _ hh => ⟨SqL.of (hh.1 _ _ hj5), SqL.of (hh.1 _ _ hk5)⟩) ?_ ?_
        · rintro i1 x0 H6 H7 hi1 ⟨s6, hd6⟩ ⟨T0, u1, u2, rfl, hT, rfl, e1, e2⟩
          obtain ⟨z1, c1, rfl⟩ := map_int e1
          obtain ⟨z2, c2, rfl⟩ := map_int e2
          have hDT : D ≠ T0 := fun z => by rw [z, hT] at hd6; cases hd6
          have sT : Same H5 (upd H6 T0 (.tup [.int z1, .int z2])) := s6.trans (AL.Same.new hT)
          have b2 : z2.natAbs < 2 ^ 60 := by
            have h1 := u.bd _ (getD_mem (by rw [u.len]; exact kn)) z2 (List.mem_of_getElem? c2)
            have h2 : 4 ^ i ≤ 4 ^ 10 := Nat.pow_le_pow_right (by decide) (by omega)
            have h3 : 4 ^ 10 < 2 ^ 60 := by decide
            omega
          refine ⟨T0, _, rfl, SqT.of upd_same, rfl, _, _, rfl, _, _, rfl, rfl, rfl, ?_⟩
          refine ⟨_, rfl, _, rfl, _, rfl, _, _, rfl, rfl, wide_mul (a := 60) (b := 60) (by omega) b2 (by decide) (by decide) (by decide), _, _, rfl, rfl, _, Eq.trans (upd_ne hDT) hd6, ?_, AL.Same.updn sT hD, ?_⟩
          · rw [List.length_map, List.length_take]
            exact Nat.lt_of_le_of_lt (by rw [addR_len (by omega)]; omega : _ ≤ 100) (by decide)
          · have g : (addR (U.getD j []) b (U.getD k []))[i1]? = some (z1 + b * z2) := by unfold addR; rw [List.getElem?_zipWith, c1, c2]
            rw [upd_same, List.take_add_one, g, List.map_append]
            rfl
        rintro H6 ⟨s6, hd6⟩
        rw [List.take_of_length_le (by rw [addR_len (by omega), lj]; exact Nat.le_refl _)] at hd6
        have e6 := s6 _ _ e5
        have Dw : D ≠ w := fun z => by rw [z, e5] at hD; cases hD
        refine ⟨_, rfl, _, rfl, w, _, _, _, rfl, rfl, e6, ixN_of (by rw [List.length_map]; omega), ?_⟩
        refine ⟨_, _, _, _, rfl, (pen_upd7 (P5.same s6) pw cw).mono (by omega), keep_upd7 (K5.trans (same_k7 s6)) hw, as.set j D, _, by rw [upd_same, List.map_set], prd_set (paired_mono pr5 fun a r z => ⟨z.1, Eq.trans (upd_ne z.1) (s6 _ _ z.2)⟩) j ⟨Dw, Eq.trans (upd_ne Dw) hd6⟩, ?_⟩
        rw [Nat.pow_succ, Nat.mul_comm]
        exact uni_add u jn kn e hb
    · rintro σ H2 ⟨v4, v5, v6, v8, rfl, P2, k2, as, U, hw2, pr2, u⟩
      rw [Int.toNat_natCast] at P2 u
      exact ⟨_, rfl, q w H2 U P2 k2 ⟨as, hw2, paired_mono pr2 fun _ _ z => z.2⟩ u⟩
end
end AL
set_option Elab.async false
set_option maxRecDepth 100000
set_option exponentiation.threshold 70000
set_option maxHeartbeats 1000000
namespace AL
open PySem PySem.Spec PyProof.Rows L2 RZ
section
variable {P : Program} {w : World} {K : PySem.W.Frag} {mg : Str → Option Value} {base : Heap}

/-- a row times a matrix -/
def mmR (n : Nat) (U : List Rw) (r : Rw) : Rw := (trM n U).map fun c => dotI r c
theorem mmR_len (n : Nat) (U : List Rw) (r : Rw) : (mmR n U r).length = n := by unfold mmR; rw [List.length_map, trM_len]
theorem dotI_bd {b c : Nat} : ∀ {r k : Rw}, (∀ v ∈ r, v.natAbs ≤ b) → (∀ v ∈ k, v.natAbs ≤ c) → (dotI r k).natAbs ≤ r.length * (b * c)
  | [], _, _, _ => by unfold dotI; simp
  | _ :: _, [], _, _ => by unfold dotI; simp
  | x :: r, y :: k, h1, h2 => by
    have ih := dotI_bd (r := r) (k := k) (fun v hv => h1 v (List.mem_cons_of_mem _ hv)) fun v hv => h2 v (List.mem_cons_of_mem _ hv)
    unfold dotI at ih ⊢
    rw [List.zipWith_cons_cons, List.sum_cons, List.length_cons, Nat.add_mul, Nat.one_mul]
    have e : (x * y).natAbs ≤ b * c := by rw [Int.natAbs_mul]; exact Nat.mul_le_mul (h1 x List.mem_cons_self) (h2 y List.mem_cons_self)
    omega
/-- _law_matmul(one, two) -/
def spMm : Sp := fun vs H Q _ => ∃ (w u : Addr) (n : Nat) (rows U : List Rw), vs = [.ref w, .ref u] ∧ RowsZ H w rows ∧ RowsZ H u U ∧ U.length = n ∧ (∀ r ∈ U, r.length = n) ∧ (∀ r ∈ rows, r.length = n) ∧ 1 ≤ n ∧ n ≤ 20 ∧ rows.length ≤ 20 ∧ (∀ r ∈ rows, ∀ v ∈ r, v.natAbs < 2 ^ 60) ∧ (∀ r ∈ U, ∀ v ∈ r, v.natAbs < 2 ^ 60) ∧
  ∀ D H', H D = none → Same H H' → RowsZ H' D (rows.map (mmR n U)) → Q (.ref D) H'

abbrev st_law_matmul : Stmt := top 33
theorem sc_law_matmul : FnScope ["_law_one", "_law_two", "_law_columns", "_law_row", "_law_column_here"] ["_law_one", "_law_two"] (defScope st_law_matmul) := ⟨rfl, rfl, rfl, by decide +kernel, rfl, by decide +kernel, by decide +kernel⟩
theorem ok_law_matmul (B : Blt mg)  {f_law_inner : Addr} {fd_law_inner : FuncData} (D_law_inner : DefAt K mg "_law_inner" st_law_inner ["_law_row", "_law_column_here"] f_law_inner fd_law_inner) {f_law_turned : Addr} {fd_law_turned : FuncData} (D_law_turned : DefAt K mg "_law_turned" st_law_turned ["_law_rows"] f_law_turned fd_law_turned) {f_law_matmul : Addr} {fd_law_matmul : FuncData} (D_law_matmul : DefAt K mg "_law_matmul" st_law_matmul ["_law_one", "_law_two"] f_law_matmul fd_law_matmul) : FnOk P w K mg base CX0 2 f_law_matmul fd_law_matmul ["_law_one", "_law_two"] spMm := by
  have OK_law_inner : FnOk P w K mg base CX0 1 f_law_inner fd_law_inner ["_law_row", "_law_column_here"] spInn := ok_law_inner B  D_law_inner
  have OK_law_turned : FnOk P w K mg base CX0 1 f_law_turned fd_law_turned ["_law_rows"] spTr := ok_law_turned B  D_law_turned
  refine D_law_matmul.F.ok sc_law_matmul (fun vs H Q E h => ?_) (fun cdv A outer s H vs Q E hr h => ?_)
  · obtain ⟨w, u, n, rows, U, rfl, _⟩ := h; rfl
  · have hu := hu_of hr
    refine ⟨_, (pss_cons (ps_set (i := 2) sc_law_matmul.nd rfl (Or.inr rfl) (pe_call OK_law_turned (hr.mono (by decide)) rfl D_law_turned.m D_law_turned.F.kp D_law_turned.b .nil pass0 (pa_cons (pv 1) pa_nil)))
    (pss_one (ps_ret (pe_lc (own := [("_law_row", 3)]) (g := gName 3) (tt := tYes) rfl sc_law_matmul.nd (pi_list (pv 0)) (blkOk_by (own := [("_law_row", 3)]) (N := ["_law_one", "_law_two", "_law_columns", "_law_row", "_law_column_here"]) (by kernel_rfl)) (fun _ _ _ _ _ => (pg_name (i := 3) sc_law_matmul.nd rfl (Or.inr rfl))) (fun _ _ _ _ _ => pts_nil) (fun _ _ _ _ _ => (pe_lc (own := [("_law_column_here", 4)]) (g := gName 4) (tt := tYes) rfl sc_law_matmul.nd (pi_list (pv 2) : PI _ _ _ (iList K (tVar 2))) (blkOk_by (own := [("_law_column_here", 4)]) (N := ["_law_one", "_law_two", "_law_columns", "_law_row", "_law_column_here"]) (by kernel_rfl)) (fun _ _ _ _ _ => (pg_name (i := 4) sc_law_matmul.nd rfl (Or.inl rfl))) (fun _ _ _ _ _ => pts_nil) (fun _ _ _ _ _ => (pe_call OK_law_inner (hr.mono (by decide)) rfl D_law_inner.m D_law_inner.F.kp D_law_inner.b .nil pass0 (pa_cons (pv 3) (pa_cons (pv 4) pa_nil)))))))))), ?_⟩
    obtain ⟨w, u, n, rows, U, rfl, hw, hu, lU, hU, hl, n1, n20, lr, b1, b2, q⟩ := h
    refine ⟨_, rfl, u, n, U, rfl, RowsZ.toT hu, (fun z => by rw [z] at lU; simp at lU; omega), hU, by omega, by omega, fun T H1 hT s1 hTr => ?_⟩
    obtain ⟨as, W1, W2⟩ := hw.same s1
    have las := prd_len W2
    obtain ⟨ts, T1, T2⟩ := hTr
    have lts := prd_len T2
    rw [trM_len] at lts
    refine ⟨_, rfl, w, rfl, ⟨_, SqL.of W1⟩, fun D hD => ?_⟩
    refine lc_list (K := K) (a := w) (xs := as.map V.ref) (fun i H' => Same H1 H' ∧ ∃ bs : List Addr, H' D = some (.lst (bs.map V.ref)) ∧ Paired (fun a r => a ≠ D ∧ H' a = some (.lst (r.map V.int))) bs ((rows.map (mmR n U)).take i)) ⟨AL.Same.new hD, [], upd_same, .nil⟩ (fun i H' _ hh => SqL.of (hh.1 _ _ W1)) ?_ ?_
    · rintro i x H2 hx ⟨s2, bs, hd, pr⟩
      obtain ⟨a, ha, rfl⟩ := map_ref hx
      obtain ⟨r, hr, hra⟩ := prd_get W2 ha
      have il := (List.getElem?_eq_some_iff.mp hr).1
      have lrr := hl r (List.mem_of_getElem? hr)
      have lb := prd_len pr
      rw [List.length_take, List.length_map] at lb
      refine ⟨rfl, ?_⟩
      refine ⟨_, rfl, T, rfl, ⟨_, SqL.of (s2 _ _ T1)⟩, fun D2 hD2 => ?_⟩
      refine lc_list (K := K) (a := T) (xs := ts.map V.ref) (fun j H' => Same H2 H' ∧ H' D2 = some (.lst (((mmR n U r).take j).map V.int))) ⟨AL.Same.new hD2, upd_same⟩ (fun i H' _ hh => SqL.of (hh.1 _ _ (s2 _ _ T1))) ?_ ?_
      · rintro j x H3 hx ⟨s3, hd3⟩
        obtain ⟨b, hb, rfl⟩ := map_ref hx
        obtain ⟨col, hc, hcb⟩ := prd_get T2 hb
        have jl := (List.getElem?_eq_some_iff.mp hc).1
        rw [trM_len] at jl
        have s23 := s2.trans s3
        obtain ⟨lc, j', hj', ec⟩ := trM_row (List.mem_of_getElem? hc)
        refine ⟨rfl, ?_⟩
        refine ⟨_, rfl, _, rfl, a, b, r, col, rfl, .inl (s23 _ _ hra), s23 _ _ hcb, by rw [lc, lU]; exact lrr, by rw [lc, lU]; omega, fun x hx => Nat.lt_of_lt_of_le (b1 r (List.mem_of_getElem? hr) x hx) (Nat.pow_le_pow_right (by decide) (by decide)), fun x hx => ?_, fun H4 s4 => ?_⟩
        · rw [ec] at hx
          obtain ⟨y, hy, rfl⟩ := List.mem_map.mp hx
          exact Nat.lt_of_lt_of_le (b2 y hy _ (vl_mem (by rw [hU y hy]; exact hj'))) (Nat.pow_le_pow_right (by decide) (by decide))
        refine ⟨_, s4 _ _ hd3, ?_, AL.Same.updn (s3.trans s4) hD2, ?_⟩
        · rw [List.length_map, List.length_take, mmR_len]; exact Nat.lt_of_le_of_lt (by omega : _ ≤ 1000) (by decide)
        · have g : (mmR n U r)[j]? = some (dotI r col) := by unfold mmR; rw [List.getElem?_map, hc]; rfl
          rw [upd_same, List.take_add_one, g, List.map_append]; rfl
      · rintro H3 ⟨s3, hd3⟩
        rw [List.take_of_length_le (by rw [mmR_len, List.length_map]; omega)] at hd3
        have bD : D2 ≠ D := fun z => by rw [z, hd] at hD2; cases hD2
        obtain ⟨r1, r2⟩ := rowsZ_snoc (s3 _ _ hd) (paired_mono pr fun _ _ z => ⟨z.1, s3 _ _ z.2⟩) bD hd3
        refine ⟨_, s3 _ _ hd, ?_, AL.Same.updn (s2.trans s3) hD, bs ++ [D2], r1, ?_⟩
        · rw [List.length_map]; exact Nat.lt_of_le_of_lt (by omega : _ ≤ 1000) (by decide)
        · have g : (rows.map (mmR n U))[i]? = some (mmR n U r) := by rw [List.getElem?_map, hr]; rfl
          rw [List.take_add_one, g]
          exact r2
    rintro H2 ⟨s2, bs, hd, pr⟩
    rw [List.take_of_length_le (by rw [List.length_map, List.length_map]; omega)] at pr
    have hD0 : H D = none := by
      cases e : H D with
      | none => rfl
      | some o => rw [s1 _ _ e] at hD; cases hD
    exact q D H2 hD0 (s1.trans s2) ⟨bs, hd, paired_mono pr fun _ _ z => z.2⟩
end
end AL
set_option Elab.async false
set_option maxRecDepth 100000
set_option exponentiation.threshold 70000
set_option maxHeartbeats 1000000
namespace AL
open PySem PySem.Spec PyProof.Rows L2 RZ
section
variable {P : Program} {w : World} {K : PySem.W.Frag} {mg : Str → Option Value} {base : Heap}
structure IniA (K : PySem.W.Frag) (x qual : Str) (st : Stmt) (ps : List Str) (C f : Addr) (fd : FuncData) : Prop where
  F : Fun K x qual st f fd
  b : Binds K fd ps []
  M : Mk K C f
theorem R1.but {H H' : Hp} {z C dz : Addr} {fs : List (Str × V)} {v : V} {c : TC} (h : R1 H v c) (hz : H z = some (.ins C dz fs)) (k : ∀ b o, b ≠ z → H b = some o → H' b = some o) : R1 H' v c := by
  cases c with
  | inl u => exact h
  | inr xs =>
    obtain ⟨a, h1, h2, h3⟩ := h
    refine ⟨a, h1, ?_, h3⟩
    rcases h2 with w | w
    · exact .inl (k _ _ (fun e => by rw [e, hz] at w; cases w) w)
    · exact .inr (k _ _ (fun e => by rw [e, hz] at w; cases w) w)
theorem Res1.but {H H' : Hp} {z C dz : Addr} {fs : List (Str × V)} {v : V} {c : TC} (h : Res1 H v c) (hz : H z = some (.ins C dz fs)) (k : ∀ b o, b ≠ z → H b = some o → H' b = some o) : Res1 H' v c := by
  cases c with
  | inl u => exact h
  | inr xs =>
    obtain ⟨t, h1, h2⟩ := h
    exact ⟨t, h1, k _ _ (fun e => by rw [e, hz] at h2; cases h2) h2⟩

/-- Parting.__init__ -/
def spPI (CP : Addr) : Sp := fun vs H Q _ => ∃ (z dz a : Addr) (k : Int) (us : List V) (cs : List TC), vs = [.ref z, .ref a, .int k] ∧ H z = some (.ins CP dz []) ∧ (H a = some (.lst us) ∨ H a = some (.tup us)) ∧ Paired (R1 H) us cs ∧ us.length ≤ 100 ∧
  ∀ t H' ys, (∀ b o, b ≠ z → H b = some o → H' b = some o) → H' z = some (.ins CP dz [("group", .ref t), ("which", .int k)]) → H' t = some (.tup ys) → Paired (Res1 H') ys cs → Q .non H'
/-- a Parting -/
def PtAt (CP : Addr) (H : Hp) (z : Addr) (u : Rw) (k : Int) : Prop := ∃ dz t, H z = some (.ins CP dz [("group", .ref t), ("which", .int k)]) ∧ H t = some (.tup (u.map V.int))

abbrev stdot : Stmt := top 9
theorem scdot : FnScope ["one", "other", "a", "b"] ["one", "other"] (defScope stdot) := ⟨rfl, rfl, rfl, by decide +kernel, rfl, by decide +kernel, by decide +kernel⟩
theorem okdot (B : Blt mg)  {fdot : Addr} {fddot : FuncData} (Ddot : DefAt K mg "dot" stdot ["one", "other"] fdot fddot) : FnOk P w K mg base CX0 1 fdot fddot ["one", "other"] spInn := by
  refine Ddot.F.ok scdot (fun vs H Q E h => ?_) (fun cdv A outer s H vs Q E hr h => ?_)
  · obtain ⟨r, k, ns, es, rfl, _⟩ := h; rfl
  · have hu := hu_of hr
    refine ⟨_, (pss_one (ps_ret (pe_callB (cr_sum rfl) (by rfl) B.sum_ (by decide +kernel) (pa_cons (pe_lc (own := [("a", 2), ("b", 3)]) (g := (gTup K 2 (gCons (gName 2) (gCons (gName 3) gNil)))) (tt := tYes) rfl scdot.nd (pi_zipB (by rfl) B.zip_ (pa_cons (pv 0) (pa_cons (pv 1) pa_nil))) (blkOk_by (own := [("a", 2), ("b", 3)]) (N := ["one", "other", "a", "b"]) (sc := defScope stdot) (by decide +kernel)) (fun _ _ _ _ _ => (pg_tup rfl (pgs_cons (pg_name (i := 2) scdot.nd rfl (Or.inl rfl)) (pgs_cons (pg_name (i := 3) scdot.nd rfl (Or.inl rfl)) pgs_nil)))) (fun _ _ _ _ _ => pts_nil) (fun _ _ _ _ _ => (pe_op op_mulW (pv 2) (pv 3)))) pa_nil)))), ?_⟩
    obtain ⟨r, k, ns, es, rfl, hr, hk, hl, le, b1, b2, q⟩ := h
    obtain ⟨kb, hb⟩ := hr.sqb (K := K)
    refine ⟨_, rfl, _, rfl, r, k, kb, true, _, _, rfl, hb, SqL.of hk, fun D hD => ?_⟩
    refine lc_it (walk_zipB (K := K) (a := r) (b := k) (k := kb) (l := true) (xs := ns.map V.int) (ys := es.map V.int) (n := ns.length) (by rw [List.length_map, List.length_map]; omega)) (fun i H' => Same H H' ∧ H' D = some (.lst (((List.zipWith (· * ·) ns es).take i).map V.int))) ⟨AL.Same.new hD, upd_same⟩ (fun i H' _ hh => ⟨sqB_same7 hb hh.1, SqL.of (hh.1 _ _ hk)⟩) ?_ ?_
    · rintro i x0 H0 H1' hi ⟨s0, hd0⟩ ⟨T0, u1, u2, rfl, hT, rfl, e1, e2⟩
      obtain ⟨z1, c1, rfl⟩ := map_int e1
      obtain ⟨z2, c2, rfl⟩ := map_int e2
      have hDT : D ≠ T0 := fun z => by rw [z, hT] at hd0; cases hd0
      have sT : Same H (upd H0 T0 (.tup [.int z1, .int z2])) := s0.trans (AL.Same.new hT)
      refine ⟨T0, _, rfl, SqT.of upd_same, rfl, _, _, rfl, _, _, rfl, rfl, rfl, ?_⟩
      refine ⟨_, rfl, _, rfl, _, _, rfl, rfl, wide_mul (a := 3000) (b := 3000) (b1 _ (List.mem_of_getElem? c1)) (b2 _ (List.mem_of_getElem? c2)) (by decide) (by decide) (by decide), _, Eq.trans (upd_ne hDT) hd0, ?_, AL.Same.updn sT hD, ?_⟩
      · rw [List.length_map, List.length_take]
        exact Nat.lt_of_le_of_lt (by omega : _ ≤ 100) (by decide)
      · rw [upd_same, List.take_add_one, List.getElem?_zipWith, c1, c2]
        simp
    · rintro H3 ⟨s3, hd3⟩
      rw [List.take_of_length_le (by rw [List.length_zipWith]; omega)] at hd3
      exact ⟨D, _, rfl, SqL.of hd3, q H3 s3⟩
abbrev stP_init : Stmt := inClass (top 23) 0
theorem scP_init : FnScope ["self", "group", "which"] ["self", "group", "which"] (defScope stP_init) := ⟨rfl, rfl, rfl, by decide +kernel, rfl, by decide +kernel, by decide +kernel⟩
theorem okP_init (B : Blt mg) {CParting : Addr} (Es : ErH K mg CParting) {fis_list : Addr} {fdis_list : FuncData} (Dis_list : DefAt K mg "is_list" stis_list ["value"] fis_list fdis_list) {fas_tuples0 : Addr} {fdas_tuples0 : FuncData} (Das_tuples0 : DefAt K mg "as_tuples" stas_tuples0 ["value"] fas_tuples0 fdas_tuples0) {fas_tuples1 : Addr} {fdas_tuples1 : FuncData} (Das_tuples1 : DefAt K mg "as_tuples" stas_tuples1 ["value"] fas_tuples1 fdas_tuples1) {fas_tuples : Addr} {fdas_tuples : FuncData} (Das_tuples : DefAt K mg "as_tuples" stas_tuples ["value"] fas_tuples fdas_tuples) {fP_init : Addr} {fdP_init : FuncData} (DP_init : IniA K "__init__" "Parting.__init__" stP_init ["self", "group", "which"] CParting fP_init fdP_init) : FnOk P w K mg base CX0 5 fP_init fdP_init ["self", "group", "which"] (spPI CParting) := by
  have OKas_tuples : FnOk P w K mg base CX0 4 fas_tuples fdas_tuples ["value"] spAs2 := okas_tuples B  Dis_list Das_tuples0 Das_tuples1 Das_tuples
  refine DP_init.F.ok scP_init (fun vs H Q E h => ?_) (fun cdv A outer s H vs Q E hr h => ?_)
  · obtain ⟨z, dz, a, k, us, cs, rfl, _⟩ := h; rfl
  · have hu := hu_of hr
    refine ⟨_, (pss_cons (ps_fld (pv 0) (pe_call OKas_tuples (hr.mono (by decide)) rfl Das_tuples.m Das_tuples.F.kp Das_tuples.b .nil pass0 (pa_cons (pv 1) pa_nil)) rfl)
    (pss_one (ps_fld (pv 0) (pv 2) rfl))), ?_⟩
    obtain ⟨z, dz, a, k, us, cs, rfl, hz, ha, pr, lu, q⟩ := h
    refine ⟨_, rfl, a, us, cs, rfl, ha, pr, lu, fun t H1 ys s1 ht py => ?_⟩
    refine ⟨_, rfl, z, CParting, dz, [], rfl, s1 _ _ hz, Es.clParting, Es.nPartinggroup, (by show 0 < 1000; decide), ?_⟩
    have k1 : ∀ b o, b ≠ z → H b = some o → upd H1 z (.ins CParting dz (putF "group" (V.ref t) [])) b = some o := fun b o n w => by rw [upd_ne n]; exact s1 _ _ w
    have k2 : ∀ b o, b ≠ z → H1 b = some o → upd H1 z (.ins CParting dz (putF "group" (V.ref t) [])) b = some o := fun b o n w => by rw [upd_ne n]; exact w
    have tz : t ≠ z := fun e => by rw [e, s1 _ _ hz] at ht; cases ht
    have hz1 : upd H1 z (.ins CParting dz (putF "group" (V.ref t) [])) z = some (.ins CParting dz [("group", .ref t)]) := upd_same
    have ht1 := k2 _ _ tz ht
    have py1 := paired_mono py fun _ _ w => w.but (s1 _ _ hz) k2
    generalize upd H1 z (.ins CParting dz (putF "group" (V.ref t) [])) = H2 at k1 k2 hz1 ht1 py1 ⊢
    refine ⟨_, rfl, _, rfl, z, CParting, dz, _, rfl, hz1, Es.clParting, Es.nPartingwhich, (by show 1 < 1000; decide), ?_⟩
    have k3 : ∀ b o, b ≠ z → H2 b = some o → upd H2 z (.ins CParting dz (putF "which" (V.int k) [("group", V.ref t)])) b = some o := fun b o n w => by rw [upd_ne n]; exact w
    exact q t _ ys (fun b o n w => k3 b o n (k1 b o n w)) upd_same (k3 _ _ tz ht1) (paired_mono py1 fun _ _ w => w.but hz1 k3)
end
end AL
set_option Elab.async false
set_option maxRecDepth 100000
set_option exponentiation.threshold 70000
set_option maxHeartbeats 1000000
namespace AL
open PySem PySem.Spec PyProof.Rows L2 RZ
section
variable {P : Program} {w : World} {K : PySem.W.Frag} {mg : Str → Option Value} {base : Heap}
theorem sm_left (f : Nat → Int) : ∀ n : Nat, sm (n + 1) f = f 0 + sm n fun k => f (k + 1)
  | 0 => by show sm 0 f + f 0 = _; unfold sm; omega
  | n + 1 => by
    have ih := sm_left f n
    show sm (n + 1) f + f (n + 1) = _
    rw [ih]
    show _ = f 0 + (sm n _ + f (n + 1))
    omega
theorem dotI_sm : ∀ ns es : List Int, ns.length = es.length → dotI ns es = sm es.length fun k => ns.getD k 0 * es.getD k 0
  | [], [], _ => rfl
  | a :: ns, b :: es, h => by
    have ih := dotI_sm ns es (by simpa using h)
    rw [List.length_cons, sm_left]
    show _ = a * b + sm es.length fun k => ns.getD k 0 * es.getD k 0
    rw [← ih]
    unfold dotI
    rw [List.zipWith_cons_cons, List.sum_cons]
theorem dotI_res {ps : List Int} {A : List Rw} (h : ps.length = A.length) (i : Nat) : dotI ps (A.map fun r => vl r i) = sm A.length fun k => ps.getD k 0 * vl (A.getD k []) i := by
  rw [dotI_sm _ _ (by rw [List.length_map, h]), List.length_map]
  refine sm_congr fun k hk => ?_
  rw [List.getD_eq_getElem?_getD (l := A.map _), List.getElem?_map, List.getElem?_eq_getElem hk, List.getD_eq_getElem?_getD (l := A), List.getElem?_eq_getElem hk]
  rfl
theorem trM_trM {n : Nat} {rows : List Rw} (h : ∀ r ∈ rows, r.length = n) : trM rows.length (trM n rows) = rows := by
  refine List.ext_getElem (by rw [trM_len]) fun i h1 h2 => ?_
  have e : (trM rows.length (trM n rows))[i] = (trM n rows).map fun q => vl q i := by
    have w : (trM rows.length (trM n rows))[i]? = some ((trM n rows).map fun q => vl q i) := by
      conv => lhs; unfold trM
      rw [List.getElem?_map, List.getElem?_range h2]; rfl
    exact (List.getElem?_eq_some_iff.mp w).2
  rw [e]
  have li := h _ (List.getElem_mem h2)
  refine vl_ext (by rw [List.length_map, trM_len, li]) fun j => ?_
  by_cases c : j < n
  · have e2 : ((trM n rows).map fun q => vl q i)[j]? = some (vl (rows.map fun r => vl r j) i) := by
      rw [List.getElem?_map]
      unfold trM
      rw [List.getElem?_map, List.getElem?_range c]; rfl
    rw [vl_get e2]
    exact vl_get (by rw [List.getElem?_map, List.getElem?_eq_getElem h2]; rfl)
  · rw [vl_out (by rw [List.length_map, trM_len]; omega), vl_out (by omega)]

theorem dotI_comm : ∀ a b : Rw, dotI a b = dotI b a
  | [], [] => rfl
  | [], _ :: _ => rfl
  | _ :: _, [] => rfl
  | x :: a, y :: b => by
    have ih := dotI_comm a b
    unfold dotI at ih ⊢
    rw [List.zipWith_cons_cons, List.zipWith_cons_cons, List.sum_cons, List.sum_cons, ih, Int.mul_comm]
theorem RowsU.toA {H : Hp} {w : Addr} {ws : List Rw} (h : RowsU H w ws) : RowsA H w ws := by
  obtain ⟨as, h1, h2⟩ := h
  exact ⟨as, h1, paired_mono h2 fun _ _ z => .inr z⟩
/-- a group of these exponents -/
def KilR (N : Nat) (A : List Rw) (n : Nat) (u : Rw) : Prop := ∀ c, c < n → (sm N fun i => vl u i * vl (A.getD i []) c) = 0
/-- all groups of the one are groups of the other -/
def Kil (F A : List Rw) (n : Nat) (A' : List Rw) (n' N : Nat) : Prop := Hnf (n + N) F ∧ Gen F (wideR A) ∧ ∀ u ∈ kerF n F, KilR N A' n' u
/-- the products of the columns with a row -/
def prods (n : Nat) (A : List Rw) (u : Rw) : Rw := (trM n A).map fun c => dotI c u
theorem prods_len (n : Nat) (A : List Rw) (u : Rw) : (prods n A u).length = n := by unfold prods; rw [List.length_map, trM_len]
theorem prods_vl {n N : Nat} {A : List Rw} {u : Rw} (lA : A.length = N) (lu : u.length = N) {c : Nat} (hc : c < n) : (prods n A u)[c]? = some (sm N fun i => vl u i * vl (A.getD i []) c) := by
  unfold prods trM
  rw [List.getElem?_map, List.getElem?_map, List.getElem?_range hc]
  show some (dotI (A.map fun r => vl r c) u) = _
  rw [dotI_comm, dotI_res (by omega), lA]; rfl
theorem prods_any {n N : Nat} {A : List Rw} {u : Rw} (lA : A.length = N) (lu : u.length = N) : ((prods n A u).any fun k => decide (k ≠ 0)) = false ↔ KilR N A n u := by
  rw [List.any_eq_false]
  constructor
  · intro h c hc
    have := h _ (List.mem_of_getElem? (prods_vl lA lu hc))
    exact Classical.byContradiction fun z => this (decide_eq_true z)
  · intro h k hk
    obtain ⟨c, hc⟩ := List.mem_iff_getElem?.mp hk
    have cl := (List.getElem?_eq_some_iff.mp hc).1
    rw [prods_len] at cl
    rw [prods_vl lA lu cl, h c cl] at hc
    rw [← Option.some.inj hc]; decide
/-- what alike_units tells -/
def AuRes (CP : Addr) (n1 n2 m : Nat) (A1 A2 : List Rw) (v : V) (H : Hp) : Prop :=
  (v = .non ∧ (∃ F, Kil F A1 n1 A2 n2 A1.length) ∧ ∃ F, Kil F A2 n2 A1 n1 A1.length) ∨ ∃ z g, ∃ k : Int, v = .ref z ∧ PtAt CP H z g k ∧ g.length = A1.length ∧ (∃ j, j < A1.length ∧ vl g j ≠ 0) ∧ (∀ j, (vl g j).natAbs ≤ 2 ^ m) ∧ (k = 0 ∧ KilR A1.length A1 n1 g ∧ ¬ KilR A1.length A2 n2 g ∨ k = 1 ∧ KilR A1.length A2 n2 g ∧ ¬ KilR A1.length A1 n1 g)
/-- alike_units(one, other) -/
def spAu (CP : Addr) : Sp := fun vs H Q _ => ∃ (w1 w2 : Addr) (n1 n2 B m : Nat) (A1 A2 : List Rw), vs = [.ref w1, .ref w2] ∧ RowsU H w1 A1 ∧ RowsU H w2 A2 ∧ A1 ≠ [] ∧ A2.length = A1.length ∧ (∀ r ∈ A1, r.length = n1) ∧ (∀ r ∈ A2, r.length = n2) ∧ 0 < n1 ∧ 0 < n2 ∧ n1 ≤ 50 ∧ n2 ≤ 50 ∧ A1.length ≤ 19 ∧ (∀ r ∈ A1, ∀ v ∈ r, v.natAbs ≤ B) ∧ (∀ r ∈ A2, ∀ v ∈ r, v.natAbs ≤ B) ∧ 1 ≤ B ∧ B < 2 ^ 3000 ∧ B ≤ 2 ^ (m + 1) ∧ A1.length * (facB B A1.length * facB B A1.length) ≤ 2 ^ m ∧ (m + 1) * (3 * A1.length + 1) + 2 < 13000 ∧ m < 3000 ∧
  ∀ v H', Same H H' → AuRes CP n1 n2 m A1 A2 v H' → Q v H'

abbrev stalike_units : Stmt := top 24
theorem scalike_units : FnScope ["one", "other", "sides", "which", "side", "group", "row"] ["one", "other"] (defScope stalike_units) := ⟨rfl, rfl, rfl, by decide +kernel, rfl, by decide +kernel, by decide +kernel⟩
theorem okalike_units (B : Blt mg) {CParting : Addr} (Es : ErH K mg CParting) {fis_list : Addr} {fdis_list : FuncData} (Dis_list : DefAt K mg "is_list" stis_list ["value"] fis_list fdis_list) {fas_tuples0 : Addr} {fdas_tuples0 : FuncData} (Das_tuples0 : DefAt K mg "as_tuples" stas_tuples0 ["value"] fas_tuples0 fdas_tuples0) {fas_tuples1 : Addr} {fdas_tuples1 : FuncData} (Das_tuples1 : DefAt K mg "as_tuples" stas_tuples1 ["value"] fas_tuples1 fdas_tuples1) {fas_tuples : Addr} {fdas_tuples : FuncData} (Das_tuples : DefAt K mg "as_tuples" stas_tuples ["value"] fas_tuples fdas_tuples) {fP_init : Addr} {fdP_init : FuncData} (DP_init : IniA K "__init__" "Parting.__init__" stP_init ["self", "group", "which"] CParting fP_init fdP_init) {fis_whole : Addr} {fdis_whole : FuncData} (Dis_whole : DefAt K mg "is_whole" stis_whole ["value"] fis_whole fdis_whole) {fare_integers : Addr} {fdare_integers : FuncData} (Dare_integers : DefAt K mg "are_integers" stare_integers ["items"] fare_integers fdare_integers) {fis_letters : Addr} {fdis_letters : FuncData} (Dis_letters : DefAt K mg "is_letters" stis_letters ["exponents"] fis_letters fdis_letters) {fcheck_letters : Addr} {fdcheck_letters : FuncData} (Dcheck_letters : DefDd [.non] K mg "check_letters" stcheck_letters ["exponents", "many"] fcheck_letters fdcheck_letters) {fdot : Addr} {fddot : FuncData} (Ddot : DefAt K mg "dot" stdot ["one", "other"] fdot fddot) {fcombined : Addr} {fdcombined : FuncData} (Dcombined : DefAt K mg "combined" stcombined ["many", "one", "times", "other"] fcombined fdcombined) {fpivot_of : Addr} {fdpivot_of : FuncData} (Dpivot_of : DefAt K mg "pivot_of" stpivot_of ["row"] fpivot_of fdpivot_of) {freduced : Addr} {fdreduced : FuncData} (Dreduced : DefAt K mg "reduced" streduced ["rows"] freduced fdreduced) {fbezout : Addr} {fdbezout : FuncData} (Dbezout : DefAt K mg "bezout" stbezout ["one", "other"] fbezout fdbezout) {ftaken_in : Addr} {fdtaken_in : FuncData} (Dtaken_in : DefAt K mg "taken_in" sttaken_in ["basis", "row"] ftaken_in fdtaken_in) {fhermite_rows : Addr} {fdhermite_rows : FuncData} (Dhermite_rows : DefAt K mg "hermite_rows" sthermite_rows ["rows"] fhermite_rows fdhermite_rows) {fidentity : Addr} {fdidentity : FuncData} (Didentity : DefAt K mg "identity" stidentity ["many"] fidentity fdidentity) {fhermite_pair : Addr} {fdhermite_pair : FuncData} (Dhermite_pair : DefAt K mg "hermite_pair" sthermite_pair ["rows"] fhermite_pair fdhermite_pair) {ftransposed : Addr} {fdtransposed : FuncData} (Dtransposed : DefAt K mg "transposed" sttransposed ["rows"] ftransposed fdtransposed) {fkernel_rows : Addr} {fdkernel_rows : FuncData} (Dkernel_rows : DefAt K mg "kernel_rows" stkernel_rows ["rows"] fkernel_rows fdkernel_rows) {falike_units : Addr} {fdalike_units : FuncData} (Dalike_units : DefAt K mg "alike_units" stalike_units ["one", "other"] falike_units fdalike_units) : FnOk P w K mg base CX0 7 falike_units fdalike_units ["one", "other"] (spAu CParting) := by
  obtain ⟨ds_cl, hv_cl, hb_cl⟩ := Dcheck_letters.b
  have OKP_init : FnOk P w K mg base CX0 5 fP_init fdP_init ["self", "group", "which"] (spPI CParting) := okP_init B Es Dis_list Das_tuples0 Das_tuples1 Das_tuples DP_init
  have OKcheck_letters : FnOk P w K mg base CX0 4 fcheck_letters fdcheck_letters ["exponents", "many"] spCl := okcheck_letters B  Dis_whole Dare_integers Dis_list Dis_letters Dcheck_letters
  have OKdot : FnOk P w K mg base CX0 1 fdot fddot ["one", "other"] spInn := okdot B  Ddot
  have OKkernel_rows : FnOk P w K mg base CX0 5 fkernel_rows fdkernel_rows ["rows"] spKr := okkernel_rows B  Dcombined Dpivot_of Dreduced Dbezout Dtaken_in Dhermite_rows Didentity Dhermite_pair Dtransposed Dkernel_rows
  have OKtransposed : FnOk P w K mg base CX0 1 ftransposed fdtransposed ["rows"] spTrA := oktransposed B  Dtransposed
  refine Dalike_units.F.ok scalike_units (fun vs H Q E h => ?_) (fun cdv A outer s H vs Q E hr h => ?_)
  · obtain ⟨w1, w2, n1, n2, B0, m, A1, A2, rfl, _⟩ := h; rfl
  · have hu := hu_of hr
    refine ⟨_, (pss_cons (ps_expr (pe_call OKcheck_letters (hr.mono (by decide)) rfl Dcheck_letters.m Dcheck_letters.F.kp hb_cl hv_cl pass0 (pa_cons (pv 0) pa_nil)))
    (pss_cons (ps_expr (pe_call OKcheck_letters (hr.mono (by decide)) rfl Dcheck_letters.m Dcheck_letters.F.kp hb_cl hv_cl pass0 (pa_cons (pv 1) pa_nil)))
    (pss_cons (ps_if (pt_cmpR op_ne (pe_callB call_len_seq (by rfl) B.len_ (by decide +kernel) (pa_cons (pv 0) pa_nil)) (pe_callB call_len_seq (by rfl) B.len_ (by decide +kernel) (pa_cons (pv 1) pa_nil)) (nomark _)) (pss_one ps_never) pss_nil)
    (pss_cons (ps_set (i := 2) scalike_units.nd rfl (Or.inl rfl) (pe_lst (pa_cons (pe_call OKtransposed (hr.mono (by decide)) rfl Dtransposed.m Dtransposed.F.kp Dtransposed.b .nil pass0 (pa_cons (pv 0) pa_nil)) (pa_cons (pe_call OKtransposed (hr.mono (by decide)) rfl Dtransposed.m Dtransposed.F.kp Dtransposed.b .nil pass0 (pa_cons (pv 1) pa_nil)) pa_nil))))
    (pss_cons (ps_for PassesOwn.never rfl (pi_enum (by rfl) B.enumerate_ (pa_cons (pv 2) pa_nil)) (pg_tup rfl (pgs_cons (pg_name (i := 3) scalike_units.nd rfl (Or.inl rfl)) (pgs_cons (pg_name (i := 4) scalike_units.nd rfl (Or.inl rfl)) pgs_nil)))
      (pss_one (ps_for PassesOwn.never rfl (pi_list (pe_call OKkernel_rows (hr.mono (by decide)) rfl Dkernel_rows.m Dkernel_rows.F.kp Dkernel_rows.b .nil pass0 (pa_cons (pv 4) pa_nil))) (pg_name (i := 5) scalike_units.nd rfl (Or.inr rfl))
      (pss_one (ps_if (pt_val (pe_callB (cr_anyI rfl : CallR _ (.builtin "any") (rAnyI K)) (by rfl) B.any_ (by decide +kernel) (pa_cons (pe_lc (own := [("row", 6)]) (g := gName 6) (tt := tYes) rfl scalike_units.nd (pi_list (pe_ix (ix_list : IxR _ (rIxL K)) (pv 2) (pe_op op_sub pe_int (pv 3)) (fun _ _ => rfl))) (blkOk_by (own := [("row", 6)]) (N := ["one", "other", "sides", "which", "side", "group", "row"]) (sc := defScope stalike_units) (by decide +kernel)) (fun _ _ _ _ _ => (pg_name (i := 6) scalike_units.nd rfl (Or.inl rfl))) (fun _ _ _ _ _ => pts_nil) (fun _ _ _ _ _ => (pe_call OKdot (hr.mono (by decide)) rfl Ddot.m Ddot.F.kp Ddot.b .nil pass0 (pa_cons (pv 6) (pa_cons (pv 5) pa_nil))))) pa_nil))) (pss_one (ps_ret (pe_make DP_init.M OKP_init (hr.mono (by decide)) rfl Es.mParting DP_init.b .nil pass0 (pa_cons (pv 5) (pa_cons (pv 3) pa_nil))))) pss_nil)))))
    (pss_one (ps_ret pe_non))))))), ?_⟩
    obtain ⟨w1, w2, n1, n2, B0, m, A1, A2, rfl, hw1, hw2, ne1, lA2, hl1, hl2, p1, p2, q1, q2, lN, b1, b2, B1, Bs, Bm, hm, sz, m29, q⟩ := h
    have N0 : 0 < A1.length := List.length_pos_iff.mpr ne1
    have lA1 : A1.length = A1.length := rfl
    have ne2 : A2 ≠ [] := fun z => by rw [z] at lA2; simp at lA2; omega
    refine ⟨_, rfl, w1, n1, A1, rfl, hw1, ne1, hl1, p1, by omega, by omega, fun H1 s1 => ?_⟩
    refine ⟨_, rfl, w2, n2, A2, rfl, hw2.same s1, ne2, hl2, p2, by omega, by omega, fun H2 s2 => ?_⟩
    have s12 := s1.trans s2
    obtain ⟨as1, U1, U2⟩ := hw1.same s12
    obtain ⟨as2, V1, V2⟩ := hw2.same s12
    have la1 := prd_len U2
    have la2 := prd_len V2
    refine ⟨_, rfl, w1, _, rfl, (U1.imp SqL.of SqT.of), _, rfl, w2, _, rfl, (V1.imp SqL.of SqT.of), rfl, _, rfl, ?_⟩
    rw [List.length_map, List.length_map, la1, la2, lA2, decide_eq_true rfl]
    refine iteF ?_
    refine ⟨_, rfl, w1, n1, A1, rfl, (hw1.same s12).toA, ne1, hl1, by omega, by omega, fun T1 H3 hT1 s3 hR1 => ?_⟩
    refine ⟨_, rfl, w2, n2, A2, rfl, (hw2.same (s12.trans s3)).toA, ne2, hl2, by omega, by omega, fun T2 H4 hT2 s4 hR2 => ?_⟩
    refine ⟨(by show 2 ≤ sizeLine; decide), fun S hS => ?_⟩
    have nS := AL.Same.new (o := .lst [.ref T1, .ref T2]) hS
    have s15 := (s12.trans (s3.trans s4)).trans nS
    replace hR1 := (hR1.same s4).same nS
    replace hR2 := hR2.same nS
    have hS5 : upd H4 S (.lst [.ref T1, .ref T2]) S = some (.lst [.ref T1, .ref T2]) := upd_same
    generalize upd H4 S (.lst [.ref T1, .ref T2]) = H5 at s15 hR1 hR2 hS5 ⊢
    clear nS hS hT1 hT2 s3 s4 U1 U2 V1 V2
    have g2 : atI [V.ref T1, V.ref T2] ((1 : Int) - (0 : Nat)) = some (.ref T2) := rfl
    have g1' : atI [V.ref T1, V.ref T2] ((1 : Int) - (1 : Nat)) = some (.ref T1) := rfl
    refine ⟨_, rfl, S, _, rfl, SqL.of hS5, for_it (walk_enum (K := K) (a := S) (xs := [V.ref T1, V.ref T2])) (fun i σ H' => ∃ v3 v4 v5 : Option V, σ = [some (.ref w1), some (.ref w2), some (.ref S), v3, v4, v5, none] ∧ Same H5 H' ∧ (1 ≤ i → ∃ F, Kil F A1 n1 A2 n2 A1.length) ∧ (2 ≤ i → ∃ F, Kil F A2 n2 A1 n1 A1.length)) ⟨none, none, none, rfl, (fun _ _ h => h), (fun h => absurd h (by decide)), fun h => absurd h (by decide)⟩ (fun i σ H' _ hh => by obtain ⟨_, _, _, _, s, _⟩ := hh; exact SqL.of (s _ _ hS5)) ?_ ?_⟩
    · rintro i x σ H6 H7 hi ⟨v3, v4, v5, rfl, s6, g1, gg2⟩ ⟨T0, u1, u2, rfl, hT0, rfl, e1, e2⟩
      cases e1
      have s67 := s6.trans (AL.Same.new (o := .tup [.int (i : Int), u2]) hT0)
      have cs : (i = 0 ∧ u2 = V.ref T1) ∨ (i = 1 ∧ u2 = V.ref T2) := by
        match i, e2 with
        | 0, e => exact .inl ⟨rfl, (Option.some.inj e).symm⟩
        | 1, e => exact .inr ⟨rfl, (Option.some.inj e).symm⟩
        | i + 2, e => simp at e
      refine ⟨T0, _, rfl, SqT.of upd_same, rfl, _, _, rfl, _, _, rfl, rfl, ?_⟩
      generalize upd H6 T0 (.tup [.int (i : Int), u2]) = H7 at s67 ⊢
      clear s6 hT0 e2
      rcases cs with ⟨rfl, rfl⟩ | ⟨rfl, rfl⟩
      · 
        have lT := trM_len n1 A1
        refine ⟨_, rfl, T1, A1.length, B0, m, trM n1 A1, rfl, RowsZ.toT (hR1.same s67), (fun z => by rw [z] at lT; simp at lT; omega), fun r hr => by rw [(trM_row hr).1, lA1], N0, by omega, lN, trM_bd b1, B1, Bm, hm, sz, fun D H8 F s8 hKr hF gF lF bF => ?_⟩
        have tt : trM A1.length (trM n1 A1) = A1 := by rw [← lA1]; exact trM_trM hl1
        rw [tt] at gF
        rw [lT] at hKr hF
        obtain ⟨us, K1, K2⟩ := hKr
        have lus := prd_len K2
        have s58 := s67.trans s8
        obtain ⟨os, O1, O2⟩ := hR2.same s58
        have los := prd_len O2
        rw [trM_len] at los
        refine ⟨D, rfl, ⟨_, SqL.of K1⟩, for_list (K := K) (a := D) (xs := us.map V.ref) (fun j σ H' => ∃ v5 : Option V, σ = [some (.ref w1), some (.ref w2), some (.ref S), some (.int (0 : Nat)), some (.ref T1), v5, none] ∧ Same H8 H' ∧ ∀ u ∈ (kerF n1 F).take j, KilR A1.length A2 n2 u) ⟨_, rfl, (fun _ _ h => h), fun u hu => nomatch hu⟩ (fun i σ H' _ hh => by obtain ⟨_, _, s, _⟩ := hh; exact SqL.of (s _ _ K1)) ?_ ?_⟩
        · rintro j x σ H9 hx ⟨v5, rfl, s9, kk⟩
          obtain ⟨ua, hua, rfl⟩ := map_ref hx
          obtain ⟨u, hu, hua0⟩ := prd_get K2 hua
          have mu := List.mem_of_getElem? hu
          obtain ⟨lu, ⟨i0, hi0, ui0⟩, uz⟩ := ker_item (U := n1) (N := A1.length) hF gF hl1 lA1 mu
          have ub : ∀ c, (vl u c).natAbs ≤ 2 ^ m := fun c => by
            unfold kerF at mu
            obtain ⟨f, hf, rfl⟩ := List.mem_map.mp mu
            rw [drop_vl]
            exact bF f (List.mem_filter.mp hf).1 _
          have hu9 : LI H9 ua u := s9 _ _ hua0
          have O19 := s9 _ _ O1
          have S9 := (s58.trans s9) _ _ hS5
          refine ⟨_, rfl, ?_⟩
          refine ⟨_, rfl, _, _, rfl, rfl, S, _, _, _, rfl, rfl, SqL.of S9, g2, T2, rfl, ⟨_, SqL.of O19⟩, fun D2 hD2 => ?_⟩
          refine lc_list (K := K) (a := T2) (xs := os.map V.ref) (fun t H' => Same H9 H' ∧ H' D2 = some (.lst (((prods n2 A2 u).take t).map V.int))) ⟨AL.Same.new hD2, upd_same⟩ (fun i H' _ hh => SqL.of (hh.1 _ _ O19)) ?_ ?_
          · rintro t x H10 hx ⟨s10, hd⟩
            obtain ⟨a, ha, rfl⟩ := map_ref hx
            obtain ⟨col, hc, hca⟩ := prd_get O2 ha
            have tl := (List.getElem?_eq_some_iff.mp hc).1
            rw [trM_len] at tl
            obtain ⟨lc, j', hj', ec⟩ := trM_row (List.mem_of_getElem? hc)
            refine ⟨rfl, ?_⟩
            refine ⟨_, rfl, _, rfl, a, ua, col, u, rfl, .inl ((s9.trans s10) _ _ hca), s10 _ _ hu9, by rw [lc, lu, lA2], by rw [lu]; omega, fun x hx => ?_, fun x hx => ?_, fun H11 s11 => ?_⟩
            · rw [ec] at hx
              obtain ⟨y, hy, rfl⟩ := List.mem_map.mp hx
              exact Nat.lt_of_le_of_lt (b2 y hy _ (vl_mem (by rw [hl2 y hy]; exact hj'))) Bs
            · obtain ⟨c, hc⟩ := List.mem_iff_getElem?.mp hx
              rw [← vl_get hc]
              exact Nat.lt_of_le_of_lt (ub c) (Nat.pow_lt_pow_right (by decide) m29)
            refine ⟨_, s11 _ _ hd, ?_, AL.Same.updn (s10.trans s11) hD2, ?_⟩
            · rw [List.length_map, List.length_take, prods_len]; exact Nat.lt_of_le_of_lt (by omega : _ ≤ 1000) (by decide)
            · have g : (prods n2 A2 u)[t]? = some (dotI col u) := by unfold prods; rw [List.getElem?_map, hc]; rfl
              rw [upd_same, List.take_add_one, g, List.map_append]; rfl
          rintro H10 ⟨s10, hd⟩
          rw [List.take_of_length_le (by rw [prods_len, List.length_map]; omega)] at hd
          refine ⟨D2, _, rfl, SqL.of hd, _, rfl, ?_⟩
          by_cases ck : KilR A1.length A2 n2 u
          · rw [(prods_any lA2 lu).mpr ck]
            refine iteF ?_
            refine ⟨_, rfl, s9.trans s10, fun w hw => ?_⟩
            rw [List.take_add_one, hu] at hw
            rcases List.mem_append.mp hw with h | h
            · exact kk w h
            · rw [List.mem_singleton.mp h]; exact ck
          · have ct : ((prods n2 A2 u).any fun k => decide (k ≠ 0)) = true := by
              cases e : (prods n2 A2 u).any fun k => decide (k ≠ 0) with
              | true => rfl
              | false => exact absurd ((prods_any lA2 lu).mp e) ck
            rw [ct]
            refine iteT ?_
            have hu10 : LI H10 ua u := s10 _ _ hu9
            have s510 := (s58.trans s9).trans s10
            refine ⟨_, rfl, _, rfl, ?_⟩
            intro z dz h1 h2 h3
            have s0 : Same H10 (upd (upd H10 dz (.own z)) z (.ins CParting dz [])) := fun b o e => by
              rw [upd_ne (ne_of_none e h1), upd_ne (ne_of_none e h2)]; exact e
            refine ⟨z, dz, ua, _, _, (u.map V.int).map .inl, rfl, upd_same, .inl (s0 _ _ hu10), ?_, ?_, fun t H12 ys k8 hz8 ht8 py => ⟨rfl, ?_⟩⟩
            · have go : ∀ {HH : Hp} (g : Rw), Paired (R1 HH) (g.map V.int) ((g.map V.int).map .inl) := fun g => by
                induction g with
                | nil => exact .nil
                | cons x g ih => exact .cons ⟨rfl, .int x⟩ ih
              exact go _
            · rw [List.length_map, lu]; omega
            have e := res_atoms py
            rw [e] at ht8
            refine q (.ref z) H12 (fun b o e => k8 b o (ne_of_none ((s15.trans s510) _ _ e) h1) (s0 _ _ ((s15.trans s510) _ _ e))) (.inr ⟨z, u, (0 : Nat), rfl, ⟨dz, t, hz8, ht8⟩, lu, ⟨i0, hi0, ui0⟩, ub, .inl ⟨by decide, uz, ck⟩⟩)
        · rintro σ H9 ⟨v5, rfl, s9, kk⟩
          rw [List.length_map, lus, List.take_length] at kk
          exact ⟨_, _, _, rfl, s58.trans s9, (fun _ => ⟨F, hF, gF, kk⟩), fun h => by omega⟩
      · 
        have lT := trM_len n2 A2
        refine ⟨_, rfl, T2, A1.length, B0, m, trM n2 A2, rfl, RowsZ.toT (hR2.same s67), (fun z => by rw [z] at lT; simp at lT; omega), fun r hr => by rw [(trM_row hr).1, lA2], N0, by omega, lN, trM_bd b2, B1, Bm, hm, sz, fun D H8 F s8 hKr hF gF lF bF => ?_⟩
        have tt : trM A1.length (trM n2 A2) = A2 := by rw [← lA2]; exact trM_trM hl2
        rw [tt] at gF
        rw [lT] at hKr hF
        obtain ⟨us, K1, K2⟩ := hKr
        have lus := prd_len K2
        have s58 := s67.trans s8
        obtain ⟨os, O1, O2⟩ := hR1.same s58
        have los := prd_len O2
        rw [trM_len] at los
        refine ⟨D, rfl, ⟨_, SqL.of K1⟩, for_list (K := K) (a := D) (xs := us.map V.ref) (fun j σ H' => ∃ v5 : Option V, σ = [some (.ref w1), some (.ref w2), some (.ref S), some (.int (1 : Nat)), some (.ref T2), v5, none] ∧ Same H8 H' ∧ ∀ u ∈ (kerF n2 F).take j, KilR A1.length A1 n1 u) ⟨_, rfl, (fun _ _ h => h), fun u hu => nomatch hu⟩ (fun i σ H' _ hh => by obtain ⟨_, _, s, _⟩ := hh; exact SqL.of (s _ _ K1)) ?_ ?_⟩
        · rintro j x σ H9 hx ⟨v5, rfl, s9, kk⟩
          obtain ⟨ua, hua, rfl⟩ := map_ref hx
          obtain ⟨u, hu, hua0⟩ := prd_get K2 hua
          have mu := List.mem_of_getElem? hu
          obtain ⟨lu, ⟨i0, hi0, ui0⟩, uz⟩ := ker_item (U := n2) (N := A1.length) hF gF hl2 lA2 mu
          have ub : ∀ c, (vl u c).natAbs ≤ 2 ^ m := fun c => by
            unfold kerF at mu
            obtain ⟨f, hf, rfl⟩ := List.mem_map.mp mu
            rw [drop_vl]
            exact bF f (List.mem_filter.mp hf).1 _
          have hu9 : LI H9 ua u := s9 _ _ hua0
          have O19 := s9 _ _ O1
          have S9 := (s58.trans s9) _ _ hS5
          refine ⟨_, rfl, ?_⟩
          refine ⟨_, rfl, _, _, rfl, rfl, S, _, _, _, rfl, rfl, SqL.of S9, g1', T1, rfl, ⟨_, SqL.of O19⟩, fun D2 hD2 => ?_⟩
          refine lc_list (K := K) (a := T1) (xs := os.map V.ref) (fun t H' => Same H9 H' ∧ H' D2 = some (.lst (((prods n1 A1 u).take t).map V.int))) ⟨AL.Same.new hD2, upd_same⟩ (fun i H' _ hh => SqL.of (hh.1 _ _ O19)) ?_ ?_
          · rintro t x H10 hx ⟨s10, hd⟩
            obtain ⟨a, ha, rfl⟩ := map_ref hx
            obtain ⟨col, hc, hca⟩ := prd_get O2 ha
            have tl := (List.getElem?_eq_some_iff.mp hc).1
            rw [trM_len] at tl
            obtain ⟨lc, j', hj', ec⟩ := trM_row (List.mem_of_getElem? hc)
            refine ⟨rfl, ?_⟩
            refine ⟨_, rfl, _, rfl, a, ua, col, u, rfl, .inl ((s9.trans s10) _ _ hca), s10 _ _ hu9, by rw [lc, lu, lA1], by rw [lu]; omega, fun x hx => ?_, fun x hx => ?_, fun H11 s11 => ?_⟩
            · rw [ec] at hx
              obtain ⟨y, hy, rfl⟩ := List.mem_map.mp hx
              exact Nat.lt_of_le_of_lt (b1 y hy _ (vl_mem (by rw [hl1 y hy]; exact hj'))) Bs
            · obtain ⟨c, hc⟩ := List.mem_iff_getElem?.mp hx
              rw [← vl_get hc]
              exact Nat.lt_of_le_of_lt (ub c) (Nat.pow_lt_pow_right (by decide) m29)
            refine ⟨_, s11 _ _ hd, ?_, AL.Same.updn (s10.trans s11) hD2, ?_⟩
            · rw [List.length_map, List.length_take, prods_len]; exact Nat.lt_of_le_of_lt (by omega : _ ≤ 1000) (by decide)
            · have g : (prods n1 A1 u)[t]? = some (dotI col u) := by unfold prods; rw [List.getElem?_map, hc]; rfl
              rw [upd_same, List.take_add_one, g, List.map_append]; rfl
          rintro H10 ⟨s10, hd⟩
          rw [List.take_of_length_le (by rw [prods_len, List.length_map]; omega)] at hd
          refine ⟨D2, _, rfl, SqL.of hd, _, rfl, ?_⟩
          by_cases ck : KilR A1.length A1 n1 u
          · rw [(prods_any lA1 lu).mpr ck]
            refine iteF ?_
            refine ⟨_, rfl, s9.trans s10, fun w hw => ?_⟩
            rw [List.take_add_one, hu] at hw
            rcases List.mem_append.mp hw with h | h
            · exact kk w h
            · rw [List.mem_singleton.mp h]; exact ck
          · have ct : ((prods n1 A1 u).any fun k => decide (k ≠ 0)) = true := by
              cases e : (prods n1 A1 u).any fun k => decide (k ≠ 0) with
              | true => rfl
              | false => exact absurd ((prods_any lA1 lu).mp e) ck
            rw [ct]
            refine iteT ?_
            have hu10 : LI H10 ua u := s10 _ _ hu9
            have s510 := (s58.trans s9).trans s10
            refine ⟨_, rfl, _, rfl, ?_⟩
            intro z dz h1 h2 h3
            have s0 : Same H10 (upd (upd H10 dz (.own z)) z (.ins CParting dz [])) := fun b o e => by
              rw [upd_ne (ne_of_none e h1), upd_ne (ne_of_none e h2)]; exact e
            refine ⟨z, dz, ua, _, _, (u.map V.int).map .inl, rfl, upd_same, .inl (s0 _ _ hu10), ?_, ?_, fun t H12 ys k8 hz8 ht8 py => ⟨rfl, ?_⟩⟩
            · have go : ∀ {HH : Hp} (g : Rw), Paired (R1 HH) (g.map V.int) ((g.map V.int).map .inl) := fun g => by
                induction g with
                | nil => exact .nil
                | cons x g ih => exact .cons ⟨rfl, .int x⟩ ih
              exact go _
            · rw [List.length_map, lu]; omega
            have e := res_atoms py
            rw [e] at ht8
            refine q (.ref z) H12 (fun b o e => k8 b o (ne_of_none ((s15.trans s510) _ _ e) h1) (s0 _ _ ((s15.trans s510) _ _ e))) (.inr ⟨z, u, (1 : Nat), rfl, ⟨dz, t, hz8, ht8⟩, lu, ⟨i0, hi0, ui0⟩, ub, .inr ⟨by decide, uz, ck⟩⟩)
        · rintro σ H9 ⟨v5, rfl, s9, kk⟩
          rw [List.length_map, lus, List.take_length] at kk
          exact ⟨_, _, _, rfl, s58.trans s9, (fun _ => g1 (by decide)), fun _ => ⟨F, hF, gF, kk⟩⟩
    rintro σ H6 ⟨v3, v4, v5, rfl, s6, g1, gg2⟩
    exact q .non H6 (s15.trans s6) (.inl ⟨rfl, g1 (Nat.le_succ _), gg2 (Nat.le_refl _)⟩)
end
end AL
set_option Elab.async false
set_option maxRecDepth 100000
set_option exponentiation.threshold 70000
set_option maxHeartbeats 1000000
namespace AL
open PySem PySem.Spec PyProof.Rows L2 RZ
section
variable {P : Program} {w : World} {K : PySem.W.Frag} {mg : Str → Option Value} {base : Heap}

/-- what a linear map makes of a span -/
theorem Spn.map {S T : Fn → Prop} {φ : Fn → Fn} (l : ∀ (x y : Fn) (m t : Int), φ (fun j => m * x j + t * y j) = fun c => m * φ x c + t * φ y c) (h : ∀ y, S y → Spn T (φ y)) {x : Fn} (s : Spn S x) : Spn T (φ x) := by
  have z0 : φ (fun _ => 0) = fun _ => 0 := by
    have := l (fun _ => 0) (fun _ => 0) 0 0
    rw [show (fun _ : Nat => (0 : Int) * 0 + 0 * 0) = fun _ => 0 from funext fun _ => by omega] at this
    rw [this]; funext c; omega
  refine s.clo (R := fun x => Spn T (φ x)) ⟨?_, ?_, ?_⟩ h
  · rw [z0]; exact .zero
  · intro x y m t hx hy
    rw [l]; exact .lin m t hx hy
  · intro x s s0 hx
    refine .div s0 (hx.of fun c => ?_)
    have := congrFun (l x x s 0) c
    rw [show (fun j => s * x j + 0 * x j) = fun j => s * x j from funext fun _ => by omega] at this
    rw [this]; omega
/-- rows that hang on so many have at most this rank, through a linear map -/
theorem RankIs.map_le {rows more : List Rw} {s t : Nat} (hr : RankIs rows s) (hm : RankIs more t) {φ : Fn → Fn} (l : ∀ (x y : Fn) (m t : Int), φ (fun j => m * x j + t * y j) = fun c => m * φ x c + t * φ y c) (φr : Rw → Rw) (hφ : ∀ b, φ (vl b) = vl (φr b)) (h : ∀ r ∈ rows, ∃ q ∈ more, φ (vl q) = vl r) : s ≤ t := by
  obtain ⟨B, P, lB, _, _, _, hB⟩ := hm.ex
  have := hr.le (F := B.map φr) fun r hr => by
    obtain ⟨q, hq, e⟩ := h r hr
    rw [← e]
    refine Spn.map l ?_ (hB q hq)
    rintro y ⟨b, hb, rfl⟩
    exact .mem ⟨φr b, List.mem_map.mpr ⟨b, hb, rfl⟩, hφ b⟩
  rw [List.length_map, lB] at this
  exact this
/-- the rows beside each other -/
def besR (A A' : List Rw) : List Rw := List.zipWith (· ++ ·) A A'
theorem besR_at {A A' : List Rw} {N i : Nat} (lA : A.length = N) (lA' : A'.length = N) (hi : i < N) : (besR A A')[i]? = some (A.getD i [] ++ A'.getD i []) := by
  unfold besR
  rw [List.getElem?_zipWith, List.getElem?_eq_getElem (by omega), List.getElem?_eq_getElem (by omega), List.getD_eq_getElem?_getD, List.getElem?_eq_getElem (by omega), List.getD_eq_getElem?_getD, List.getElem?_eq_getElem (by omega)]
  rfl
theorem besR_len {A A' : List Rw} {N : Nat} (lA : A.length = N) (lA' : A'.length = N) : (besR A A').length = N := by unfold besR; rw [List.length_zipWith, lA, lA', Nat.min_self]
theorem getD_at {A : List Rw} {i : Nat} (h : i < A.length) : A[i]? = some (A.getD i []) := by
  rw [List.getD_eq_getElem?_getD, List.getElem?_eq_getElem h]; rfl
section
variable {n n' N r s t : Nat} {A A' F : List Rw}
theorem bes_vl1 (lA : A.length = N) (hA : ∀ r ∈ A, r.length = n) {i : Nat} (hi : i < N) {c : Nat} (hc : c < n) : vl (A.getD i [] ++ A'.getD i []) c = vl (A.getD i []) c := by
  rw [app_vl, if_pos (by rw [hA _ (getD_mem (by omega))]; exact hc)]
theorem bes_vl2 (lA : A.length = N) (hA : ∀ r ∈ A, r.length = n) {i : Nat} (hi : i < N) (c : Nat) : vl (A.getD i [] ++ A'.getD i []) (n + c) = vl (A'.getD i []) c := by
  have e := hA _ (getD_mem (by omega : i < A.length))
  rw [app_vl, if_neg (by rw [e]; omega), e, Nat.add_sub_cancel_left]
/-- the rank of the one is at most that of both -/
theorem bes_le1 (lA : A.length = N) (lA' : A'.length = N) (hA : ∀ r ∈ A, r.length = n) (rA : RankIs A r) (rt : RankIs (besR A A') t) : r ≤ t := by
  refine rA.map_le rt (φ := fun x c => if c < n then x c else 0) (fun x y m t => funext fun c => by (try dsimp only); split <;> simp) (List.take n) (fun b => funext fun c => take_vl.symm) fun q hq => ?_
  obtain ⟨i, hi⟩ := List.mem_iff_getElem?.mp hq
  have il := (List.getElem?_eq_some_iff.mp hi).1
  have gi : A.getD i [] = q := by rw [List.getD_eq_getElem?_getD, hi]; rfl
  refine ⟨_, List.mem_of_getElem? (besR_at lA lA' (by omega : i < N)), funext fun c => ?_⟩
  try dsimp only
  split
  · rename_i h; rw [bes_vl1 lA hA (by omega) h, gi]
  · rename_i h; rw [vl_out (by rw [hA q hq]; omega)]
theorem bes_le2 (lA : A.length = N) (lA' : A'.length = N) (hA : ∀ r ∈ A, r.length = n) (rA : RankIs A' s) (rt : RankIs (besR A A') t) : s ≤ t := by
  refine rA.map_le rt (φ := fun x c => x (n + c)) (fun x y m t => rfl) (List.drop n) (fun b => funext fun c => drop_vl.symm) fun q hq => ?_
  obtain ⟨i, hi⟩ := List.mem_iff_getElem?.mp hq
  have il := (List.getElem?_eq_some_iff.mp hi).1
  have gi : A'.getD i [] = q := by rw [List.getD_eq_getElem?_getD, hi]; rfl
  refine ⟨_, List.mem_of_getElem? (besR_at lA lA' (by omega : i < N)), funext fun c => ?_⟩
  try dsimp only
  rw [bes_vl2 lA hA (by omega), gi]
/-- the rows of the form that lead ahead: at most the rank of the one -/
theorem low_le (hF : Hnf (n + N) F) (g : Gen F (wideR A)) (hA : ∀ r ∈ A, r.length = n) (lA : A.length = N) (rA : RankIs A r) : (F.filter fun f => !kzB n f).length ≤ r := by
  have low : ∀ f ∈ F.filter (fun f => !kzB n f), f ∈ F ∧ piv f < n := fun f hf => by
    obtain ⟨mf, kz⟩ := List.mem_filter.mp hf
    refine ⟨mf, Classical.byContradiction fun c => ?_⟩
    have lf := hF.len f mf
    have : kzB n f = true := (kz_iff (by omega)).mpr fun c hc => ahead_zero (hF.ech.nz f mf) c (by omega)
    rw [this] at kz; cases kz
  have pv : ∀ f ∈ F.filter (fun f => !kzB n f), piv (f.take n) = piv f := fun f hf => piv_is (by rw [take_vl, if_pos (low f hf).2]; exact hF.ech.nz f (low f hf).1) fun j hj => by
    rw [take_vl]
    split
    · exact ahead_zero (hF.ech.nz f (low f hf).1) j hj
    · rfl
  have E : Ech n ((F.filter fun f => !kzB n f).map (List.take n)) := by
    refine ⟨fun m hm => ?_, fun m hm => ?_, ?_⟩
    · obtain ⟨f, hf, rfl⟩ := List.mem_map.mp hm
      rw [List.length_take, hF.len f (low f hf).1]; omega
    · obtain ⟨f, hf, rfl⟩ := List.mem_map.mp hm
      rw [pv f hf, take_vl, if_pos (low f hf).2]; exact hF.ech.nz f (low f hf).1
    · rw [List.pairwise_map]
      refine List.Pairwise.imp_of_mem (fun {a b} ha hb o => ?_) (hF.asc.filter _)
      rw [pv a ha, pv b hb]; exact o
  obtain ⟨B, P, lB, _, _, _, hB⟩ := rA.ex
  have le := minor_le (F := B) (B := (F.filter fun f => !kzB n f).map (List.take n)) (fun m hm => ?_) (ech_det E)
  · rw [List.length_map] at le; omega
  · obtain ⟨f, hf, rfl⟩ := List.mem_map.mp hm
    have w := spn_lin hA lA (g.1 f (low f hf).1).spn
    refine (sm_spn (S := inR B) (A := A) (a := fun i => vl f (n + i)) (n := N) fun i hi => .inr ?_).of fun c => ?_
    · rw [List.getD_eq_getElem?_getD, List.getElem?_eq_getElem (by omega)]
      exact hB _ (List.getElem_mem _)
    · rw [take_vl]
      split
      · rename_i hc; exact w c hc
      · rename_i hc
        rw [sm_congr (g := fun _ => 0) fun i hi => by
          rw [vl_out (x := A.getD i []) (by
            rw [List.getD_eq_getElem?_getD, List.getElem?_eq_getElem (by omega)]
            show (A[i]).length ≤ c
            rw [hA _ (List.getElem_mem _)]; omega), Int.mul_zero], sm_zero]
/-- all groups of the one are groups of the other: rows with columns of both have at most its rank -/
theorem kil_le {W : Nat} {B : List Rw} (k : Kil F A n A' n' N) (lA : A.length = N) (lB : B.length = N) (hA : ∀ r ∈ A, r.length = n) (hB : ∀ r ∈ B, r.length = W) (cols : ∀ c, c < W → (∃ d, d < n ∧ ∀ i, i < N → vl (B.getD i []) c = vl (A.getD i []) d) ∨ ∃ d, d < n' ∧ ∀ i, i < N → vl (B.getD i []) c = vl (A'.getD i []) d) (rA : RankIs A r) (rt : RankIs B t) : t ≤ r := by
  obtain ⟨hF, g, kk⟩ := k
  have φl : ∀ (x y : Fn) (m t : Int), (fun c => sm N fun i => (fun j => m * x j + t * y j) (n + i) * vl (B.getD i []) c) = fun c => m * (sm N fun i => x (n + i) * vl (B.getD i []) c) + t * sm N fun i => y (n + i) * vl (B.getD i []) c := fun x y m t => funext fun c => by
    rw [← sm_lin]
    exact sm_congr fun i _ => by (try dsimp only); grind
  have key := rt.le (F := (F.filter fun f => !kzB n f).map fun f => (List.range W).map fun c => sm N fun i => vl f (n + i) * vl (B.getD i []) c) fun q hq => by
    obtain ⟨i, hi⟩ := List.mem_iff_getElem?.mp hq
    have il := (List.getElem?_eq_some_iff.mp hi).1
    have gi : B.getD i [] = q := by rw [List.getD_eq_getElem?_getD, hi]; rfl
    have iA : i < A.length := by omega
    have mw : A[i] ++ unitR A.length i ∈ wideR A := List.mem_of_getElem? (wideR_at (List.getElem?_eq_getElem iA))
    have sp := (g.2 _ mw).spn
    have im := Spn.map (T := inR ((F.filter fun f => !kzB n f).map fun f => (List.range W).map fun c => sm N fun i => vl f (n + i) * vl (B.getD i []) c)) (φ := fun x c => sm N fun i => x (n + i) * vl (B.getD i []) c) φl ?_ sp
    · refine im.of fun c => ?_
      have e : ∀ k, k < N → vl (A[i] ++ unitR A.length i) (n + k) = if k = i then 1 else 0 := fun k hk => by
        have lr := hA _ (List.getElem_mem iA)
        rw [app_vl, if_neg (by omega), lr, show n + k - n = k by omega]
        exact unitR_vl (by omega)
      try dsimp only
      rw [sm_one (k := i) (by omega) fun t ht ne => by (try dsimp only); rw [e t ht, if_neg ne, Int.zero_mul], e i (by omega), if_pos rfl, Int.one_mul, gi]
    · rintro y ⟨f, hf, rfl⟩
      have z0 : ∀ c, W ≤ c → (sm N fun i => vl f (n + i) * vl (B.getD i []) c) = 0 := fun c hc => by
        rw [sm_congr (g := fun _ => 0) fun i hi => by
          rw [vl_out (x := B.getD i []) (by rw [hB _ (getD_mem (by omega))]; exact hc), Int.mul_zero], sm_zero]
      cases hk : kzB n f with
      | false =>
        refine .mem ⟨_, List.mem_map.mpr ⟨f, List.mem_filter.mpr ⟨hf, by rw [hk]; rfl⟩, rfl⟩, funext fun c => ?_⟩
        try dsimp only
        by_cases hc : c < W
        · rw [vl_get (by rw [List.getElem?_map, List.getElem?_range hc]; rfl)]
        · rw [vl_out (by rw [List.length_map, List.length_range]; omega), z0 c (by omega)]
      | true =>
        have lf := hF.len f hf
        have mk : f.drop n ∈ kerF n F := List.mem_map.mpr ⟨f, List.mem_filter.mpr ⟨hf, hk⟩, rfl⟩
        have e := (ker_item hF g hA lA mk).2.2
        have e' := kk _ mk
        refine Spn.zero.of fun c => ?_
        try dsimp only
        by_cases hc : c < W
        · rcases cols c hc with ⟨d, hd, ed⟩ | ⟨d, hd, ed⟩
          · rw [← e d hd]
            exact sm_congr fun i hi => by rw [drop_vl, ed i hi]
          · rw [← e' d hd]
            exact sm_congr fun i hi => by rw [drop_vl, ed i hi]
        · exact z0 c (by omega)
  rw [List.length_map] at key
  exact Nat.le_trans key (low_le hF g hA lA rA)
theorem bes_len (lA : A.length = N) (lA' : A'.length = N) (hA : ∀ r ∈ A, r.length = n) (hA' : ∀ r ∈ A', r.length = n') : ∀ r ∈ besR A A', r.length = n + n' := fun q hq => by
  obtain ⟨i, hi⟩ := List.mem_iff_getElem?.mp hq
  have il := (List.getElem?_eq_some_iff.mp hi).1
  rw [besR_len lA lA'] at il
  rw [besR_at lA lA' il] at hi
  obtain rfl := Option.some.inj hi
  rw [List.length_append, hA _ (getD_mem (by omega)), hA' _ (getD_mem (by omega))]
theorem bes_getD (lA : A.length = N) (lA' : A'.length = N) {i : Nat} (hi : i < N) : (besR A A').getD i [] = A.getD i [] ++ A'.getD i [] := by
  rw [List.getD_eq_getElem?_getD, besR_at lA lA' hi]; rfl
theorem bes_cols (lA : A.length = N) (lA' : A'.length = N) (hA : ∀ r ∈ A, r.length = n) {c : Nat} (hc : c < n + n') : (∃ d, d < n ∧ ∀ i, i < N → vl ((besR A A').getD i []) c = vl (A.getD i []) d) ∨ ∃ d, d < n' ∧ ∀ i, i < N → vl ((besR A A').getD i []) c = vl (A'.getD i []) d := by
  by_cases h : c < n
  · exact .inl ⟨c, h, fun i hi => by rw [bes_getD lA lA' hi, bes_vl1 lA hA hi h]⟩
  · refine .inr ⟨c - n, by omega, fun i hi => ?_⟩
    have := bes_vl2 (A' := A') lA hA hi (c - n)
    rw [show n + (c - n) = c by omega] at this
    rw [bes_getD lA lA' hi, this]
/-- together they have the rank of either -/
theorem kil_rank (k : Kil F A n A' n' N) (lA : A.length = N) (lA' : A'.length = N) (hA : ∀ r ∈ A, r.length = n) (hA' : ∀ r ∈ A', r.length = n') (rA : RankIs A r) (rt : RankIs (besR A A') t) : t = r :=
  Nat.le_antisymm (kil_le k lA (besR_len lA lA') hA (bes_len lA lA' hA hA') (fun c hc => bes_cols lA lA' hA hc) rA rt) (bes_le1 lA lA' hA rA rt)
theorem kil_rank2 (k : Kil F A' n' A n N) (lA : A.length = N) (lA' : A'.length = N) (hA : ∀ r ∈ A, r.length = n) (hA' : ∀ r ∈ A', r.length = n') (rA : RankIs A' s) (rt : RankIs (besR A A') t) : t = s :=
  Nat.le_antisymm (kil_le k lA' (besR_len lA lA') hA' (bes_len lA lA' hA hA') (fun c hc => (bes_cols lA lA' hA hc).symm) rA rt) (bes_le2 lA lA' hA rA rt)
/-- rows that depend on one another: one less is enough -/
theorem rel_drop {B : List Rw} {m : Nat} (lB : B.length = m) (rk : RankIs A r) (hs : ∀ a ∈ A, Spn (inR B) (vl a)) {u : Nat → Int} {k : Nat} (hk : k < m) (uk : u k ≠ 0) (h : ∀ c, (sm m fun i => u i * vl (B.getD i []) c) = 0) : r < m := by
  have lk : k < B.length := by omega
  have le := rk.le (F := B.eraseIdx k) fun a ha => (hs a ha).trans fun y ⟨b, hb, ey⟩ => by
    rw [ey]
    obtain ⟨i, hi⟩ := List.mem_iff_getElem?.mp hb
    have il := (List.getElem?_eq_some_iff.mp hi).1
    have oth : ∀ i, i < B.length → i ≠ k → Spn (inR (B.eraseIdx k)) (vl (B.getD i [])) := fun i hi ne => by
      refine .mem ⟨_, List.mem_eraseIdx_iff_getElem.mpr ⟨i, hi, ne, ?_⟩, rfl⟩
      rw [List.getD_eq_getElem?_getD, List.getElem?_eq_getElem hi]; rfl
    by_cases e : i = k
    · subst e
      have gi : B.getD i [] = b := by rw [List.getD_eq_getElem?_getD, hi]; rfl
      refine Spn.div (s := u i) uk ((Spn.lin (-1) 0 (sm_spn (A := B) (a := fun t => if t = i then 0 else u t) (n := m) fun t ht => ?_) Spn.zero).of fun c => ?_)
      · by_cases e : t = i
        · exact .inl (if_pos e)
        · exact .inr (oth t (by omega) e)
      · have w := h c
        have e1 : (sm m fun t => u t * vl (B.getD t []) c) = 1 * (sm m fun t => (if t = i then 0 else u t) * vl (B.getD t []) c) + 1 * (sm m fun t => if t = i then u i * vl b c else 0) := by
          rw [← sm_lin]
          refine sm_congr fun t _ => ?_
          by_cases e : t = i
          · rw [if_pos e, if_pos e, e, gi]; omega
          · rw [if_neg e, if_neg e]; omega
        have e2 : (sm m fun t => if t = i then u i * vl b c else 0) = u i * vl b c := by
          rw [sm_one (k := i) hk fun t _ ne => if_neg ne, if_pos rfl]
        rw [e1, e2] at w
        omega
    · have := oth i il e
      rwa [List.getD_eq_getElem?_getD, hi] at this
  rw [List.length_eraseIdx, if_pos lk] at le
  omega
theorem sumF_sm : ∀ {as : List Int} {F : List Rw} (j : Nat), as.length = F.length → sumF as F j = sm F.length fun i => as.getD i 0 * vl (F.getD i []) j
  | [], [], _, _ => rfl
  | a :: as, f :: F, j, h => by
    have ih := sumF_sm (as := as) (F := F) j (by simpa using h)
    rw [List.length_cons, sm_left]
    show _ = a * vl f j + sm F.length fun i => as.getD i 0 * vl (F.getD i []) j
    rw [← ih]
    unfold sumF
    rw [List.zipWith_cons_cons, List.sum_cons]
/-- a group of the one that is none of the other: together they have a higher rank -/
theorem part_rank (lA : A.length = N) (lA' : A'.length = N) (hA : ∀ r ∈ A, r.length = n) (hA' : ∀ r ∈ A', r.length = n') (rA : RankIs A r) (rt : RankIs (besR A A') t) {u : Rw} (k1 : KilR N A n u) (k2 : ¬ KilR N A' n' u) : r < t := by
  obtain ⟨c0, hc0, z0⟩ : ∃ c, c < n' ∧ (sm N fun i => vl u i * vl (A'.getD i []) c) ≠ 0 := by
    refine Classical.byContradiction fun h => k2 fun c hc => Classical.byContradiction fun z => h ⟨c, hc, z⟩
  obtain ⟨B, P, lB, _, _, _, hB⟩ := rt.ex
  have zs : Spn (inR B) fun c => sm N fun i => vl u i * vl ((besR A A').getD i []) c := sm_spn fun i hi => .inr (by
    have := besR_at (A := A) (A' := A') lA lA' hi
    rw [List.getD_eq_getElem?_getD, this]
    exact hB _ (List.mem_of_getElem? this))
  have eb : ∀ i, i < N → (besR A A').getD i [] = A.getD i [] ++ A'.getD i [] := fun i hi => by
    rw [List.getD_eq_getElem?_getD, besR_at lA lA' hi]; rfl
  obtain ⟨m, as, m0, las, e⟩ := span_sum zs
  have nz : ∃ k, k < t ∧ as.getD k 0 ≠ 0 := by
    refine Classical.byContradiction fun h => z0 ?_
    have w := e (n + c0)
    have zz : (sm B.length fun i => as.getD i 0 * vl (B.getD i []) (n + c0)) = 0 := by
      rw [sm_congr (g := fun _ => 0) fun i hi => by
        rw [show as.getD i 0 = 0 from Classical.byContradiction fun z => h ⟨i, by omega, z⟩, Int.zero_mul], sm_zero]
    rw [sumF_sm _ las, zz] at w
    try dsimp only at w
    rw [sm_congr (g := fun i => vl u i * vl (A'.getD i []) c0) fun i hi => by rw [eb i hi, bes_vl2 lA hA hi]] at w
    rcases Int.mul_eq_zero.mp w with h | h
    · exact absurd h m0
    · exact h
  obtain ⟨k, hk, ak⟩ := nz
  refine rel_drop (A := A) (B := B.map (List.take n)) (m := t) (by rw [List.length_map, lB]) rA (fun a ha => ?_) (u := fun i => as.getD i 0) hk ak fun c => ?_
  · obtain ⟨i, hi⟩ := List.mem_iff_getElem?.mp ha
    have il := (List.getElem?_eq_some_iff.mp hi).1
    have gi : A.getD i [] = a := by rw [List.getD_eq_getElem?_getD, hi]; rfl
    have im := Spn.map (T := inR (B.map (List.take n))) (φ := fun x c => if c < n then x c else 0) (fun x y m t => funext fun c => by (try dsimp only); split <;> simp) (fun y ⟨b, hb, ey⟩ => by rw [ey]; exact .mem ⟨b.take n, List.mem_map.mpr ⟨b, hb, rfl⟩, funext fun c => take_vl.symm⟩) (hB _ (List.mem_of_getElem? (besR_at (A := A) (A' := A') lA lA' (by omega : i < N))))
    refine im.of fun c => ?_
    try dsimp only
    split
    · rename_i h; rw [bes_vl1 lA hA (by omega) h, gi]
    · rename_i h; rw [vl_out (by rw [hA a ha]; omega)]
  · have gt : ∀ i, i < t → vl ((B.map (List.take n)).getD i []) c = if c < n then vl (B.getD i []) c else 0 := fun i hi => by
      rw [List.getD_eq_getElem?_getD, List.getElem?_map, getD_at (by omega)]
      exact take_vl
    by_cases hc : c < n
    · have w := e c
      rw [sumF_sm _ las, lB] at w
      try dsimp only at w
      rw [sm_congr (g := fun i => vl u i * vl (A.getD i []) c) fun i hi => by rw [eb i hi, bes_vl1 lA hA hi hc], k1 c hc, Int.mul_zero] at w
      exact Eq.trans (sm_congr fun i hi => by rw [gt i hi, if_pos hc]) w.symm
    · rw [sm_congr (g := fun _ => 0) fun i hi => by rw [gt i hi, if_neg hc, Int.mul_zero], sm_zero]
end
/-- the same, the other about -/
theorem part_rank2 {n n' N s t : Nat} {A A' : List Rw} (lA : A.length = N) (lA' : A'.length = N) (hA : ∀ r ∈ A, r.length = n) (hA' : ∀ r ∈ A', r.length = n') (rA : RankIs A' s) (rt : RankIs (besR A A') t) {u : Rw} (k1 : KilR N A' n' u) (k2 : ¬ KilR N A n u) : s < t := by
  obtain ⟨c0, hc0, z0⟩ : ∃ c, c < n ∧ (sm N fun i => vl u i * vl (A.getD i []) c) ≠ 0 := by
    refine Classical.byContradiction fun h => k2 fun c hc => Classical.byContradiction fun z => h ⟨c, hc, z⟩
  obtain ⟨B, P, lB, _, _, _, hB⟩ := rt.ex
  have zs : Spn (inR B) fun c => sm N fun i => vl u i * vl ((besR A A').getD i []) c := sm_spn fun i hi => .inr (by
    have := besR_at (A := A) (A' := A') lA lA' hi
    rw [List.getD_eq_getElem?_getD, this]
    exact hB _ (List.mem_of_getElem? this))
  have eb : ∀ i, i < N → (besR A A').getD i [] = A.getD i [] ++ A'.getD i [] := fun i hi => by
    rw [List.getD_eq_getElem?_getD, besR_at lA lA' hi]; rfl
  obtain ⟨m, as, m0, las, e⟩ := span_sum zs
  have nz : ∃ k, k < t ∧ as.getD k 0 ≠ 0 := by
    refine Classical.byContradiction fun h => z0 ?_
    have w := e c0
    have zz : (sm B.length fun i => as.getD i 0 * vl (B.getD i []) c0) = 0 := by
      rw [sm_congr (g := fun _ => 0) fun i hi => by
        rw [show as.getD i 0 = 0 from Classical.byContradiction fun z => h ⟨i, by omega, z⟩, Int.zero_mul], sm_zero]
    rw [sumF_sm _ las, zz] at w
    try dsimp only at w
    rw [sm_congr (g := fun i => vl u i * vl (A.getD i []) c0) fun i hi => by rw [eb i hi, bes_vl1 lA hA hi hc0]] at w
    rcases Int.mul_eq_zero.mp w with h | h
    · exact absurd h m0
    · exact h
  obtain ⟨k, hk, ak⟩ := nz
  refine rel_drop (A := A') (B := B.map (List.drop n)) (m := t) (by rw [List.length_map, lB]) rA (fun a ha => ?_) (u := fun i => as.getD i 0) hk ak fun c => ?_
  · obtain ⟨i, hi⟩ := List.mem_iff_getElem?.mp ha
    have il := (List.getElem?_eq_some_iff.mp hi).1
    have gi : A'.getD i [] = a := by rw [List.getD_eq_getElem?_getD, hi]; rfl
    have im := Spn.map (T := inR (B.map (List.drop n))) (φ := fun x c => x (n + c)) (fun x y m t => rfl) (fun y ⟨b, hb, ey⟩ => by rw [ey]; exact .mem ⟨b.drop n, List.mem_map.mpr ⟨b, hb, rfl⟩, funext fun c => drop_vl.symm⟩) (hB _ (List.mem_of_getElem? (besR_at (A := A) (A' := A') lA lA' (by omega : i < N))))
    refine im.of fun c => ?_
    try dsimp only
    rw [bes_vl2 lA hA (by omega), gi]
  · have gt : ∀ i, i < t → vl ((B.map (List.drop n)).getD i []) c = vl (B.getD i []) (n + c) := fun i hi => by
      rw [List.getD_eq_getElem?_getD, List.getElem?_map, getD_at (by omega)]
      exact drop_vl
    have w := e (n + c)
    rw [sumF_sm _ las, lB] at w
    try dsimp only at w
    rw [sm_congr (g := fun i => vl u i * vl (A'.getD i []) c) fun i hi => by rw [eb i hi, bes_vl2 lA hA hi]] at w
    have kz : (sm N fun i => vl u i * vl (A'.getD i []) c) = 0 := by
      by_cases hc : c < n'
      · exact k1 c hc
      · rw [sm_congr (g := fun _ => 0) fun i hi => by
          rw [vl_out (x := A'.getD i []) (by rw [hA' _ (getD_mem (by omega))]; omega), Int.mul_zero], sm_zero]
    rw [kz, Int.mul_zero] at w
    exact Eq.trans (sm_congr fun i hi => by rw [gt i hi]) w.symm

end
end AL
set_option Elab.async false
set_option maxRecDepth 100000
set_option exponentiation.threshold 70000
set_option maxHeartbeats 1000000
namespace AL
open PySem PySem.Spec PyProof.Rows L2 RZ
section
variable {P : Program} {w : World} {K : PySem.W.Frag} {mg : Str → Option Value} {base : Heap}

/-- _law_is_matrix(value, 1, wide), one row of whole numbers -/
def spIM : Sp := fun vs H Q _ => ∃ (v t : Addr) (g : Rw), vs = [.ref v, .int 1, .int (g.length : Int)] ∧ H v = some (.tup [.ref t]) ∧ H t = some (.tup (g.map V.int)) ∧ g.length ≤ 100 ∧ ∀ H', Same H H' → Q (.bl true) H'
/-- _law_column(exponents, i) -/
def spCo : Sp := fun vs H Q _ => ∃ (w : Addr) (as : List Addr) (rows : List Rw) (n i : Nat), vs = [.ref w, .int (i : Int)] ∧ (H w = some (.lst (as.map V.ref)) ∨ H w = some (.tup (as.map V.ref))) ∧ Paired (fun a r => H a = some (.tup (r.map V.int))) as rows ∧ (∀ r ∈ rows, r.length = n) ∧ i < n ∧ rows.length ≤ 100 ∧ ∀ D H', H D = none → Same H H' → LI H' D (rows.map fun r => vl r i) → Q (.ref D) H'

abbrev st_law_is_whole : Stmt := top 30
theorem sc_law_is_whole : FnScope ["_law_value"] ["_law_value"] (defScope st_law_is_whole) := ⟨rfl, rfl, rfl, by decide +kernel, rfl, by decide +kernel, by decide +kernel⟩
theorem ok_law_is_whole (B : Blt mg)  {f_law_is_whole : Addr} {fd_law_is_whole : FuncData} (D_law_is_whole : DefAt K mg "_law_is_whole" st_law_is_whole ["_law_value"] f_law_is_whole fd_law_is_whole) : FnOk P w K mg base CX0 1 f_law_is_whole fd_law_is_whole ["_law_value"] spWhI := by
  refine D_law_is_whole.F.ok sc_law_is_whole (fun vs H Q E h => ?_) (fun cdv A outer s H vs Q E hr h => ?_)
  · obtain ⟨i, rfl, _⟩ := h; rfl
  · have hu := hu_of hr
    refine ⟨_, (pss_one (ps_ret (pe_and (pe_callB call_isi (by rfl) B.isinstance_ (by decide +kernel) (pa_cons (pv 0) (pa_cons (pe_bltn (v := .ty "int") (by rfl) B.int_ PyProof.Rows.Boot.«int» rfl) pa_nil))) (pe_one (pe_not (pe_callB call_isi (by rfl) B.isinstance_ (by decide +kernel) (pa_cons (pv 0) (pa_cons (pe_bltn (v := .ty "bool") (by rfl) B.bool_ PyProof.Rows.Boot.«bool» rfl) pa_nil)))))))), ?_⟩
    obtain ⟨i, rfl, q⟩ := h
    refine ⟨_, rfl, _, _, _, _, _, rfl, ClsV.ty _, TyX.base (.int _), rfl, true, rfl, ?_⟩
    refine iteT ?_
    refine ⟨_, rfl, _, _, _, _, _, rfl, ClsV.ty _, TyX.base (.int _), rfl, _, rfl, ?_⟩
    exact q
abbrev st_law_is_matrix : Stmt := top 36
theorem sc_law_is_matrix : FnScope ["_law_value", "_law_many", "_law_wide", "_law_row", "_law_one"] ["_law_value", "_law_many", "_law_wide"] (defScope st_law_is_matrix) := ⟨rfl, rfl, rfl, by decide +kernel, rfl, by decide +kernel, by decide +kernel⟩
theorem ok_law_is_matrix (B : Blt mg)  {f_law_is_whole : Addr} {fd_law_is_whole : FuncData} (D_law_is_whole : DefAt K mg "_law_is_whole" st_law_is_whole ["_law_value"] f_law_is_whole fd_law_is_whole) {f_law_is_matrix : Addr} {fd_law_is_matrix : FuncData} (D_law_is_matrix : DefAt K mg "_law_is_matrix" st_law_is_matrix ["_law_value", "_law_many", "_law_wide"] f_law_is_matrix fd_law_is_matrix) : FnOk P w K mg base CX0 2 f_law_is_matrix fd_law_is_matrix ["_law_value", "_law_many", "_law_wide"] spIM := by
  have OK_law_is_whole : FnOk P w K mg base CX0 1 f_law_is_whole fd_law_is_whole ["_law_value"] spWhI := ok_law_is_whole B  D_law_is_whole
  refine D_law_is_matrix.F.ok sc_law_is_matrix (fun vs H Q E h => ?_) (fun cdv A outer s H vs Q E hr h => ?_)
  · obtain ⟨v, t, g, rfl, _⟩ := h; rfl
  · have hu := hu_of hr
    refine ⟨_, (pss_cons (ps_if (PW.pt (pw_or (pt_not (pt_val (pe_callB call_isi (by rfl) B.isinstance_ (by decide +kernel) (pa_cons (pv 0) (pa_cons (pe_bltn (v := .ty "tuple") (by rfl) B.tuple_ PyProof.Rows.Boot.«tuple» rfl) pa_nil))))) (pw_or1 (pt_cmpR op_ne (pe_callB call_len_seq (by rfl) B.len_ (by decide +kernel) (pa_cons (pv 0) pa_nil)) (pv 1) (nomark _))))) (pss_one (ps_ret pe_bl)) pss_nil)
    (pss_cons (ps_for PassesOwn.never rfl (pi_tup (pv 0)) (pg_name (i := 3) sc_law_is_matrix.nd rfl (Or.inl rfl))
      (pss_one (ps_if (PW.pt (pw_or (pt_not (pt_val (pe_callB call_isi (by rfl) B.isinstance_ (by decide +kernel) (pa_cons (pv 3) (pa_cons (pe_bltn (v := .ty "tuple") (by rfl) B.tuple_ PyProof.Rows.Boot.«tuple» rfl) pa_nil))))) (pw_or (pt_cmpR op_ne (pe_callB call_len_seq (by rfl) B.len_ (by decide +kernel) (pa_cons (pv 3) pa_nil)) (pv 2) (nomark _)) (pw_or1 (pt_cmpR (op_neD hr.units) (pe_lc (own := [("_law_one", 4)]) (g := gName 4) rfl sc_law_is_matrix.nd (pi_tup (pv 3)) (blkOk_by (own := [("_law_one", 4)]) (N := ["_law_value", "_law_many", "_law_wide", "_law_row", "_law_one"]) (sc := defScope st_law_is_matrix) (by decide +kernel)) (fun _ _ _ _ _ => (pg_name (i := 4) sc_law_is_matrix.nd rfl (Or.inl rfl))) (fun _ _ _ _ _ => (pts_one (pt_not (pt_val (pe_call OK_law_is_whole (hr.mono (by decide)) rfl D_law_is_whole.m D_law_is_whole.F.kp D_law_is_whole.b .nil pass0 (pa_cons (pv 4) pa_nil)))))) (fun _ _ _ _ _ => (pv 4))) (pe_lst pa_nil) (nomark _)))))) (pss_one (ps_ret pe_bl)) pss_nil)))
    (pss_one (ps_ret pe_bl)))), ?_⟩
    obtain ⟨v, t, g, rfl, hv, ht, lg, q⟩ := h
    refine ⟨_, rfl, _, _, _, _, _, rfl, ClsV.ty _, TyX.base (.tup hv), rfl, true, rfl, ?_⟩
    refine iteF ?_
    refine ⟨_, rfl, v, _, rfl, .inr (SqT.of hv), _, rfl, rfl, _, rfl, ?_⟩
    rw [show (!decide (V.int (([V.ref t] : List V).length : Int) = V.int 1)) = false from rfl]
    refine iteF ?_
    refine ⟨_, rfl, v, rfl, ⟨_, SqT.of hv⟩, for_tup (K := K) (a := v) (xs := [V.ref t]) (fun i σ H' => ∃ v3 : Option V, σ = [some (.ref v), some (.int 1), some (.int (g.length : Int)), v3, none] ∧ Same H H') ⟨_, rfl, fun _ _ h => h⟩ (fun i σ H' _ hh => by obtain ⟨_, _, s⟩ := hh; exact SqT.of (s _ _ hv)) ?_ ?_⟩
    · rintro i x σ H1 hx ⟨v3, rfl, s1⟩
      obtain rfl : x = V.ref t := by
        cases i with
        | zero => exact (Option.some.inj hx).symm
        | succ i => simp at hx
      have ht1 := s1 _ _ ht
      refine ⟨_, rfl, _, _, _, _, _, rfl, ClsV.ty _, TyX.base (.tup ht1), rfl, true, rfl, ?_⟩
      refine iteF ?_
      refine ⟨_, rfl, t, _, rfl, .inr (SqT.of ht1), _, rfl, rfl, _, rfl, ?_⟩
      rw [List.length_map, decide_eq_true rfl]
      refine iteF ?_
      refine ⟨_, rfl, t, rfl, ⟨_, SqT.of ht1⟩, fun D hD => ?_⟩
      refine lc_tup (K := K) (a := t) (xs := g.map V.int) (fun i H' => Same H1 H' ∧ H' D = some (.lst [])) ⟨AL.Same.new hD, upd_same⟩ (fun i H' _ hh => SqT.of (hh.1 _ _ ht1)) ?_ ?_
      · rintro i x H2 hx ⟨s2, hd⟩
        obtain ⟨z, hz, rfl⟩ := map_int hx
        refine ⟨rfl, ?_⟩
        refine ⟨_, rfl, z, rfl, true, rfl, ?_⟩
        refine iteF ?_
        exact ⟨s2, hd⟩
      rintro H2 ⟨s2, hd⟩
      refine ⟨(by show 0 ≤ sizeLine; decide), fun l hl => ?_⟩
      have n1 := AL.Same.new (o := .lst []) hl
      refine ⟨_, _, .lst (SqL.of (n1 _ _ hd)) .nil, .lst (SqL.of upd_same) .nil, rfl, rfl, _, rfl, ?_⟩
      rw [SeqAt.eqv_refl _ (SeqAt.canLay_of_shaped (by rfl))]
      refine iteF ?_
      exact ⟨_, rfl, s1.trans (s2.trans n1)⟩
    · rintro σ H1 ⟨v3, rfl, s1⟩
      exact q H1 s1
abbrev st_law_column : Stmt := top 39
theorem sc_law_column : FnScope ["_law_exponents", "_law_i", "_law_row"] ["_law_exponents", "_law_i"] (defScope st_law_column) := ⟨rfl, rfl, rfl, by decide +kernel, rfl, by decide +kernel, by decide +kernel⟩
theorem ok_law_column (B : Blt mg)  {f_law_column : Addr} {fd_law_column : FuncData} (D_law_column : DefAt K mg "_law_column" st_law_column ["_law_exponents", "_law_i"] f_law_column fd_law_column) : FnOk P w K mg base CX0 1 f_law_column fd_law_column ["_law_exponents", "_law_i"] spCo := by
  refine D_law_column.F.ok sc_law_column (fun vs H Q E h => ?_) (fun cdv A outer s H vs Q E hr h => ?_)
  · obtain ⟨w, as, rows, n, i, rfl, _⟩ := h; rfl
  · have hu := hu_of hr
    refine ⟨_, (pss_one (ps_ret (pe_lc (own := [("_law_row", 2)]) (g := gName 2) (tt := tYes) rfl sc_law_column.nd (pi_seq (pv 0)) (blkOk_by (own := [("_law_row", 2)]) (N := ["_law_exponents", "_law_i", "_law_row"]) (sc := defScope st_law_column) (by decide +kernel)) (fun _ _ _ _ _ => pg_name (i := 2) sc_law_column.nd rfl (Or.inl rfl)) (fun _ _ _ _ _ => pts_nil) (fun _ _ _ _ _ => (pe_ix (ix_tup : IxR _ (rIxT K)) (pv 2) (pv 1) (fun _ _ => rfl)))))), ?_⟩
    obtain ⟨w, as, rows, n, i, rfl, W1, W2, hl, hi, lr, q⟩ := h
    have las := prd_len W2
    obtain ⟨k, sq⟩ := sq_of (K := K) W1
    refine ⟨_, rfl, w, k, rfl, ⟨_, sq _ (fun _ _ h => h)⟩, fun D hD => ?_⟩
    refine lc_seq (K := K) (a := w) (k := k) (xs := as.map V.ref) (fun t H' => Same H H' ∧ H' D = some (.lst (((rows.map fun r => vl r i).take t).map V.int))) ⟨AL.Same.new hD, upd_same⟩ (fun i H' _ hh => sq _ hh.1) ?_ ?_
    · rintro t x H1 hx ⟨s1, hd⟩
      obtain ⟨a, ha, rfl⟩ := map_ref hx
      obtain ⟨r, hr, hra⟩ := prd_get W2 ha
      have lrr := hl r (List.mem_of_getElem? hr)
      have gr : atI (r.map V.int) ((i : Nat) : Int) = some (.int (vl r i)) := by rw [atI_of (by rw [List.length_map]; omega), List.getElem?_map, vl_at (by omega)]; rfl
      refine ⟨rfl, ?_⟩
      refine ⟨_, rfl, _, rfl, a, _, _, _, rfl, rfl, SqT.of (s1 _ _ hra), gr, _, hd, ?_, AL.Same.updn s1 hD, ?_⟩
      · rw [List.length_map, List.length_take, List.length_map]; exact Nat.lt_of_le_of_lt (by omega : _ ≤ 1000) (by decide)
      · have g : (rows.map fun r => vl r i)[t]? = some (vl r i) := by rw [List.getElem?_map, hr]; rfl
        rw [upd_same, List.take_add_one, g, List.map_append]; rfl
    rintro H1 ⟨s1, hd⟩
    rw [List.take_of_length_le (by rw [List.length_map, List.length_map]; omega)] at hd
    exact q D H1 hD s1 hd
end
end AL
set_option Elab.async false
set_option maxRecDepth 100000
set_option exponentiation.threshold 70000
set_option maxHeartbeats 1000000
namespace AL
open PySem PySem.Spec PyProof.Rows L2 RZ
section
variable {P : Program} {w : World} {K : PySem.W.Frag} {mg : Str → Option Value} {base : Heap}
def nzR (x : Rw) : Rw := x.filter fun v => decide (v ≠ 0)
theorem filt_nil {x : Rw} : nzR x = [] ↔ ∀ j, vl x j = 0 := by
  unfold nzR
  rw [List.filter_eq_nil_iff]
  constructor
  · intro h j
    by_cases c : j < x.length
    · have := h _ (vl_mem c)
      rw [decide_eq_true_iff] at this
      exact Classical.byContradiction fun z => this z
    · exact vl_out (by omega)
  · intro h v hv
    obtain ⟨j, hj⟩ := List.mem_iff_getElem?.mp hv
    rw [decide_eq_true_iff, ← vl_get hj]
    exact fun z => z (h j)

def zN (js : List Nat) : List Int := js.map fun j : Nat => (j : Int)
theorem zN_len (js : List Nat) : (zN js).length = js.length := List.length_map _
theorem inV_at {js : List Nat} {j : Nat} (h : j ∈ js) : inV (V.int (j : Int)) ((zN js).map V.int) = true := by
  unfold inV
  rw [List.any_eq_true]
  refine ⟨V.int (j : Int), List.mem_map.mpr ⟨(j : Int), List.mem_map.mpr ⟨j, h, rfl⟩, rfl⟩, ?_⟩
  simp [eqV]
/-- the places where it does not add up to 0 -/
def badC (N n : Nat) (A : List Rw) (u : Rw) : List Nat := (List.range n).filter fun c => decide ((sm N fun i => vl u i * vl (A.getD i []) c) ≠ 0)
theorem badC_nil {N n : Nat} {A : List Rw} {u : Rw} : badC N n A u = [] ↔ KilR N A n u := by
  unfold badC
  rw [List.filter_eq_nil_iff]
  constructor
  · intro h c hc
    have := h c (List.mem_range.mpr hc)
    rw [decide_eq_true_iff] at this
    exact Classical.byContradiction fun z => this z
  · intro h c hc
    rw [decide_eq_true_iff]
    exact fun z => z (h c (List.mem_range.mp hc))
/-- _law_group_right(group, exponents, places), a right one -/
def spGr : Sp := fun vs H Q _ => ∃ (t w l : Addr) (as : List Addr) (rows : List Rw) (g : Rw) (n : Nat) (js : List Nat), vs = [.ref t, .ref w, .ref l] ∧ H t = some (.tup (g.map V.int)) ∧ (H w = some (.lst (as.map V.ref)) ∨ H w = some (.tup (as.map V.ref))) ∧ Paired (fun a r => H a = some (.tup (r.map V.int))) as rows ∧ rows ≠ [] ∧ (∀ r ∈ rows, r.length = n) ∧ 0 < n ∧ n ≤ 50 ∧ rows.length ≤ 50 ∧ (∀ r ∈ rows, ∀ v ∈ r, v.natAbs < 2 ^ 60) ∧ H l = some (.lst ((zN js).map V.int)) ∧ g.length = rows.length ∧ (∃ j ∈ js, vl g j ≠ 0) ∧ (∀ j, vl g j ≠ 0 → j ∈ js) ∧ (∀ j, (vl g j).natAbs < 2 ^ 3000) ∧
  ∀ H', Same H H' → Q (.bl (decide (badC rows.length n rows g = []))) H'

abbrev st_law_group_right : Stmt := top 40
theorem sc_law_group_right : FnScope ["_law_group", "_law_exponents", "_law_places", "_law_one", "_law_j", "_law_i"] ["_law_group", "_law_exponents", "_law_places"] (defScope st_law_group_right) := ⟨rfl, rfl, rfl, by decide +kernel, rfl, by decide +kernel, by decide +kernel⟩
theorem ok_law_group_right (B : Blt mg)  {f_law_column : Addr} {fd_law_column : FuncData} (D_law_column : DefAt K mg "_law_column" st_law_column ["_law_exponents", "_law_i"] f_law_column fd_law_column) {f_law_inner : Addr} {fd_law_inner : FuncData} (D_law_inner : DefAt K mg "_law_inner" st_law_inner ["_law_row", "_law_column_here"] f_law_inner fd_law_inner) {f_law_is_whole : Addr} {fd_law_is_whole : FuncData} (D_law_is_whole : DefAt K mg "_law_is_whole" st_law_is_whole ["_law_value"] f_law_is_whole fd_law_is_whole) {f_law_is_matrix : Addr} {fd_law_is_matrix : FuncData} (D_law_is_matrix : DefAt K mg "_law_is_matrix" st_law_is_matrix ["_law_value", "_law_many", "_law_wide"] f_law_is_matrix fd_law_is_matrix) {f_law_group_right : Addr} {fd_law_group_right : FuncData} (D_law_group_right : DefAt K mg "_law_group_right" st_law_group_right ["_law_group", "_law_exponents", "_law_places"] f_law_group_right fd_law_group_right) : FnOk P w K mg base CX0 3 f_law_group_right fd_law_group_right ["_law_group", "_law_exponents", "_law_places"] spGr := by
  have OK_law_column : FnOk P w K mg base CX0 1 f_law_column fd_law_column ["_law_exponents", "_law_i"] spCo := ok_law_column B  D_law_column
  have OK_law_inner : FnOk P w K mg base CX0 1 f_law_inner fd_law_inner ["_law_row", "_law_column_here"] spInn := ok_law_inner B  D_law_inner
  have OK_law_is_matrix : FnOk P w K mg base CX0 2 f_law_is_matrix fd_law_is_matrix ["_law_value", "_law_many", "_law_wide"] spIM := ok_law_is_matrix B  D_law_is_whole D_law_is_matrix
  refine D_law_group_right.F.ok sc_law_group_right (fun vs H Q E h => ?_) (fun cdv A outer s H vs Q E hr h => ?_)
  · obtain ⟨t, w, l, as, rows, g, n, js, rfl, _⟩ := h; rfl
  · have hu := hu_of hr
    refine ⟨_, (pss_cons (ps_if (PW.pt (pw_or (pt_not (pt_val (pe_call OK_law_is_matrix (hr.mono (by decide)) rfl D_law_is_matrix.m D_law_is_matrix.F.kp D_law_is_matrix.b .nil pass0 (pa_cons (pe_tup (pa_cons (pv 0) pa_nil)) (pa_cons pe_int (pa_cons (pe_callB call_len_seq (by rfl) B.len_ (by decide +kernel) (pa_cons (pv 1) pa_nil)) pa_nil)))))) (pw_or1 (pt_cmpR (op_eqD hr.units) (pe_lc (own := [("_law_one", 3)]) (g := gName 3) rfl sc_law_group_right.nd (pi_tup (pv 0)) (blkOk_by (own := [("_law_one", 3)]) (N := ["_law_group", "_law_exponents", "_law_places", "_law_one", "_law_j", "_law_i"]) (sc := defScope st_law_group_right) (by decide +kernel)) (fun _ _ _ _ _ => (pg_name (i := 3) sc_law_group_right.nd rfl (Or.inl rfl))) (fun _ _ _ _ _ => (pts_one (pt_cmpR op_ne (pv 3) pe_int (nomark _)))) (fun _ _ _ _ _ => (pv 3))) (pe_lst pa_nil) (nomark _))))) (pss_one (ps_ret pe_bl)) pss_nil)
    (pss_cons (ps_if (pt_cmpR (op_neD hr.units) (pe_lc (own := [("_law_j", 4)]) (g := gName 4) rfl sc_law_group_right.nd (pi_range1 rfl B.range_ (pa_cons (pe_callB (call_lenK : CallR _ (.builtin "len") (rLenK K)) (by rfl) B.len_ (by decide +kernel) (pa_cons (pv 0) pa_nil)) pa_nil)) (blkOk_by (own := [("_law_j", 4)]) (N := ["_law_group", "_law_exponents", "_law_places", "_law_one", "_law_j", "_law_i"]) (sc := defScope st_law_group_right) (by decide +kernel)) (fun _ _ _ _ _ => (pg_name (i := 4) sc_law_group_right.nd rfl (Or.inl rfl))) (fun _ _ _ _ _ => (pts_one (PW.pt (pw_and (pt_cmpR op_ne (pe_ix (ix_tup : IxR _ (rIxT K)) (pv 0) (pv 4) (fun _ _ => rfl)) pe_int (nomark _)) (pw_and1 (pt_cmpR (op_notIn_seq : OpR _ _ (rIn K true)) (pv 4) (pv 2) rfl)))))) (fun _ _ _ _ _ => (pv 4))) (pe_lst pa_nil) (nomark _)) (pss_one (ps_ret pe_bl)) pss_nil)
    (pss_one (ps_ret (pe_cmpR (op_eqD hr.units) (pe_lc (own := [("_law_i", 5)]) (g := gName 5) rfl sc_law_group_right.nd (pi_range1 rfl B.range_ (pa_cons (pe_callB (call_lenK : CallR _ (.builtin "len") (rLenK K)) (by rfl) B.len_ (by decide +kernel) (pa_cons (pe_ix (ix_seq : IxR _ (rIx K)) (pv 1) pe_int (fun _ _ => rfl)) pa_nil)) pa_nil)) (blkOk_by (own := [("_law_i", 5)]) (N := ["_law_group", "_law_exponents", "_law_places", "_law_one", "_law_j", "_law_i"]) (sc := defScope st_law_group_right) (by decide +kernel)) (fun _ _ _ _ _ => (pg_name (i := 5) sc_law_group_right.nd rfl (Or.inl rfl))) (fun _ _ _ _ _ => (pts_one (pt_cmpR op_ne (pe_call OK_law_inner (hr.mono (by decide)) rfl D_law_inner.m D_law_inner.F.kp D_law_inner.b .nil pass0 (pa_cons (pv 0) (pa_cons (pe_call OK_law_column (hr.mono (by decide)) rfl D_law_column.m D_law_column.F.kp D_law_column.b .nil pass0 (pa_cons (pv 1) (pa_cons (pv 5) pa_nil))) pa_nil))) pe_int (nomark _)))) (fun _ _ _ _ _ => (pv 5))) (pe_lst pa_nil) (nomark _)))))), ?_⟩
    obtain ⟨t, w, l, as, rows, g, n, js, rfl, ht, W1, W2, ne, hl, n0, n50, lr, hB, hjs, lg, ⟨j0, mj0, gj0⟩, sup, gb, q⟩ := h
    have las := prd_len W2
    refine ⟨_, rfl, (by show 1 ≤ sizeLine; decide), fun T hT => ?_⟩
    have nT := AL.Same.new (o := .tup [.ref t]) hT
    refine ⟨_, rfl, w, _, rfl, (W1.imp (fun z => SqL.of (nT _ _ z)) fun z => SqT.of (nT _ _ z)), T, t, g, ?_, upd_same, nT _ _ ht, by omega, fun H1 s1 => ⟨_, rfl, ?_⟩⟩
    · rw [List.length_map, las, lg]; rfl
    refine iteF ?_
    have s01 := nT.trans s1
    have ht1 := s01 _ _ ht
    refine ⟨_, rfl, t, rfl, ⟨_, SqT.of ht1⟩, fun D hD => ?_⟩
    refine lc_tup (K := K) (a := t) (xs := g.map V.int) (fun i H' => Same H1 H' ∧ H' D = some (.lst ((nzR (g.take i)).map V.int))) ⟨AL.Same.new hD, upd_same⟩ (fun i H' _ hh => SqT.of (hh.1 _ _ ht1)) ?_ ?_
    · rintro i x H2 hx ⟨s2, hd⟩
      obtain ⟨z, hz, rfl⟩ := map_int hx
      have il := (List.getElem?_eq_some_iff.mp hz).1
      have st : nzR (g.take (i + 1)) = nzR (g.take i) ++ (if z = 0 then [] else [z]) := by
        unfold nzR
        rw [List.take_add_one, hz, List.filter_append]
        congr 1
        show List.filter _ [z] = _
        rw [List.filter_cons]
        by_cases c : z = 0
        · rw [if_pos c, if_neg (by rw [decide_eq_true_iff]; exact fun w => w c)]; rfl
        · rw [if_neg c, if_pos (decide_eq_true c)]; rfl
      refine ⟨rfl, ?_⟩
      refine ⟨_, rfl, rfl, _, rfl, ?_⟩
      by_cases c : z = 0
      · rw [show (!decide (V.int z = V.int 0)) = false by rw [c, decide_eq_true rfl]; rfl]
        refine iteF ?_
        refine ⟨s2, ?_⟩
        rw [st, if_pos c, List.append_nil]; exact hd
      · rw [show (!decide (V.int z = V.int 0)) = true by rw [decide_eq_false (fun w => c (by injection w))]; rfl]
        refine iteT ?_
        refine ⟨_, rfl, _, hd, ?_, AL.Same.updn s2 hD, ?_⟩
        · rw [List.length_map]
          have w := List.length_filter_le (fun v : Int => decide (v ≠ 0)) (g.take i)
          rw [List.length_take] at w
          exact Nat.lt_of_le_of_lt (by unfold nzR; omega : _ ≤ 1000) (by decide)
        · rw [upd_same, st, if_neg c, List.map_append]; rfl
    rintro H2 ⟨s2, hd⟩
    rw [List.length_map, List.take_length] at hd
    refine ⟨(by show 0 ≤ sizeLine; decide), fun e he => ?_⟩
    have ne_ := AL.Same.new (o := .lst []) he
    refine ⟨.list ((nzR g).map PyData.int), .list (([] : List Int).map PyData.int), .lst (SqL.of (ne_ _ _ hd)) (dpAll_int _), .lst (SqL.of upd_same) .nil, shaped_intsL _, shaped_intsL _, _, rfl, ?_⟩
    rw [eqv_intsL, show decide (nzR g = []) = false from decide_eq_false fun z => gj0 (filt_nil.mp z j0)]
    refine iteF ?_
    have s02 := s01.trans (s2.trans ne_)
    have ht2 := s02 _ _ ht
    have hjs2 := s02 _ _ hjs
    have W12 : upd H2 e (.lst []) w = some (.lst (as.map V.ref)) ∨ upd H2 e (.lst []) w = some (.tup (as.map V.ref)) := W1.imp (s02 _ _) (s02 _ _)
    have W22 : Paired (fun a r => upd H2 e (.lst []) a = some (.tup (r.map V.int))) as rows := paired_mono W2 fun _ _ z => s02 _ _ z
    generalize upd H2 e (.lst []) = H3 at s02 ht2 hjs2 W12 W22 ⊢
    clear ne_ he hd s2 hD ht1 s01 nT
    refine ⟨_, rfl, t, _, rfl, .inr (SqT.of ht2), _, rfl, ?_, ?_, fun D hD => ?_⟩
    · rw [List.length_map]; omega
    · rw [List.length_map]; omega
    rw [List.length_map, lg]
    refine lc_range (lo := 0) (n := ((rows.length : Nat) : Int).toNat) (fun i H' => Same H3 H' ∧ H' D = some (.lst [])) ⟨AL.Same.new hD, upd_same⟩ ?_ ?_
    · rintro i H4 hi ⟨s4, hd⟩
      rw [Int.toNat_natCast] at hi
      have zi : (0 : Int) + (i : Int) = ((i : Nat) : Int) := Int.zero_add _
      rw [zi]
      have gi : atI (g.map V.int) ((i : Nat) : Int) = some (.int (vl g i)) := by rw [atI_of (by rw [List.length_map]; omega), List.getElem?_map, vl_at (by omega)]; rfl
      refine ⟨rfl, ?_⟩
      refine ⟨_, rfl, _, rfl, t, _, _, _, rfl, rfl, SqT.of (s4 _ _ ht2), gi, rfl, _, rfl, ?_⟩
      by_cases c : vl g i = 0
      · rw [show (!decide (V.int (vl g i) = V.int 0)) = false by rw [c, decide_eq_true rfl]; rfl]
        refine iteF ?_
        refine iteF ?_
        exact ⟨s4, hd⟩
      · rw [show (!decide (V.int (vl g i) = V.int 0)) = true by rw [decide_eq_false (fun w => c (by injection w))]; rfl]
        refine iteT ?_
        refine ⟨_, rfl, _, rfl, l, _, rfl, .inl (SqL.of (s4 _ _ hjs2)), rfl, ?_, _, rfl, ?_⟩
        · rw [List.all_eq_true]; intro y hy; obtain ⟨z, _, rfl⟩ := List.mem_map.mp hy; rfl
        rw [inV_at (sup i c)]
        refine iteF ?_
        exact ⟨s4, hd⟩
    rintro H4 ⟨s4, hd⟩
    refine ⟨(by show 0 ≤ sizeLine; decide), fun e he => ?_⟩
    have ne_ := AL.Same.new (o := .lst []) he
    refine ⟨_, _, .lst (SqL.of (ne_ _ _ hd)) .nil, .lst (SqL.of upd_same) .nil, rfl, rfl, _, rfl, ?_⟩
    rw [SeqAt.eqv_refl _ (SeqAt.canLay_of_shaped (by rfl))]
    refine iteF ?_
    have s34 := s4.trans ne_
    have s04 := s02.trans s34
    have ht4 := s34 _ _ ht2
    have W14 : upd H4 e (.lst []) w = some (.lst (as.map V.ref)) ∨ upd H4 e (.lst []) w = some (.tup (as.map V.ref)) := W12.imp (s34 _ _) (s34 _ _)
    have W24 : Paired (fun a r => upd H4 e (.lst []) a = some (.tup (r.map V.int))) as rows := paired_mono W22 fun _ _ z => s34 _ _ z
    generalize upd H4 e (.lst []) = H5 at s04 ht4 W14 W24 ⊢
    clear ne_ he hd s4 s34 W12 W22 hjs2 ht2 s02
    obtain ⟨r0, rows', hrs⟩ : ∃ r0 rows', rows = r0 :: rows' := by
      cases rows with
      | nil => exact absurd rfl ne
      | cons r0 rows' => exact ⟨r0, rows', rfl⟩
    obtain ⟨a0, as', has⟩ : ∃ a0 as', as = a0 :: as' := by
      cases as with
      | nil => rw [hrs] at las; simp at las
      | cons a0 as' => exact ⟨a0, as', rfl⟩
    have h0 : H5 a0 = some (.tup (r0.map V.int)) := by rw [hrs, has] at W24; cases W24 with | cons z _ => exact z
    have l0 := hl r0 (by rw [hrs]; exact List.mem_cons_self ..)
    have g0 : atI (as.map V.ref) 0 = some (.ref a0) := by rw [has]; exact (atI_of (by rw [List.length_map, List.length_cons]; omega : 0 < _))
    refine ⟨_, rfl, rIx_seq W14 g0 ?_⟩
    refine ⟨a0, _, rfl, .inr (SqT.of h0), ?_⟩
    rw [List.length_map, l0]
    refine ⟨_, rfl, by omega, by omega, fun D2 hD2 => ?_⟩
    refine lc_range (lo := 0) (n := ((n : Nat) : Int).toNat) (fun i H' => Same H5 H' ∧ H' D2 = some (.lst ((zN (badC rows.length i rows g)).map V.int))) ⟨AL.Same.new hD2, Eq.trans upd_same rfl⟩ ?_ ?_
    · rintro i H6 hi ⟨s6, hd⟩
      rw [Int.toNat_natCast] at hi
      have zi : (0 : Int) + (i : Int) = ((i : Nat) : Int) := Int.zero_add _
      rw [zi]
      refine ⟨rfl, ?_⟩
      refine ⟨_, rfl, _, rfl, _, rfl, w, as, rows, n, i, rfl, W14.imp (s6 _ _) (s6 _ _), paired_mono W24 fun _ _ z => s6 _ _ z, hl, hi, by omega, fun C H7 hC s7 hcol => ?_⟩
      have s67 := s6.trans s7
      refine ⟨t, C, g, _, rfl, .inr (s67 _ _ ht4), hcol, by rw [List.length_map, lg], by rw [List.length_map]; omega, fun x hx => ?_, fun x hx => ?_, fun H8 s8 => ?_⟩
      · obtain ⟨j, hj⟩ := List.mem_iff_getElem?.mp hx
        rw [← vl_get hj]; exact gb j
      · obtain ⟨r, hr, rfl⟩ := List.mem_map.mp hx
        by_cases c : i < r.length
        · exact Nat.lt_of_lt_of_le (hB r hr _ (vl_mem c)) (Nat.pow_le_pow_right (by decide) (by decide))
        · rw [vl_out (by omega)]; exact Nat.two_pow_pos _
      have ez : dotI g (rows.map fun r => vl r i) = sm rows.length fun j => vl g j * vl (rows.getD j []) i := dotI_res lg i
      rw [ez]
      have st : badC rows.length (i + 1) rows g = badC rows.length i rows g ++ (if (sm rows.length fun j => vl g j * vl (rows.getD j []) i) = 0 then [] else [i]) := by
        unfold badC
        rw [List.range_succ, List.filter_append]
        congr 1
        rw [List.filter_cons]
        by_cases c : (sm rows.length fun j => vl g j * vl (rows.getD j []) i) = 0
        · rw [if_pos c, if_neg (by rw [decide_eq_true_iff]; exact fun w => w c)]; rfl
        · rw [if_neg c, if_pos (decide_eq_true c)]; rfl
      refine ⟨rfl, _, rfl, ?_⟩
      have lb : (badC rows.length i rows g).length ≤ i := by
        have := List.length_filter_le (fun c => decide ((sm rows.length fun i => vl g i * vl (rows.getD i []) c) ≠ 0)) (List.range i)
        rw [List.length_range] at this
        exact this
      by_cases c : (sm rows.length fun j => vl g j * vl (rows.getD j []) i) = 0
      · rw [show (!decide (V.int (sm rows.length fun j => vl g j * vl (rows.getD j []) i) = V.int 0)) = false by rw [c, decide_eq_true rfl]; rfl]
        refine iteF ?_
        exact ⟨s67.trans s8, by rw [st, if_pos c, List.append_nil]; exact s8 _ _ (s7 _ _ hd)⟩
      · rw [show (!decide (V.int (sm rows.length fun j => vl g j * vl (rows.getD j []) i) = V.int 0)) = true by rw [decide_eq_false (fun w => c (by injection w))]; rfl]
        refine iteT ?_
        refine ⟨_, rfl, _, s8 _ _ (s7 _ _ hd), ?_, AL.Same.updn (s67.trans s8) hD2, ?_⟩
        · rw [List.length_map, zN_len]; exact Nat.lt_of_le_of_lt (by omega : _ ≤ 1000) (by decide)
        · rw [upd_same, st, if_neg c]
          unfold zN
          rw [List.map_append, List.map_append]; rfl
    rintro H6 ⟨s6, hd⟩
    rw [Int.toNat_natCast] at hd
    refine ⟨(by show 0 ≤ sizeLine; decide), fun e he => ?_⟩
    have ne_ := AL.Same.new (o := .lst []) he
    have qq := q _ (s04.trans (s6.trans ne_))
    refine ⟨.list ((zN (badC rows.length n rows g)).map PyData.int), .list (([] : List Int).map PyData.int), .lst (SqL.of (ne_ _ _ hd)) (dpAll_int _), .lst (SqL.of upd_same) .nil, shaped_intsL _, shaped_intsL _, ?_⟩
    rw [eqv_intsL]
    have e1 : decide (zN (badC rows.length n rows g) = []) = decide (badC rows.length n rows g = []) := by
      unfold zN
      cases badC rows.length n rows g with
      | nil => rfl
      | cons a l => rfl
    rw [e1]
    exact qq
end
end AL
set_option Elab.async false
set_option maxRecDepth 100000
set_option exponentiation.threshold 70000
set_option maxHeartbeats 1000000
namespace AL
open PySem PySem.Spec PyProof.Rows L2 RZ
section
variable {P : Program} {w : World} {K : PySem.W.Frag} {mg : Str → Option Value} {base : Heap}

theorem mmR_bd {n b c : Nat} {U : List Rw} {r : Rw} (hU : ∀ r ∈ U, r.length = n) (lr : r.length = U.length) (h1 : ∀ v ∈ r, v.natAbs ≤ b) (h2 : ∀ r ∈ U, ∀ v ∈ r, v.natAbs ≤ c) : ∀ v ∈ mmR n U r, v.natAbs ≤ r.length * (b * c) := fun v hv => by
  unfold mmR at hv
  obtain ⟨k, hk, rfl⟩ := List.mem_map.mp hv
  exact dotI_bd h1 (trM_bd h2 k hk)
/-- _law_second(pen, rows) -/
def spSec : Sp := fun vs H Q _ => ∃ (p c : Addr) (m : Nat) (w : Addr) (rows : List Rw) (n : Nat), vs = [.ref p, .ref w] ∧ Pen H p c m ∧ m < 500000000 ∧ RowsZ H w rows ∧ rows ≠ [] ∧ rows.length ≤ 5 ∧ (∀ r ∈ rows, r.length = n) ∧ 1 ≤ n ∧ n ≤ 3 ∧ (∀ r ∈ rows, ∀ v ∈ r, v.natAbs ≤ 729) ∧
  ∀ D H' M n', Pen H' p c (m + 100) → Keep p H H' → RowsZ H' D M → M.length = rows.length → (∀ r ∈ M, r.length = n') → 1 ≤ n' → n' ≤ 4 → (∀ r ∈ M, ∀ v ∈ r, v.natAbs ≤ 2000000) → Q (.ref D) H'

abbrev st_law_second : Stmt := top 41
theorem sc_law_second : FnScope ["_law_pen_here", "_law_rows", "_law_many", "_law_wide", "_law_way", "_law_found", "_law_row", "_law_one", "_law_j"] ["_law_pen_here", "_law_rows"] (defScope st_law_second) := ⟨rfl, rfl, rfl, by decide +kernel, rfl, by decide +kernel, by decide +kernel⟩
theorem ok_law_second (B : Blt mg)  {f_law_draw : Addr} {fd_law_draw : FuncData} (D_law_draw : DefAt K mg "_law_draw" st_law_draw ["_law_pen_here", "_law_many"] f_law_draw fd_law_draw) {f_law_inner : Addr} {fd_law_inner : FuncData} (D_law_inner : DefAt K mg "_law_inner" st_law_inner ["_law_row", "_law_column_here"] f_law_inner fd_law_inner) {f_law_turned : Addr} {fd_law_turned : FuncData} (D_law_turned : DefAt K mg "_law_turned" st_law_turned ["_law_rows"] f_law_turned fd_law_turned) {f_law_matmul : Addr} {fd_law_matmul : FuncData} (D_law_matmul : DefAt K mg "_law_matmul" st_law_matmul ["_law_one", "_law_two"] f_law_matmul fd_law_matmul) {f_law_pick : Addr} {fd_law_pick : FuncData} (D_law_pick : DefAt K mg "_law_pick" st_law_pick ["_law_pen_here", "_law_some"] f_law_pick fd_law_pick) {f_law_matrix : Addr} {fd_law_matrix : FuncData} (D_law_matrix : DefAt K mg "_law_matrix" st_law_matrix ["_law_pen_here", "_law_many", "_law_wide", "_law_most"] f_law_matrix fd_law_matrix) {f_law_unit : Addr} {fd_law_unit : FuncData} (D_law_unit : DefAt K mg "_law_unit" st_law_unit ["_law_many"] f_law_unit fd_law_unit) {f_law_unimodular : Addr} {fd_law_unimodular : FuncData} (D_law_unimodular : DefAt K mg "_law_unimodular" st_law_unimodular ["_law_pen_here", "_law_many", "_law_steps"] f_law_unimodular fd_law_unimodular) {f_law_second : Addr} {fd_law_second : FuncData} (D_law_second : DefAt K mg "_law_second" st_law_second ["_law_pen_here", "_law_rows"] f_law_second fd_law_second) : FnOk P w K mg base CX0 4 f_law_second fd_law_second ["_law_pen_here", "_law_rows"] spSec := by
  have OK_law_draw : FnOk P w K mg base CX0 1 f_law_draw fd_law_draw ["_law_pen_here", "_law_many"] spDraw := ok_law_draw B  D_law_draw
  have OK_law_matmul : FnOk P w K mg base CX0 2 f_law_matmul fd_law_matmul ["_law_one", "_law_two"] spMm := ok_law_matmul B  D_law_inner D_law_turned D_law_matmul
  have OK_law_matrix : FnOk P w K mg base CX0 3 f_law_matrix fd_law_matrix ["_law_pen_here", "_law_many", "_law_wide", "_law_most"] spMx := ok_law_matrix B  D_law_draw D_law_pick D_law_matrix
  have OK_law_unimodular : FnOk P w K mg base CX0 3 f_law_unimodular fd_law_unimodular ["_law_pen_here", "_law_many", "_law_steps"] spUm := ok_law_unimodular B  D_law_draw D_law_pick D_law_unit D_law_unimodular
  refine D_law_second.F.ok sc_law_second (fun vs H Q E h => ?_) (fun cdv A outer s H vs Q E hr h => ?_)
  · obtain ⟨p, c, m, w, rows, n, rfl, _⟩ := h; rfl
  · have hu := hu_of hr
    refine ⟨_, (pss_cons (ps_par3 (i := 2) (j := 3) (l := 4) (by rfl) sc_law_second.nd rfl rfl rfl (by decide) (by decide) (by decide) rfl rfl rfl (pa_cons (pe_callB call_len_seq (by rfl) B.len_ (by decide +kernel) (pa_cons (pv 1) pa_nil)) (pa_cons (pe_callB call_len_seq (by rfl) B.len_ (by decide +kernel) (pa_cons (pe_ix ix_list (pv 1) pe_int (fun _ _ => rfl)) pa_nil)) (pa_cons (pe_call OK_law_draw (hr.mono (by decide)) rfl D_law_draw.m D_law_draw.F.kp D_law_draw.b .nil pass0 (pa_cons (pv 0) (pa_cons pe_int pa_nil))) pa_nil))) (by rfl))
    (pss_cons (ps_if (pt_cmpR op_eq (pv 4) pe_int (nomark _)) (pss_one (ps_ret (pe_call OK_law_matrix (hr.mono (by decide)) rfl D_law_matrix.m D_law_matrix.F.kp D_law_matrix.b .nil pass0 (pa_cons (pv 0) (pa_cons (pv 2) (pa_cons (pe_op op_add pe_int (pe_call OK_law_draw (hr.mono (by decide)) rfl D_law_draw.m D_law_draw.F.kp D_law_draw.b .nil pass0 (pa_cons (pv 0) (pa_cons pe_int pa_nil)))) (pa_cons pe_int pa_nil))))))) pss_nil)
    (pss_cons (ps_set (i := 5) sc_law_second.nd rfl (Or.inl rfl) (pe_call OK_law_matmul (hr.mono (by decide)) rfl D_law_matmul.m D_law_matmul.F.kp D_law_matmul.b .nil pass0 (pa_cons (pv 1) (pa_cons (pe_call OK_law_unimodular (hr.mono (by decide)) rfl D_law_unimodular.m D_law_unimodular.F.kp D_law_unimodular.b .nil pass0 (pa_cons (pv 0) (pa_cons (pv 3) (pa_cons pe_int pa_nil)))) pa_nil))))
    (pss_cons (ps_if (pt_cmpR op_eq (pv 4) pe_int (nomark _)) (pss_one (ps_setLc (i := 5) (own := [("_law_row", 6)]) (g := gName 6) (tt := tYes) rfl sc_law_second.nd rfl rfl (sw_true rfl rfl rfl (by decide +kernel)) (pi_list (pv 5)) (blkOk_by (own := [("_law_row", 6)]) (N := ["_law_pen_here", "_law_rows", "_law_many", "_law_wide", "_law_way", "_law_found", "_law_row", "_law_one", "_law_j"]) (sc := defScope st_law_second) (by decide +kernel)) (fun _ _ _ _ _ => (pg_name (i := 6) sc_law_second.nd rfl (Or.inl rfl))) (fun _ _ _ _ _ => pts_nil) (fun _ _ _ _ _ => (pe_lc (own := [("_law_one", 7)]) (g := gName 7) (tt := tYes) rfl sc_law_second.nd (pi_list (pv 6) : PI _ _ _ (iList K (tVar 6))) (blkOk_by (own := [("_law_one", 7)]) (N := ["_law_pen_here", "_law_rows", "_law_many", "_law_wide", "_law_way", "_law_found", "_law_row", "_law_one", "_law_j"]) (by kernel_rfl)) (fun _ _ _ _ _ => (pg_name (i := 7) sc_law_second.nd rfl (Or.inl rfl))) (fun _ _ _ _ _ => pts_nil) (fun _ _ _ _ _ => (pe_op op_mulW pe_int (pv 7))))))) pss_nil)
    (pss_cons (ps_if (pt_cmpR op_eq (pv 4) pe_int (nomark _)) (pss_one (ps_setLc (i := 5) (own := [("_law_row", 6)]) (g := gName 6) (tt := tYes) rfl sc_law_second.nd rfl rfl (sw_true rfl rfl rfl (by decide +kernel)) (pi_list (pv 5)) (blkOk_by (own := [("_law_row", 6)]) (N := ["_law_pen_here", "_law_rows", "_law_many", "_law_wide", "_law_way", "_law_found", "_law_row", "_law_one", "_law_j"]) (sc := defScope st_law_second) (by decide +kernel)) (fun _ _ _ _ _ => (pg_name (i := 6) sc_law_second.nd rfl (Or.inl rfl))) (fun _ _ _ _ _ => pts_nil) (fun _ _ _ _ _ => (pe_op op_cat (pv 6) (pe_lst (pa_cons (pe_op op_sub (pe_ix (ix_list : IxR _ (rIxL K)) (pv 6) pe_int (fun _ _ => rfl)) (pe_op op_mulW pe_int (pe_ix (ix_list : IxR _ (rIxL K)) (pv 6) (pe_un un_neg pe_int) (fun _ _ => rfl)))) pa_nil)))))) pss_nil)
    (pss_cons (ps_if (pt_cmpR op_eq (pv 4) pe_int (nomark _)) (pss_cons (ps_set (i := 8) sc_law_second.nd rfl (Or.inl rfl) (pe_call OK_law_draw (hr.mono (by decide)) rfl D_law_draw.m D_law_draw.F.kp D_law_draw.b .nil pass0 (pa_cons (pv 0) (pa_cons (pv 2) pa_nil))))
    (pss_one (ps_asg (pe_lc (own := [("_law_one", 7)]) (g := gName 7) (tt := tYes) rfl sc_law_second.nd (pi_list (pe_ix (ix_list : IxR _ (rIxL K)) (pv 5) (pv 8) (fun _ _ => rfl))) (blkOk_by (own := [("_law_one", 7)]) (N := ["_law_pen_here", "_law_rows", "_law_many", "_law_wide", "_law_way", "_law_found", "_law_row", "_law_one", "_law_j"]) (sc := defScope st_law_second) (by decide +kernel)) (fun _ _ _ _ _ => (pg_name (i := 7) sc_law_second.nd rfl (Or.inl rfl))) (fun _ _ _ _ _ => pts_nil) (fun _ _ _ _ _ => (pe_op op_add (pv 7) (pe_call OK_law_draw (hr.mono (by decide)) rfl D_law_draw.m D_law_draw.F.kp D_law_draw.b .nil pass0 (pa_cons (pv 0) (pa_cons pe_int pa_nil)))))) (pg_sub (pv 5) (pv 8) set_list)))) pss_nil)
    (pss_one (ps_ret (pv 5))))))))), ?_⟩
    obtain ⟨p, c, m, w, rows, n, rfl, P, hm, hw, ne, l5, hl, n1, n3, hB, q⟩ := h
    have lr0 : 0 < rows.length := List.length_pos_iff.mpr ne
    obtain ⟨as, W1, W2⟩ := id hw
    have las := prd_len W2
    obtain ⟨a0, ha0⟩ : ∃ a, as[0]? = some a := ⟨_, List.getElem?_eq_getElem (by omega)⟩
    obtain ⟨r0, hr0, h0⟩ := prd_get W2 ha0
    have l0 := hl r0 (List.mem_of_getElem? hr0)
    have g0 : atI (as.map V.ref) 0 = some (.ref a0) := by
      have := atI_of (xs := as.map V.ref) (j := 0) (by rw [List.length_map]; omega)
      rw [List.getElem?_map, ha0] at this
      exact this
    refine ⟨_, rfl, w, _, rfl, .inl (SqL.of W1), _, rfl, w, _, _, _, rfl, rfl, SqL.of W1, g0, a0, _, rfl, .inl (SqL.of h0), _, rfl, p, c, _, (5 : Int), rfl, P, by omega, by decide, by decide, fun way H1 v0 v1 P1 k1 => ?_⟩
    have hw1 : H1 w = some (.lst (as.map V.ref)) := k1.at P W1 (fun _ z => nomatch z)
    have pr1 : Paired (fun a (r : Rw) => LI H1 a r) as rows := paired_mono W2 fun _ _ z => k1.at P z (fun _ z => nomatch z)
    rw [List.length_map, List.length_map, l0, las]
    refine ⟨_, _, _, rfl, ?_⟩
    refine ⟨_, rfl, rfl, _, rfl, ?_⟩
    by_cases w0 : way = 0
    · rw [decide_eq_true (by rw [w0])]
      refine iteT ?_
      refine ⟨_, rfl, _, rfl, _, rfl, p, c, _, (3 : Int), rfl, P1, by omega, by decide, by decide, fun u H2 u0 u1 P2 k2 => ⟨_, _, rfl, rfl, ?_⟩⟩
      obtain ⟨n', hn', n'1, n'3⟩ : ∃ n' : Nat, (1 : Int) + u = (n' : Int) ∧ 1 ≤ n' ∧ n' ≤ 3 := ⟨(1 + u).toNat, by omega, by omega, by omega⟩
      dsimp only
      rw [hn']
      refine ⟨p, c, _, rows.length, n', 3, rfl, P2, by omega, by omega, by omega, by decide, by decide, fun D H3 M P3 k3 hM lM bM => ?_⟩
      exact q D H3 M n' (P3.mono (by omega)) (k1.trans (k2.trans k3)) hM lM (fun r hr => (bM r hr).1) n'1 (by omega) fun r hr v hv => by
        have h1 := (bM r hr).2 v hv
        have h2 : 3 ^ rows.length ≤ 3 ^ 5 := Nat.pow_le_pow_right (by decide) l5
        omega
    rw [decide_eq_false (fun z => w0 (by injection z))]
    refine iteF ?_
    refine ⟨_, rfl, _, rfl, _, rfl, p, c, _, n, 4, rfl, P1, by omega, by omega, by omega, by decide, fun u H2 U P2 k2 hU un => ?_⟩
    have hw2 : RowsZ H2 w rows := ⟨as, k2.at P1 hw1 (fun _ z => nomatch z), paired_mono pr1 fun _ _ z => k2.at P1 z (fun _ z => nomatch z)⟩
    refine ⟨w, u, n, rows, U, rfl, hw2, hU, un.len, un.rl, hl, n1, by omega, by omega, fun r hr v hv => Nat.lt_of_le_of_lt (hB r hr v hv) (by decide), fun r hr v hv => Nat.lt_of_le_of_lt (un.bd r hr v hv) (by decide), fun D H3 hD2 s3 hM => ?_⟩
    have K12 := k1.trans k2
    obtain ⟨pD, cD⟩ := pen_ne7 P2 hD2
    have K23 := same_k7 (p := p) s3
    have K3 := k1.trans (k2.trans (same_k7 s3))
    have P3 := P2.same s3
    have lM : (rows.map (mmR n U)).length = rows.length := List.length_map _
    have Ml : ∀ r ∈ rows.map (mmR n U), r.length = n := fun r hr => by
      obtain ⟨x, _, rfl⟩ := List.mem_map.mp hr
      exact mmR_len n U x
    have Mb : ∀ r ∈ rows.map (mmR n U), ∀ v ∈ r, v.natAbs ≤ 559872 := fun r hr v hv => by
      obtain ⟨x, hx, rfl⟩ := List.mem_map.mp hr
      have h1 := mmR_bd (b := 729) (c := 256) un.rl (by rw [hl x hx, un.len]) (hB x hx) un.bd v hv
      rw [hl x hx] at h1
      have h2 : n * (729 * 256) ≤ 3 * (729 * 256) := Nat.mul_le_mul_right _ n3
      exact Nat.le_trans h1 (Nat.le_trans h2 (by decide))
    generalize rows.map (mmR n U) = M at hM lM Ml Mb
    clear hU un hw2 pr1 hw1 W1 W2 k1 k2 s3 g0 h0 hr0 l0 ha0
    obtain ⟨ds, D1, D2'⟩ := id hM
    have lds := prd_len D2'
    have skip : ∀ j : Int, way ≠ j → decide (V.int way = V.int j) = false := fun j z => decide_eq_false fun e => z (by injection e)
    refine ⟨_, rfl, rfl, _, rfl, ?_⟩
    by_cases w1 : way = 1
    · rw [decide_eq_true (by rw [w1])]
      refine iteT ?_
      refine ⟨_, rfl, D, rfl, ⟨_, SqL.of D1⟩, fun E hE => ?_⟩
      refine lc_list (K := K) (a := D) (xs := ds.map V.ref) (fun i H' => Same H3 H' ∧ ∃ bs : List Addr, H' E = some (.lst (bs.map V.ref)) ∧ Paired (fun a r => a ≠ E ∧ H' a = some (.lst (r.map V.int))) bs ((M.map (List.map (2 * ·))).take i)) ⟨AL.Same.new hE, [], upd_same, .nil⟩ (fun i H' _ hh => SqL.of (hh.1 _ _ D1)) ?_ ?_
      · rintro i x H4 hx ⟨s4, bs, hd, pr⟩
        obtain ⟨a, ha, rfl⟩ := map_ref hx
        obtain ⟨r, hr, hra⟩ := prd_get D2' ha
        have il := (List.getElem?_eq_some_iff.mp hr).1
        have lrr := Ml r (List.mem_of_getElem? hr)
        have lb := prd_len pr
        rw [List.length_take, List.length_map] at lb
        have hra4 := s4 _ _ hra
        refine ⟨rfl, ?_⟩
        refine ⟨_, rfl, a, rfl, ⟨_, SqL.of hra4⟩, fun E2 hE2 => ?_⟩
        refine lc_list (K := K) (a := a) (xs := r.map V.int) (fun j H' => Same H4 H' ∧ H' E2 = some (.lst (((r.map (2 * ·)).take j).map V.int))) ⟨AL.Same.new hE2, upd_same⟩ (fun i H' _ hh => SqL.of (hh.1 _ _ hra4)) ?_ ?_
        · rintro j x H5 hx ⟨s5, hd5⟩
          obtain ⟨z, hz, rfl⟩ := map_int hx
          have jl := (List.getElem?_eq_some_iff.mp hz).1
          refine ⟨rfl, ?_⟩
          refine ⟨_, rfl, _, _, rfl, rfl, wide_mul (a := 60) (b := 60) (by decide) (Nat.lt_of_le_of_lt (Mb r (List.mem_of_getElem? hr) z (List.mem_of_getElem? hz)) (by decide)) (by decide) (by decide) (by decide), _, hd5, ?_, AL.Same.updn s5 hE2, ?_⟩
          · rw [List.length_map, List.length_take, List.length_map]; exact Nat.lt_of_le_of_lt (by omega : _ ≤ 1000) (by decide)
          · rw [upd_same, List.take_add_one, List.getElem?_map, hz, List.map_append]; rfl
        · rintro H5 ⟨s5, hd5⟩
          rw [List.take_of_length_le (by rw [List.length_map, List.length_map]; exact Nat.le_refl _)] at hd5
          have bE : E2 ≠ E := fun z => by rw [z, hd] at hE2; cases hE2
          obtain ⟨r1, r2⟩ := rowsZ_snoc (s5 _ _ hd) (paired_mono pr fun _ _ z => ⟨z.1, s5 _ _ z.2⟩) bE hd5
          refine ⟨_, s5 _ _ hd, ?_, AL.Same.updn (s4.trans s5) hE, bs ++ [E2], r1, ?_⟩
          · rw [List.length_map]; exact Nat.lt_of_le_of_lt (by omega : _ ≤ 1000) (by decide)
          · have g : (M.map (List.map (2 * ·)))[i]? = some (r.map (2 * ·)) := by rw [List.getElem?_map, hr]; rfl
            rw [List.take_add_one, g]
            exact r2
      rintro H4 ⟨s4, bs, hd, pr⟩
      rw [List.take_of_length_le (by rw [List.length_map, List.length_map]; omega)] at pr
      refine ⟨_, rfl, rfl, _, rfl, ?_⟩
      rw [skip 2 (by omega)]
      refine iteF ?_
      refine ⟨_, rfl, rfl, _, rfl, ?_⟩
      rw [skip 3 (by omega)]
      refine iteF ?_
      refine ⟨_, rfl, q E H4 (M.map (List.map (2 * ·))) n ((P3.same s4).mono (by omega)) (K3.trans (same_k7 s4)) ⟨bs, hd, paired_mono pr fun _ _ z => z.2⟩ (by rw [List.length_map]; exact lM) (fun r hr => ?_) n1 (by omega) fun r hr v hv => ?_⟩
      · obtain ⟨x, hx, rfl⟩ := List.mem_map.mp hr
        rw [List.length_map]; exact Ml x hx
      · obtain ⟨x, hx, rfl⟩ := List.mem_map.mp hr
        obtain ⟨y, hy, rfl⟩ := List.mem_map.mp hv
        have := Mb x hx y hy
        omega
    rw [skip 1 w1]
    refine iteF ?_
    refine ⟨_, rfl, rfl, _, rfl, ?_⟩
    by_cases w2 : way = 2
    · rw [decide_eq_true (by rw [w2])]
      refine iteT ?_
      refine ⟨_, rfl, D, rfl, ⟨_, SqL.of D1⟩, fun E hE => ?_⟩
      have ext : ∀ r : Rw, ∃ x : Rw, x = r ++ [vl r 0 - 2 * vl r (n - 1)] := fun r => ⟨_, rfl⟩
      refine lc_list (K := K) (a := D) (xs := ds.map V.ref) (fun i H' => Same H3 H' ∧ ∃ bs : List Addr, H' E = some (.lst (bs.map V.ref)) ∧ Paired (fun a r => a ≠ E ∧ H' a = some (.lst (r.map V.int))) bs ((M.map fun r => r ++ [vl r 0 - 2 * vl r (n - 1)]).take i)) ⟨AL.Same.new hE, [], upd_same, .nil⟩ (fun i H' _ hh => SqL.of (hh.1 _ _ D1)) ?_ ?_
      · rintro i x H4 hx ⟨s4, bs, hd, pr⟩
        obtain ⟨a, ha, rfl⟩ := map_ref hx
        obtain ⟨r, hr, hra⟩ := prd_get D2' ha
        have il := (List.getElem?_eq_some_iff.mp hr).1
        have mr := List.mem_of_getElem? hr
        have lrr := Ml r mr
        have lb := prd_len pr
        rw [List.length_take, List.length_map] at lb
        have hra4 := s4 _ _ hra
        have gf : atI (r.map V.int) 0 = some (.int (vl r 0)) := by
          have := atI_of (xs := r.map V.int) (j := 0) (by rw [List.length_map]; omega)
          rw [List.getElem?_map, vl_at (by omega)] at this
          exact this
        have gl : atI (r.map V.int) (-1) = some (.int (vl r (n - 1))) := by
          unfold atI ixN
          rw [if_neg (by decide), if_pos (by rw [List.length_map]; omega)]
          show (r.map V.int)[((-1 : Int) + ((r.map V.int).length : Int)).toNat]? = _
          rw [List.length_map, lrr, show ((-1 : Int) + (n : Int)).toNat = n - 1 by omega, List.getElem?_map, vl_at (by omega)]; rfl
        refine ⟨rfl, ?_⟩
        refine ⟨_, rfl, _, rfl, a, _, _, _, rfl, rfl, SqL.of hra4, gf, _, rfl, _, rfl, a, _, _, _, rfl, rfl, SqL.of hra4, gl, _, _, rfl, rfl, wide_mul (a := 60) (b := 60) (by decide) (Nat.lt_of_le_of_lt (Mb r mr _ (vl_mem (by omega))) (by decide)) (by decide) (by decide) (by decide), _, _, rfl, rfl, (by show 1 ≤ sizeLine; decide), fun X hX => ?_⟩
        have nX := AL.Same.new (o := .lst [.int (vl r 0 - 2 * vl r (n - 1))]) hX
        refine ⟨a, X, r.map V.int, [.int (vl r 0 - 2 * vl r (n - 1))], rfl, rfl, nX _ _ hra4, upd_same, ?_, fun E2 hE2 => ?_⟩
        · rw [List.length_map, lrr]; exact Nat.le_trans (by show n + 1 ≤ 1000; omega) (by decide)
        have nE := AL.Same.new (o := .lst (r.map V.int ++ [.int (vl r 0 - 2 * vl r (n - 1))])) hE2
        have s5 := nX.trans nE
        have hd5 : upd (upd H4 X (.lst [.int (vl r 0 - 2 * vl r (n - 1))])) E2 (.lst (r.map V.int ++ [.int (vl r 0 - 2 * vl r (n - 1))])) E2 = some (.lst ((r ++ [vl r 0 - 2 * vl r (n - 1)]).map V.int)) := by rw [upd_same, List.map_append]; rfl
        have bE : E2 ≠ E := fun z => by rw [z, nX _ _ hd] at hE2; cases hE2
        generalize upd (upd H4 X (.lst [.int (vl r 0 - 2 * vl r (n - 1))])) E2 (.lst (r.map V.int ++ [.int (vl r 0 - 2 * vl r (n - 1))])) = H5 at s5 hd5 ⊢
        obtain ⟨r1, r2⟩ := rowsZ_snoc (s5 _ _ hd) (paired_mono pr fun _ _ z => ⟨z.1, s5 _ _ z.2⟩) bE hd5
        refine ⟨_, s5 _ _ hd, ?_, AL.Same.updn (s4.trans s5) hE, bs ++ [E2], r1, ?_⟩
        · rw [List.length_map]; exact Nat.lt_of_le_of_lt (by omega : _ ≤ 1000) (by decide)
        · have g : (M.map fun r => r ++ [vl r 0 - 2 * vl r (n - 1)])[i]? = some (r ++ [vl r 0 - 2 * vl r (n - 1)]) := by rw [List.getElem?_map, hr]; rfl
          rw [List.take_add_one, g]
          exact r2
      rintro H4 ⟨s4, bs, hd, pr⟩
      rw [List.take_of_length_le (by rw [List.length_map, List.length_map]; omega)] at pr
      refine ⟨_, rfl, rfl, _, rfl, ?_⟩
      rw [skip 3 (by omega)]
      refine iteF ?_
      refine ⟨_, rfl, q E H4 _ (n + 1) ((P3.same s4).mono (by omega)) (K3.trans (same_k7 s4)) ⟨bs, hd, paired_mono pr fun _ _ z => z.2⟩ (by rw [List.length_map]; exact lM) (fun r hr => ?_) (by omega) (by omega) fun r hr v hv => ?_⟩
      · obtain ⟨x, hx, rfl⟩ := List.mem_map.mp hr
        rw [List.length_append, Ml x hx]; rfl
      · obtain ⟨x, hx, rfl⟩ := List.mem_map.mp hr
        have lx := Ml x hx
        have b1 := Mb x hx _ (vl_mem (show 0 < x.length by omega))
        have b2 := Mb x hx _ (vl_mem (show n - 1 < x.length by omega))
        rcases List.mem_append.mp hv with h | h
        · have := Mb x hx v h; omega
        · rw [List.mem_singleton.mp h]; omega
    rw [skip 2 w2]
    refine iteF ?_
    refine ⟨_, rfl, rfl, _, rfl, ?_⟩
    by_cases w3 : way = 3
    · rw [decide_eq_true (by rw [w3])]
      refine iteT ?_
      refine ⟨_, rfl, _, rfl, p, c, _, (rows.length : Int), rfl, P3, by omega, by omega, by omega, fun jv H4 j0 j1 P4 k4 => ?_⟩
      obtain ⟨j, rfl⟩ : ∃ j : Nat, jv = (j : Int) := ⟨jv.toNat, by omega⟩
      have jl : j < M.length := by omega
      obtain ⟨aj, haj⟩ : ∃ a, ds[j]? = some a := ⟨_, List.getElem?_eq_getElem (by omega)⟩
      obtain ⟨r, hr, hra⟩ := prd_get D2' haj
      have mr := List.mem_of_getElem? hr
      have lrr := Ml r mr
      have hD4 := k4.at P3 D1 (fun _ z => nomatch z)
      have hr4 : H4 aj = some (.lst (r.map V.int)) := k4.at P3 hra (fun _ z => nomatch z)
      have pr4 : Paired (fun a (r : Rw) => H4 a = some (.lst (r.map V.int))) ds M := paired_mono D2' fun _ _ z => k4.at P3 z (fun _ z => nomatch z)
      have gj : atI (ds.map V.ref) ((j : Nat) : Int) = some (.ref aj) := by rw [atI_of (by rw [List.length_map]; omega), List.getElem?_map, haj]; rfl
      refine ⟨_, rfl, _, rfl, D, _, _, _, rfl, rfl, SqL.of hD4, gj, aj, rfl, ⟨_, SqL.of hr4⟩, fun E hE => ?_⟩
      obtain ⟨pE, cE⟩ := pen_ne7 P4 hE
      have nE := AL.Same.new (o := .lst []) hE
      refine lc_list (K := K) (a := aj) (xs := r.map V.int) (fun i H' => Pen H' p c (m + 80 + i) ∧ Keep p H4 H' ∧ ∃ qs : List Int, H' E = some (.lst (qs.map V.int)) ∧ qs.length = i ∧ ∀ x ∈ qs, x.natAbs ≤ 559873) ⟨(P4.same nE).mono (by omega), same_k7 nE, [], upd_same, rfl, (fun r hr => nomatch hr)⟩ (fun i H' _ hh => SqL.of (hh.2.1.at P4 hr4 (fun _ z => nomatch z))) ?_ ?_
      · rintro i x H5 hx ⟨P5, k5, qs, hq5, lq, bq⟩
        obtain ⟨z, hz, rfl⟩ := map_int hx
        have il := (List.getElem?_eq_some_iff.mp hz).1
        have zb := Mb r mr z (List.mem_of_getElem? hz)
        refine ⟨rfl, ?_⟩
        refine ⟨_, rfl, _, rfl, p, c, _, (2 : Int), rfl, P5, by omega, by decide, by decide, fun v H6 v0 v1 P6 k6 => ?_⟩
        refine ⟨_, _, rfl, rfl, _, k6.at P5 hq5 (fun _ z => nomatch z), ?_, (pen_upd7 P6 pE cE).mono (by omega), keep_upd7 (k5.trans k6) hE, qs ++ [z + v], ?_, ?_, ?_⟩
        · rw [List.length_map, lq]; exact Nat.lt_of_lt_of_le (by omega : i < 9) (by decide)
        · rw [upd_same, List.map_append]; rfl
        · rw [List.length_append, lq]; rfl
        · intro y hy
          rcases List.mem_append.mp hy with hy | hy
          · exact bq y hy
          · rw [List.mem_singleton.mp hy]; omega
      rintro H5 ⟨P5, k5, qs, hq5, lq, bq⟩
      rw [List.length_map, lrr] at P5 lq
      have hD5 := k5.at P4 hD4 (fun _ z => nomatch z)
      have pr5 : Paired (fun a (r : Rw) => H5 a = some (.lst (r.map V.int))) ds M := paired_mono pr4 fun _ _ z => k5.at P4 z (fun _ z => nomatch z)
      refine ⟨_, rfl, _, rfl, D, _, _, _, rfl, rfl, hD5, ixN_of (by rw [List.length_map]; omega), ?_⟩
      have ED : E ≠ D := fun z => by rw [z, hD4] at hE; cases hE
      have nD : ∀ (a : Addr) (r : Rw), H5 a = some (.lst (r.map V.int)) → a ≠ D := fun a r z e => by
        rw [e, hD5] at z
        have z' : ds.map V.ref = r.map V.int := by injection z with z; injection z
        cases ds with
        | nil => simp at lds; omega
        | cons x _ => cases r with
          | nil => cases z'
          | cons y _ => cases z'
      have hw6 : upd H5 D (.lst ((ds.map V.ref).set j (V.ref E))) D = some (.lst ((ds.set j E).map V.ref)) := by rw [upd_same, List.map_set]
      have pr6 := prd_set (R := fun a r => upd H5 D (.lst ((ds.map V.ref).set j (V.ref E))) a = some (.lst (r.map V.int))) (paired_mono pr5 fun a r z => Eq.trans (upd_ne (nD a r z)) z) j (a := E) (b := qs) (Eq.trans (upd_ne ED) hq5)
      have Kf := K12.trans (keep_upd7 (o := .lst ((ds.map V.ref).set j (V.ref E))) (K23.trans (k4.trans k5)) hD2)
      refine ⟨_, rfl, q D _ (M.set j qs) n ((pen_upd7 P5 pD cD).mono (by omega)) Kf ⟨ds.set j E, hw6, pr6⟩ (by rw [List.length_set]; exact lM) (fun x hx => ?_) n1 (by omega) fun x hx v hv => ?_⟩
      · rcases List.mem_or_eq_of_mem_set hx with h | rfl
        · exact Ml x h
        · exact lq
      · rcases List.mem_or_eq_of_mem_set hx with h | rfl
        · exact Nat.le_trans (Mb x h v hv) (by decide)
        · exact Nat.le_trans (bq v hv) (by decide)
    rw [skip 3 w3]
    refine iteF ?_
    exact ⟨_, rfl, q D H3 M n (P3.mono (by omega)) K3 hM lM Ml n1 (by omega) fun r hr v hv => Nat.le_trans (Mb r hr v hv) (by decide)⟩
end
end AL
set_option Elab.async false
set_option maxRecDepth 100000
set_option exponentiation.threshold 70000
set_option maxHeartbeats 1000000
namespace AL
open PySem PySem.Spec PyProof.Rows L2 RZ
section
variable {P : Program} {w : World} {K : PySem.W.Frag} {mg : Str → Option Value} {base : Heap}

/-- _law_answer_right(one, other, is_alike) -/
def spAr : Sp := fun vs H Q _ => ∃ (w1 w2 : Addr) (n1 n2 : Nat) (A1 A2 : List Rw) (b : Bool), vs = [.ref w1, .ref w2, .bl b] ∧ RowsU H w1 A1 ∧ RowsU H w2 A2 ∧ A1 ≠ [] ∧ A2.length = A1.length ∧ (∀ r ∈ A1, r.length = n1) ∧ (∀ r ∈ A2, r.length = n2) ∧ 0 < n1 ∧ 0 < n2 ∧ n1 ≤ 8 ∧ n2 ≤ 8 ∧ A1.length ≤ 5 ∧ (∀ r ∈ A1, ∀ v ∈ r, v.natAbs ≤ 2000000) ∧ (∀ r ∈ A2, ∀ v ∈ r, v.natAbs ≤ 2000000) ∧
  ((∃ F, Kil F A1 n1 A2 n2 A1.length) → (∃ F, Kil F A2 n2 A1 n1 A1.length) → b = true) ∧ (∀ g, KilR A1.length A1 n1 g → ¬ KilR A1.length A2 n2 g → b = false) ∧ (∀ g, KilR A1.length A2 n2 g → ¬ KilR A1.length A1 n1 g → b = false) ∧
  ∀ H', Same H H' → Q (.bl true) H'
theorem rg_zN {H : Hp} {a : Addr} (n : Nat) : upd H a (.lst (rgV 0 (n : Int))) a = some (.lst ((zN (List.range n)).map V.int)) := by
  rw [upd_same]
  unfold rgV zN
  rw [Int.sub_zero, Int.toNat_natCast, List.map_map]
  congr 2
  exact List.map_congr_left fun k _ => show V.int (0 + (k : Int)) = V.int (k : Int) by rw [Int.zero_add]
theorem fac80 {n : Nat} (h : n ≤ 5) : n * (facB 2000000 n * facB 2000000 n) ≤ 2 ^ 240 := by
  have f : facB 2000000 n ≤ 2 ^ 118 := Nat.le_trans (facB_mono (by decide) h) (by decide)
  have g : facB 2000000 n * facB 2000000 n ≤ 2 ^ 118 * 2 ^ 118 := Nat.mul_le_mul f f
  exact Nat.le_trans (Nat.mul_le_mul h g) (by decide)

abbrev st_law_answer_right : Stmt := top 42
theorem sc_law_answer_right : FnScope ["_law_one", "_law_other", "_law_is_alike", "_law_told", "_law_own", "_law_far"] ["_law_one", "_law_other", "_law_is_alike"] (defScope st_law_answer_right) := ⟨rfl, rfl, rfl, by decide +kernel, rfl, by decide +kernel, by decide +kernel⟩
theorem ok_law_answer_right (B : Blt mg) {CParting : Addr} (Es : ErH K mg CParting) {f_law_column : Addr} {fd_law_column : FuncData} (D_law_column : DefAt K mg "_law_column" st_law_column ["_law_exponents", "_law_i"] f_law_column fd_law_column) {f_law_inner : Addr} {fd_law_inner : FuncData} (D_law_inner : DefAt K mg "_law_inner" st_law_inner ["_law_row", "_law_column_here"] f_law_inner fd_law_inner) {f_law_is_whole : Addr} {fd_law_is_whole : FuncData} (D_law_is_whole : DefAt K mg "_law_is_whole" st_law_is_whole ["_law_value"] f_law_is_whole fd_law_is_whole) {f_law_is_matrix : Addr} {fd_law_is_matrix : FuncData} (D_law_is_matrix : DefAt K mg "_law_is_matrix" st_law_is_matrix ["_law_value", "_law_many", "_law_wide"] f_law_is_matrix fd_law_is_matrix) {f_law_group_right : Addr} {fd_law_group_right : FuncData} (D_law_group_right : DefAt K mg "_law_group_right" st_law_group_right ["_law_group", "_law_exponents", "_law_places"] f_law_group_right fd_law_group_right) {fis_list : Addr} {fdis_list : FuncData} (Dis_list : DefAt K mg "is_list" stis_list ["value"] fis_list fdis_list) {fas_tuples0 : Addr} {fdas_tuples0 : FuncData} (Das_tuples0 : DefAt K mg "as_tuples" stas_tuples0 ["value"] fas_tuples0 fdas_tuples0) {fas_tuples1 : Addr} {fdas_tuples1 : FuncData} (Das_tuples1 : DefAt K mg "as_tuples" stas_tuples1 ["value"] fas_tuples1 fdas_tuples1) {fas_tuples : Addr} {fdas_tuples : FuncData} (Das_tuples : DefAt K mg "as_tuples" stas_tuples ["value"] fas_tuples fdas_tuples) {fP_init : Addr} {fdP_init : FuncData} (DP_init : IniA K "__init__" "Parting.__init__" stP_init ["self", "group", "which"] CParting fP_init fdP_init) {fis_whole : Addr} {fdis_whole : FuncData} (Dis_whole : DefAt K mg "is_whole" stis_whole ["value"] fis_whole fdis_whole) {fare_integers : Addr} {fdare_integers : FuncData} (Dare_integers : DefAt K mg "are_integers" stare_integers ["items"] fare_integers fdare_integers) {fis_letters : Addr} {fdis_letters : FuncData} (Dis_letters : DefAt K mg "is_letters" stis_letters ["exponents"] fis_letters fdis_letters) {fcheck_letters : Addr} {fdcheck_letters : FuncData} (Dcheck_letters : DefDd [.non] K mg "check_letters" stcheck_letters ["exponents", "many"] fcheck_letters fdcheck_letters) {fdot : Addr} {fddot : FuncData} (Ddot : DefAt K mg "dot" stdot ["one", "other"] fdot fddot) {fcombined : Addr} {fdcombined : FuncData} (Dcombined : DefAt K mg "combined" stcombined ["many", "one", "times", "other"] fcombined fdcombined) {fpivot_of : Addr} {fdpivot_of : FuncData} (Dpivot_of : DefAt K mg "pivot_of" stpivot_of ["row"] fpivot_of fdpivot_of) {freduced : Addr} {fdreduced : FuncData} (Dreduced : DefAt K mg "reduced" streduced ["rows"] freduced fdreduced) {fbezout : Addr} {fdbezout : FuncData} (Dbezout : DefAt K mg "bezout" stbezout ["one", "other"] fbezout fdbezout) {ftaken_in : Addr} {fdtaken_in : FuncData} (Dtaken_in : DefAt K mg "taken_in" sttaken_in ["basis", "row"] ftaken_in fdtaken_in) {fhermite_rows : Addr} {fdhermite_rows : FuncData} (Dhermite_rows : DefAt K mg "hermite_rows" sthermite_rows ["rows"] fhermite_rows fdhermite_rows) {fidentity : Addr} {fdidentity : FuncData} (Didentity : DefAt K mg "identity" stidentity ["many"] fidentity fdidentity) {fhermite_pair : Addr} {fdhermite_pair : FuncData} (Dhermite_pair : DefAt K mg "hermite_pair" sthermite_pair ["rows"] fhermite_pair fdhermite_pair) {ftransposed : Addr} {fdtransposed : FuncData} (Dtransposed : DefAt K mg "transposed" sttransposed ["rows"] ftransposed fdtransposed) {fkernel_rows : Addr} {fdkernel_rows : FuncData} (Dkernel_rows : DefAt K mg "kernel_rows" stkernel_rows ["rows"] fkernel_rows fdkernel_rows) {falike_units : Addr} {fdalike_units : FuncData} (Dalike_units : DefAt K mg "alike_units" stalike_units ["one", "other"] falike_units fdalike_units) {f_law_answer_right : Addr} {fd_law_answer_right : FuncData} (D_law_answer_right : DefAt K mg "_law_answer_right" st_law_answer_right ["_law_one", "_law_other", "_law_is_alike"] f_law_answer_right fd_law_answer_right) : FnOk P w K mg base CX0 8 f_law_answer_right fd_law_answer_right ["_law_one", "_law_other", "_law_is_alike"] spAr := by
  have OK_law_group_right : FnOk P w K mg base CX0 3 f_law_group_right fd_law_group_right ["_law_group", "_law_exponents", "_law_places"] spGr := ok_law_group_right B  D_law_column D_law_inner D_law_is_whole D_law_is_matrix D_law_group_right
  have OK_law_is_whole : FnOk P w K mg base CX0 1 f_law_is_whole fd_law_is_whole ["_law_value"] spWhI := ok_law_is_whole B  D_law_is_whole
  have OKalike_units : FnOk P w K mg base CX0 7 falike_units fdalike_units ["one", "other"] (spAu CParting) := okalike_units B Es Dis_list Das_tuples0 Das_tuples1 Das_tuples DP_init Dis_whole Dare_integers Dis_letters Dcheck_letters Ddot Dcombined Dpivot_of Dreduced Dbezout Dtaken_in Dhermite_rows Didentity Dhermite_pair Dtransposed Dkernel_rows Dalike_units
  refine D_law_answer_right.F.ok sc_law_answer_right (fun vs H Q E h => ?_) (fun cdv A outer s H vs Q E hr h => ?_)
  · obtain ⟨w1, w2, n1, n2, A1, A2, b, rfl, _⟩ := h; rfl
  · have hu := hu_of hr
    refine ⟨_, (pss_cons (ps_set (i := 3) sc_law_answer_right.nd rfl (Or.inl rfl) (pe_call OKalike_units (hr.mono (by decide)) rfl Dalike_units.m Dalike_units.F.kp Dalike_units.b .nil pass0 (pa_cons (pv 0) (pa_cons (pv 1) pa_nil))))
    (pss_cons (ps_if (pt_val (pv 2)) (pss_one (ps_ret (pe_cmpR op_isN (pv 3) pe_non (nomark _)))) pss_nil)
    (pss_cons (ps_if (PW.pt (pw_or (pt_not (pt_val (pe_callB call_isi (by rfl) B.isinstance_ (by decide +kernel) (pa_cons (pv 3) (pa_cons (pe_glob (v := .ref CParting) rfl Es.mParting rfl) pa_nil))))) (pw_or (pt_not (pt_val (pe_call OK_law_is_whole (hr.mono (by decide)) rfl D_law_is_whole.m D_law_is_whole.F.kp D_law_is_whole.b .nil pass0 (pa_cons (pe_fld (pv 3) rfl) pa_nil)))) (pw_or1 (pt_cmpR (op_notIn_seq : OpR _ _ (rIn K true)) (pe_fld (pv 3) rfl) (pe_lst (pa_cons pe_int (pa_cons pe_int pa_nil))) rfl))))) (pss_one (ps_ret pe_bl)) pss_nil)
    (pss_cons (ps_asg (pe_ifExp (pt_cmpR op_eq (pe_fld (pv 3) rfl) pe_int (nomark _)) (pe_tup (pa_cons (pv 0) (pa_cons (pv 1) pa_nil))) (pe_tup (pa_cons (pv 1) (pa_cons (pv 0) pa_nil)))) (pg_tup rfl (pgs_cons (pg_name (i := 4) sc_law_answer_right.nd rfl (Or.inl rfl)) (pgs_cons (pg_name (i := 5) sc_law_answer_right.nd rfl (Or.inl rfl)) pgs_nil))))
    (pss_cons (ps_if (pt_not (pt_val (pe_call OK_law_group_right (hr.mono (by decide)) rfl D_law_group_right.m D_law_group_right.F.kp D_law_group_right.b .nil pass0 (pa_cons (pe_fld (pv 3) rfl) (pa_cons (pv 4) (pa_cons (pe_listRg rfl (by rfl) B.list_ (prg_1 (by rfl) B.range_ (pe_callB call_len_seq (by rfl) B.len_ (by decide +kernel) (pa_cons (pv 4) pa_nil)))) pa_nil)))))) (pss_one (ps_ret pe_bl)) pss_nil)
    (pss_one (ps_ret (pe_not (pe_call OK_law_group_right (hr.mono (by decide)) rfl D_law_group_right.m D_law_group_right.F.kp D_law_group_right.b .nil pass0 (pa_cons (pe_fld (pv 3) rfl) (pa_cons (pv 5) (pa_cons (pe_listRg rfl (by rfl) B.list_ (prg_1 (by rfl) B.range_ (pe_callB call_len_seq (by rfl) B.len_ (by decide +kernel) (pa_cons (pv 5) pa_nil)))) pa_nil)))))))))))), ?_⟩
    obtain ⟨w1, w2, n1, n2, A1, A2, b, rfl, hw1, hw2, ne1, lA2, hl1, hl2, p1, p2, q1, q2, lN, b1, b2, r1, r2, r3, q⟩ := h
    have ne2 : A2 ≠ [] := fun z => by rw [z] at lA2; exact ne1 (List.eq_nil_of_length_eq_zero (by simpa using lA2.symm))
    have szz : (240 + 1) * (3 * A1.length + 1) + 2 < 13000 := by
      have : (240 + 1) * (3 * A1.length + 1) ≤ (240 + 1) * 16 := Nat.mul_le_mul_left _ (by omega)
      omega
    refine ⟨_, rfl, _, rfl, w1, w2, n1, n2, 2000000, 240, A1, A2, rfl, hw1, hw2, ne1, lA2, hl1, hl2, p1, p2, by omega, by omega, by omega, b1, b2, by decide, Nat.lt_of_lt_of_le (by decide : 2000000 < 2 ^ 60) (Nat.pow_le_pow_right (by decide) (by decide)), Nat.le_trans (by decide : 2000000 ≤ 2 ^ 60) (Nat.pow_le_pow_right (by decide) (by decide)), fac80 lN, szz, by decide, fun v H1 s1 res => ?_⟩
    have hw11 := hw1.same s1
    have hw21 := hw2.same s1
    rcases res with ⟨rfl, k1, k2⟩ | ⟨z, gg, k, rfl, ⟨dz, t, hz, ht⟩, lg, ⟨j0, hj0, gj0⟩, gb, side⟩
    · rw [r1 k1 k2]
      refine ⟨_, rfl, true, rfl, ?_⟩
      refine iteT ?_
      refine ⟨_, rfl, rfl, ?_⟩
      exact q H1 s1
    have eb : b = false := by
      rcases side with ⟨_, s2, s3⟩ | ⟨_, s2, s3⟩
      · exact r2 gg s2 s3
      · exact r3 gg s2 s3
    subst eb
    refine ⟨_, rfl, false, rfl, ?_⟩
    refine iteF ?_
    refine ⟨_, rfl, _, _, _, _, _, rfl, ClsV.own _, TyX.base (.ins hz Es.clParting Es.c1Parting Es.c2Parting Es.c3Parting Es.c4Parting), Es.zParting, true, rfl, ?_⟩
    refine iteF ?_
    refine ⟨_, rfl, z, _, dz, _, _, rfl, hz, Es.clParting, Es.nPartingwhich, rfl, k, rfl, true, rfl, ?_⟩
    refine iteF ?_
    refine ⟨_, rfl, z, _, dz, _, _, rfl, hz, Es.clParting, Es.nPartingwhich, rfl, (by show 2 ≤ sizeLine; decide), fun l hl => ?_⟩
    have nl := AL.Same.new (o := .lst [.int 0, .int 1]) hl
    have hz2 := nl _ _ hz
    have ht2 := nl _ _ ht
    have hw12 := hw11.same nl
    have hw22 := hw21.same nl
    have s2 := s1.trans nl
    refine ⟨l, _, rfl, .inl (SqL.of upd_same), rfl, rfl, _, rfl, ?_⟩
    rw [show inV (V.int k) [V.int 0, V.int 1] = true by rcases side with ⟨e, _⟩ | ⟨e, _⟩ <;> rw [e] <;> rfl]
    refine iteF ?_
    generalize upd H1 l (.lst [.int 0, .int 1]) = H2 at hz2 ht2 hw12 hw22 s2 ⊢
    clear nl hl hw11 hw21 hz ht
    refine ⟨_, rfl, z, _, dz, _, _, rfl, hz2, Es.clParting, Es.nPartingwhich, rfl, rfl, _, rfl, ?_⟩
    rcases side with ⟨rfl, k1, k2⟩ | ⟨rfl, k1, k2⟩
    · rw [decide_eq_true rfl]
      refine iteT ?_
    
      refine ⟨_, rfl, _, rfl, (by show 2 ≤ sizeLine; decide), fun T hT => ?_⟩
      have nT := AL.Same.new (o := .tup [.ref w1, .ref w2]) hT
      refine ⟨T, _, rfl, SqT.of upd_same, rfl, _, _, rfl, _, _, rfl, rfl, ?_⟩
      have hz3 := nT _ _ hz2
      have ht3 := nT _ _ ht2
      have hw13 := hw12.same nT
      have hw23 := hw22.same nT
      have s3 := s2.trans nT
      generalize upd H2 T (.tup [.ref w1, .ref w2]) = H3 at hz3 ht3 hw13 hw23 s3 ⊢
      clear nT hT hz2 ht2 hw12 hw22 s2
      obtain ⟨as, W1, W2⟩ := hw13
      have las := prd_len W2
      have e0 : ((as.map V.ref).length : Int) = ((A1.length : Nat) : Int) := by rw [List.length_map, las]
      refine ⟨_, rfl, z, _, dz, _, _, rfl, hz3, Es.clParting, Es.nPartinggroup, rfl, _, rfl, _, rfl, w1, _, rfl, (W1.imp SqL.of SqT.of), _, rfl, RgOk.of_le (by omega) (by omega) (by omega) (by omega), fun od hod => ?_⟩
      rw [e0]
      have nod := AL.Same.new (o := .lst (rgV 0 (A1.length : Int))) hod
      have ho := rg_zN (H := H3) (a := od) A1.length
      have hw2n : A1 ≠ [] := ne1
      refine ⟨t, w1, od, as, A1, gg, n1, List.range A1.length, rfl, nod _ _ ht3, W1.imp (nod _ _) (nod _ _), paired_mono W2 fun _ _ z => nod _ _ z, ne1, hl1, p1, by omega, by omega, fun r hr v hv => Nat.lt_of_le_of_lt (b1 r hr v hv) (by decide), ho, by omega, ⟨j0, List.mem_range.mpr (by omega), gj0⟩, fun j hj => List.mem_range.mpr ?_, fun j => Nat.lt_of_le_of_lt (gb j) (Nat.pow_lt_pow_right (by decide) (by decide)), fun H4 s4 => ⟨_, rfl, ?_⟩⟩
      · refine Classical.byContradiction fun c => hj (vl_out (by omega))
      have kOwn : KilR A1.length A1 n1 gg := by first | exact k1 | (rw [lA2]; exact k1)
      have kFar : ¬ KilR A2.length A2 n2 gg := by first | exact k2 | (rw [lA2]; exact k2)
      rw [decide_eq_true (badC_nil.mpr kOwn)]
      refine iteF ?_
      have s34 := nod.trans s4
      have hz4 := s34 _ _ hz3
      have ht4 := s34 _ _ ht3
      obtain ⟨bs, V1, V2⟩ := hw23.same s34
      have lbs := prd_len V2
      have lbf : A2.length = A1.length := by omega
      have e1 : ((bs.map V.ref).length : Int) = ((A2.length : Nat) : Int) := by rw [List.length_map, lbs]
      refine ⟨_, rfl, z, _, dz, _, _, rfl, hz4, Es.clParting, Es.nPartinggroup, rfl, _, rfl, _, rfl, w2, _, rfl, (V1.imp SqL.of SqT.of), _, rfl, RgOk.of_le (by omega) (by omega) (by omega) (by omega), fun od2 hod2 => ?_⟩
      rw [e1]
      have nod2 := AL.Same.new (o := .lst (rgV 0 (A2.length : Int))) hod2
      have ho2 := rg_zN (H := H4) (a := od2) A2.length
      refine ⟨t, w2, od2, bs, A2, gg, n2, List.range A2.length, rfl, nod2 _ _ ht4, V1.imp (nod2 _ _) (nod2 _ _), paired_mono V2 fun _ _ z => nod2 _ _ z, ne2, hl2, p2, by omega, by omega, fun r hr v hv => Nat.lt_of_le_of_lt (b2 r hr v hv) (by decide), ho2, by omega, ⟨j0, List.mem_range.mpr (by omega), gj0⟩, fun j hj => List.mem_range.mpr ?_, fun j => Nat.lt_of_le_of_lt (gb j) (Nat.pow_lt_pow_right (by decide) (by decide)), fun H6 s6 => ?_⟩
      · refine Classical.byContradiction fun c => hj (vl_out (by omega))
      rw [decide_eq_false (fun e => kFar (badC_nil.mp e))]
      refine ⟨_, rfl, ?_⟩
      exact q H6 (s3.trans (s34.trans (nod2.trans s6)))
    
    · rw [decide_eq_false (by decide)]
      refine iteF ?_
    
      refine ⟨_, rfl, _, rfl, (by show 2 ≤ sizeLine; decide), fun T hT => ?_⟩
      have nT := AL.Same.new (o := .tup [.ref w2, .ref w1]) hT
      refine ⟨T, _, rfl, SqT.of upd_same, rfl, _, _, rfl, _, _, rfl, rfl, ?_⟩
      have hz3 := nT _ _ hz2
      have ht3 := nT _ _ ht2
      have hw13 := hw12.same nT
      have hw23 := hw22.same nT
      have s3 := s2.trans nT
      generalize upd H2 T (.tup [.ref w2, .ref w1]) = H3 at hz3 ht3 hw13 hw23 s3 ⊢
      clear nT hT hz2 ht2 hw12 hw22 s2
      obtain ⟨as, W1, W2⟩ := hw23
      have las := prd_len W2
      have e0 : ((as.map V.ref).length : Int) = ((A2.length : Nat) : Int) := by rw [List.length_map, las]
      refine ⟨_, rfl, z, _, dz, _, _, rfl, hz3, Es.clParting, Es.nPartinggroup, rfl, _, rfl, _, rfl, w2, _, rfl, (W1.imp SqL.of SqT.of), _, rfl, RgOk.of_le (by omega) (by omega) (by omega) (by omega), fun od hod => ?_⟩
      rw [e0]
      have nod := AL.Same.new (o := .lst (rgV 0 (A2.length : Int))) hod
      have ho := rg_zN (H := H3) (a := od) A2.length
      have hw2n : A2 ≠ [] := ne2
      refine ⟨t, w2, od, as, A2, gg, n2, List.range A2.length, rfl, nod _ _ ht3, W1.imp (nod _ _) (nod _ _), paired_mono W2 fun _ _ z => nod _ _ z, ne2, hl2, p2, by omega, by omega, fun r hr v hv => Nat.lt_of_le_of_lt (b2 r hr v hv) (by decide), ho, by omega, ⟨j0, List.mem_range.mpr (by omega), gj0⟩, fun j hj => List.mem_range.mpr ?_, fun j => Nat.lt_of_le_of_lt (gb j) (Nat.pow_lt_pow_right (by decide) (by decide)), fun H4 s4 => ⟨_, rfl, ?_⟩⟩
      · refine Classical.byContradiction fun c => hj (vl_out (by omega))
      have kOwn : KilR A2.length A2 n2 gg := by first | exact k1 | (rw [lA2]; exact k1)
      have kFar : ¬ KilR A1.length A1 n1 gg := by first | exact k2 | (rw [lA2]; exact k2)
      rw [decide_eq_true (badC_nil.mpr kOwn)]
      refine iteF ?_
      have s34 := nod.trans s4
      have hz4 := s34 _ _ hz3
      have ht4 := s34 _ _ ht3
      obtain ⟨bs, V1, V2⟩ := hw13.same s34
      have lbs := prd_len V2
      have lbf : A1.length = A2.length := by omega
      have e1 : ((bs.map V.ref).length : Int) = ((A1.length : Nat) : Int) := by rw [List.length_map, lbs]
      refine ⟨_, rfl, z, _, dz, _, _, rfl, hz4, Es.clParting, Es.nPartinggroup, rfl, _, rfl, _, rfl, w1, _, rfl, (V1.imp SqL.of SqT.of), _, rfl, RgOk.of_le (by omega) (by omega) (by omega) (by omega), fun od2 hod2 => ?_⟩
      rw [e1]
      have nod2 := AL.Same.new (o := .lst (rgV 0 (A1.length : Int))) hod2
      have ho2 := rg_zN (H := H4) (a := od2) A1.length
      refine ⟨t, w1, od2, bs, A1, gg, n1, List.range A1.length, rfl, nod2 _ _ ht4, V1.imp (nod2 _ _) (nod2 _ _), paired_mono V2 fun _ _ z => nod2 _ _ z, ne1, hl1, p1, by omega, by omega, fun r hr v hv => Nat.lt_of_le_of_lt (b1 r hr v hv) (by decide), ho2, by omega, ⟨j0, List.mem_range.mpr (by omega), gj0⟩, fun j hj => List.mem_range.mpr ?_, fun j => Nat.lt_of_le_of_lt (gb j) (Nat.pow_lt_pow_right (by decide) (by decide)), fun H6 s6 => ?_⟩
      · refine Classical.byContradiction fun c => hj (vl_out (by omega))
      rw [decide_eq_false (fun e => kFar (badC_nil.mp e))]
      refine ⟨_, rfl, ?_⟩
      exact q H6 (s3.trans (s34.trans (nod2.trans s6)))
end
end AL
set_option Elab.async false
set_option maxRecDepth 100000
set_option exponentiation.threshold 70000
set_option maxHeartbeats 1000000
namespace AL
open PySem PySem.Spec PyProof.Rows L2 RZ
section
variable {P : Program} {w : World} {K : PySem.W.Frag} {mg : Str → Option Value} {base : Heap}

theorem fac81 {n : Nat} (h : n ≤ 5) : facB 2000000 (n + 1) < 2 ^ 6000 := by
  have f : facB 2000000 (n + 1) ≤ 2 ^ 200 := Nat.le_trans (facB_mono (n := 6) (by decide) (by omega)) (by decide)
  exact Nat.lt_of_le_of_lt f (Nat.pow_lt_pow_right (by decide) (by decide))
/-- what the ranks tell of the groups -/
theorem alike_of {n1 n2 r s t : Nat} {A1 A2 : List Rw} (lA2 : A2.length = A1.length) (hl1 : ∀ r ∈ A1, r.length = n1) (hl2 : ∀ r ∈ A2, r.length = n2) (hr : RankIs A1 r) (hs : RankIs A2 s) (ht : RankIs (besR A1 A2) t) :
    ((∃ F, Kil F A1 n1 A2 n2 A1.length) → (∃ F, Kil F A2 n2 A1 n1 A1.length) → r = s ∧ s = t) ∧ (∀ g, KilR A1.length A1 n1 g → ¬ KilR A1.length A2 n2 g → ¬ (r = s ∧ s = t)) ∧ (∀ g, KilR A1.length A2 n2 g → ¬ KilR A1.length A1 n1 g → ¬ (r = s ∧ s = t)) := by
  have sl := bes_le2 (A := A1) (A' := A2) (N := A1.length) rfl lA2 hl1 hs ht
  refine ⟨?_, fun g k1 k2 e => ?_, fun g k1 k2 e => ?_⟩
  · rintro ⟨F, k⟩ ⟨F', k'⟩
    have e1 := kil_rank (N := A1.length) k rfl lA2 hl1 hl2 hr ht
    have e2 := kil_rank2 (N := A1.length) k' rfl lA2 hl1 hl2 hs ht
    omega
  · have := part_rank (N := A1.length) rfl lA2 hl1 hl2 hr ht k1 k2; omega
  · have := part_rank2 (N := A1.length) rfl lA2 hl1 hl2 hs ht k1 k2; omega

theorem alike_ne {n1 n2 r s : Nat} {A1 A2 : List Rw} (lA2 : A2.length = A1.length) (hl1 : ∀ r ∈ A1, r.length = n1) (hl2 : ∀ r ∈ A2, r.length = n2) (hr : RankIs A1 r) (hs : RankIs A2 s) (h1 : ∃ F, Kil F A1 n1 A2 n2 A1.length) (h2 : ∃ F, Kil F A2 n2 A1 n1 A1.length) : r = s := by
  obtain ⟨F, k⟩ := h1
  obtain ⟨F', k'⟩ := h2
  exact Nat.le_antisymm (kil_le (N := A1.length) k' lA2 rfl hl2 hl1 (fun c hc => .inr ⟨c, hc, fun i _ => rfl⟩) hs hr) (kil_le (N := A1.length) k rfl lA2 hl1 hl2 (fun c hc => .inr ⟨c, hc, fun i _ => rfl⟩) hr hs)

abbrev stlaw : Stmt := top 43
theorem sclaw : FnScope ["_law_script", "_law_pen_here", "_law_lap", "_law_rows", "_law_more", "_law_both", "_law_a", "_law_b", "_law_is_alike", "_law_one", "_law_other", "_law_row"] ["_law_script"] (defScope stlaw) := ⟨rfl, rfl, rfl, by decide +kernel, rfl, by decide +kernel, by decide +kernel⟩
theorem oklaw (B : Blt mg) {CParting : Addr} (Es : ErH K mg CParting) {f_law_column : Addr} {fd_law_column : FuncData} (D_law_column : DefAt K mg "_law_column" st_law_column ["_law_exponents", "_law_i"] f_law_column fd_law_column) {f_law_inner : Addr} {fd_law_inner : FuncData} (D_law_inner : DefAt K mg "_law_inner" st_law_inner ["_law_row", "_law_column_here"] f_law_inner fd_law_inner) {f_law_is_whole : Addr} {fd_law_is_whole : FuncData} (D_law_is_whole : DefAt K mg "_law_is_whole" st_law_is_whole ["_law_value"] f_law_is_whole fd_law_is_whole) {f_law_is_matrix : Addr} {fd_law_is_matrix : FuncData} (D_law_is_matrix : DefAt K mg "_law_is_matrix" st_law_is_matrix ["_law_value", "_law_many", "_law_wide"] f_law_is_matrix fd_law_is_matrix) {f_law_group_right : Addr} {fd_law_group_right : FuncData} (D_law_group_right : DefAt K mg "_law_group_right" st_law_group_right ["_law_group", "_law_exponents", "_law_places"] f_law_group_right fd_law_group_right) {fis_list : Addr} {fdis_list : FuncData} (Dis_list : DefAt K mg "is_list" stis_list ["value"] fis_list fdis_list) {fas_tuples0 : Addr} {fdas_tuples0 : FuncData} (Das_tuples0 : DefAt K mg "as_tuples" stas_tuples0 ["value"] fas_tuples0 fdas_tuples0) {fas_tuples1 : Addr} {fdas_tuples1 : FuncData} (Das_tuples1 : DefAt K mg "as_tuples" stas_tuples1 ["value"] fas_tuples1 fdas_tuples1) {fas_tuples : Addr} {fdas_tuples : FuncData} (Das_tuples : DefAt K mg "as_tuples" stas_tuples ["value"] fas_tuples fdas_tuples) {fP_init : Addr} {fdP_init : FuncData} (DP_init : IniA K "__init__" "Parting.__init__" stP_init ["self", "group", "which"] CParting fP_init fdP_init) {fis_whole : Addr} {fdis_whole : FuncData} (Dis_whole : DefAt K mg "is_whole" stis_whole ["value"] fis_whole fdis_whole) {fare_integers : Addr} {fdare_integers : FuncData} (Dare_integers : DefAt K mg "are_integers" stare_integers ["items"] fare_integers fdare_integers) {fis_letters : Addr} {fdis_letters : FuncData} (Dis_letters : DefAt K mg "is_letters" stis_letters ["exponents"] fis_letters fdis_letters) {fcheck_letters : Addr} {fdcheck_letters : FuncData} (Dcheck_letters : DefDd [.non] K mg "check_letters" stcheck_letters ["exponents", "many"] fcheck_letters fdcheck_letters) {fdot : Addr} {fddot : FuncData} (Ddot : DefAt K mg "dot" stdot ["one", "other"] fdot fddot) {fcombined : Addr} {fdcombined : FuncData} (Dcombined : DefAt K mg "combined" stcombined ["many", "one", "times", "other"] fcombined fdcombined) {fpivot_of : Addr} {fdpivot_of : FuncData} (Dpivot_of : DefAt K mg "pivot_of" stpivot_of ["row"] fpivot_of fdpivot_of) {freduced : Addr} {fdreduced : FuncData} (Dreduced : DefAt K mg "reduced" streduced ["rows"] freduced fdreduced) {fbezout : Addr} {fdbezout : FuncData} (Dbezout : DefAt K mg "bezout" stbezout ["one", "other"] fbezout fdbezout) {ftaken_in : Addr} {fdtaken_in : FuncData} (Dtaken_in : DefAt K mg "taken_in" sttaken_in ["basis", "row"] ftaken_in fdtaken_in) {fhermite_rows : Addr} {fdhermite_rows : FuncData} (Dhermite_rows : DefAt K mg "hermite_rows" sthermite_rows ["rows"] fhermite_rows fdhermite_rows) {fidentity : Addr} {fdidentity : FuncData} (Didentity : DefAt K mg "identity" stidentity ["many"] fidentity fdidentity) {fhermite_pair : Addr} {fdhermite_pair : FuncData} (Dhermite_pair : DefAt K mg "hermite_pair" sthermite_pair ["rows"] fhermite_pair fdhermite_pair) {ftransposed : Addr} {fdtransposed : FuncData} (Dtransposed : DefAt K mg "transposed" sttransposed ["rows"] ftransposed fdtransposed) {fkernel_rows : Addr} {fdkernel_rows : FuncData} (Dkernel_rows : DefAt K mg "kernel_rows" stkernel_rows ["rows"] fkernel_rows fdkernel_rows) {falike_units : Addr} {fdalike_units : FuncData} (Dalike_units : DefAt K mg "alike_units" stalike_units ["one", "other"] falike_units fdalike_units) {f_law_answer_right : Addr} {fd_law_answer_right : FuncData} (D_law_answer_right : DefAt K mg "_law_answer_right" st_law_answer_right ["_law_one", "_law_other", "_law_is_alike"] f_law_answer_right fd_law_answer_right) {f_law_draw : Addr} {fd_law_draw : FuncData} (D_law_draw : DefAt K mg "_law_draw" st_law_draw ["_law_pen_here", "_law_many"] f_law_draw fd_law_draw) {f_law_pick : Addr} {fd_law_pick : FuncData} (D_law_pick : DefAt K mg "_law_pick" st_law_pick ["_law_pen_here", "_law_some"] f_law_pick fd_law_pick) {f_law_matrix : Addr} {fd_law_matrix : FuncData} (D_law_matrix : DefAt K mg "_law_matrix" st_law_matrix ["_law_pen_here", "_law_many", "_law_wide", "_law_most"] f_law_matrix fd_law_matrix) {f_law_pen : Addr} {fd_law_pen : FuncData} (D_law_pen : DefAt K mg "_law_pen" st_law_pen ["_law_script"] f_law_pen fd_law_pen) {f_law_rank : Addr} {fd_law_rank : FuncData} (D_law_rank : DefAt K mg "_law_rank" st_law_rank ["_law_rows"] f_law_rank fd_law_rank) {f_law_turned : Addr} {fd_law_turned : FuncData} (D_law_turned : DefAt K mg "_law_turned" st_law_turned ["_law_rows"] f_law_turned fd_law_turned) {f_law_matmul : Addr} {fd_law_matmul : FuncData} (D_law_matmul : DefAt K mg "_law_matmul" st_law_matmul ["_law_one", "_law_two"] f_law_matmul fd_law_matmul) {f_law_unit : Addr} {fd_law_unit : FuncData} (D_law_unit : DefAt K mg "_law_unit" st_law_unit ["_law_many"] f_law_unit fd_law_unit) {f_law_unimodular : Addr} {fd_law_unimodular : FuncData} (D_law_unimodular : DefAt K mg "_law_unimodular" st_law_unimodular ["_law_pen_here", "_law_many", "_law_steps"] f_law_unimodular fd_law_unimodular) {f_law_second : Addr} {fd_law_second : FuncData} (D_law_second : DefAt K mg "_law_second" st_law_second ["_law_pen_here", "_law_rows"] f_law_second fd_law_second) {flaw : Addr} {fdlaw : FuncData} (Dlaw : DefAt K mg "law" stlaw ["_law_script"] flaw fdlaw) : FnOk P w K mg base CX0 9 flaw fdlaw ["_law_script"] (spLaw K) := by
  have OK_law_answer_right : FnOk P w K mg base CX0 8 f_law_answer_right fd_law_answer_right ["_law_one", "_law_other", "_law_is_alike"] spAr := ok_law_answer_right B Es D_law_column D_law_inner D_law_is_whole D_law_is_matrix D_law_group_right Dis_list Das_tuples0 Das_tuples1 Das_tuples DP_init Dis_whole Dare_integers Dis_letters Dcheck_letters Ddot Dcombined Dpivot_of Dreduced Dbezout Dtaken_in Dhermite_rows Didentity Dhermite_pair Dtransposed Dkernel_rows Dalike_units D_law_answer_right
  have OK_law_draw : FnOk P w K mg base CX0 1 f_law_draw fd_law_draw ["_law_pen_here", "_law_many"] spDraw := ok_law_draw B  D_law_draw
  have OK_law_matrix : FnOk P w K mg base CX0 3 f_law_matrix fd_law_matrix ["_law_pen_here", "_law_many", "_law_wide", "_law_most"] spMx := ok_law_matrix B  D_law_draw D_law_pick D_law_matrix
  have OK_law_pen : FnOk P w K mg base CX0 1 f_law_pen fd_law_pen ["_law_script"] (spPen K) := ok_law_pen B  D_law_pen
  have OK_law_rank : FnOk P w K mg base CX0 1 f_law_rank fd_law_rank ["_law_rows"] spRk := ok_law_rank B  D_law_rank
  have OK_law_second : FnOk P w K mg base CX0 4 f_law_second fd_law_second ["_law_pen_here", "_law_rows"] spSec := ok_law_second B  D_law_draw D_law_inner D_law_turned D_law_matmul D_law_pick D_law_matrix D_law_unit D_law_unimodular D_law_second
  refine Dlaw.F.ok sclaw (fun vs H Q E h => ?_) (fun cdv A outer s H vs Q E hr h => ?_)
  · obtain ⟨a, ns, rfl, _⟩ := h; rfl
  · have hu := hu_of hr
    refine ⟨_, (pss_cons (ps_set (i := 1) sclaw.nd rfl (Or.inl rfl) (pe_call OK_law_pen (hr.mono (by decide)) rfl D_law_pen.m D_law_pen.F.kp D_law_pen.b .nil pass0 (pa_cons (pv 0) pa_nil)))
    (pss_cons (ps_for PassesOwn.never rfl (pi_range1 rfl B.range_ (pa_cons pe_int pa_nil)) (pg_name (i := 2) sclaw.nd rfl (Or.inl rfl))
      (pss_cons (ps_set (i := 3) sclaw.nd rfl (Or.inl rfl) (pe_call OK_law_matrix (hr.mono (by decide)) rfl D_law_matrix.m D_law_matrix.F.kp D_law_matrix.b .nil pass0 (pa_cons (pv 1) (pa_cons (pe_op op_add pe_int (pe_call OK_law_draw (hr.mono (by decide)) rfl D_law_draw.m D_law_draw.F.kp D_law_draw.b .nil pass0 (pa_cons (pv 1) (pa_cons pe_int pa_nil)))) (pa_cons (pe_op op_add pe_int (pe_call OK_law_draw (hr.mono (by decide)) rfl D_law_draw.m D_law_draw.F.kp D_law_draw.b .nil pass0 (pa_cons (pv 1) (pa_cons pe_int pa_nil)))) (pa_cons pe_int pa_nil))))))
    (pss_cons (ps_set (i := 4) sclaw.nd rfl (Or.inl rfl) (pe_call OK_law_second (hr.mono (by decide)) rfl D_law_second.m D_law_second.F.kp D_law_second.b .nil pass0 (pa_cons (pv 1) (pa_cons (pv 3) pa_nil))))
    (pss_cons (ps_setLc (i := 5) (own := [("_law_a", 6), ("_law_b", 7)]) (g := (gTup K 2 (gCons (gName 6) (gCons (gName 7) gNil)))) (tt := tYes) rfl sclaw.nd rfl rfl (sw_true rfl rfl rfl (by decide +kernel)) (pi_zip (by rfl) B.zip_ (pa_cons (pv 3) (pa_cons (pv 4) pa_nil))) (blkOk_by (own := [("_law_a", 6), ("_law_b", 7)]) (N := ["_law_script", "_law_pen_here", "_law_lap", "_law_rows", "_law_more", "_law_both", "_law_a", "_law_b", "_law_is_alike", "_law_one", "_law_other", "_law_row"]) (sc := defScope stlaw) (by decide +kernel)) (fun _ _ _ _ _ => (pg_tup rfl (pgs_cons (pg_name (i := 6) sclaw.nd rfl (Or.inl rfl)) (pgs_cons (pg_name (i := 7) sclaw.nd rfl (Or.inl rfl)) pgs_nil)))) (fun _ _ _ _ _ => pts_nil) (fun _ _ _ _ _ => (pe_op op_cat (pe_callTy (call_listK : CallR _ _ (rListK K)) (by rfl) B.list_ (by decide +kernel) (pa_cons (pv 6) pa_nil)) (pe_callTy (call_listK : CallR _ _ (rListK K)) (by rfl) B.list_ (by decide +kernel) (pa_cons (pv 7) pa_nil)))))
    (Evl.pss_cut (ps_set (i := 8) sclaw.nd rfl (Or.inl rfl) (pe_chain op_eq op_eq (pe_call OK_law_rank (hr.mono (by decide)) rfl D_law_rank.m D_law_rank.F.kp D_law_rank.b .nil pass0 (pa_cons (pv 3) pa_nil)) (pe_call OK_law_rank (hr.mono (by decide)) rfl D_law_rank.m D_law_rank.F.kp D_law_rank.b .nil pass0 (pa_cons (pv 4) pa_nil)) (pe_call OK_law_rank (hr.mono (by decide)) rfl D_law_rank.m D_law_rank.F.kp D_law_rank.b .nil pass0 (pa_cons (pv 5) pa_nil))))
    (pss_cons (ps_par (i := 9) (j := 10) (by rfl) sclaw.nd rfl rfl (by decide) rfl rfl (pa_cons (pe_callTy (call_tupK : CallR _ _ (rTup K)) (by rfl) B.tuple_ (by decide +kernel) (pa_cons (pe_lc (own := [("_law_row", 11)]) (g := gName 11) (tt := tYes) rfl sclaw.nd (pi_list (pv 3)) (blkOk_by (own := [("_law_row", 11)]) (N := ["_law_script", "_law_pen_here", "_law_lap", "_law_rows", "_law_more", "_law_both", "_law_a", "_law_b", "_law_is_alike", "_law_one", "_law_other", "_law_row"]) (sc := defScope stlaw) (by decide +kernel)) (fun _ _ _ _ _ => (pg_name (i := 11) sclaw.nd rfl (Or.inl rfl))) (fun _ _ _ _ _ => pts_nil) (fun _ _ _ _ _ => (pe_callTy (call_tupK : CallR _ _ (rTup K)) (by rfl) B.tuple_ (by decide +kernel) (pa_cons (pv 11) pa_nil)))) pa_nil)) (pa_cons (pe_callTy (call_tupK : CallR _ _ (rTup K)) (by rfl) B.tuple_ (by decide +kernel) (pa_cons (pe_lc (own := [("_law_row", 11)]) (g := gName 11) (tt := tYes) rfl sclaw.nd (pi_list (pv 4)) (blkOk_by (own := [("_law_row", 11)]) (N := ["_law_script", "_law_pen_here", "_law_lap", "_law_rows", "_law_more", "_law_both", "_law_a", "_law_b", "_law_is_alike", "_law_one", "_law_other", "_law_row"]) (sc := defScope stlaw) (by decide +kernel)) (fun _ _ _ _ _ => (pg_name (i := 11) sclaw.nd rfl (Or.inl rfl))) (fun _ _ _ _ _ => pts_nil) (fun _ _ _ _ _ => (pe_callTy (call_tupK : CallR _ _ (rTup K)) (by rfl) B.tuple_ (by decide +kernel) (pa_cons (pv 11) pa_nil)))) pa_nil)) pa_nil)) (by rfl))
    (pss_one (ps_if (PW.pt (pw_or (pt_not (pt_val (pe_call OK_law_answer_right (hr.mono (by decide)) rfl D_law_answer_right.m D_law_answer_right.F.kp D_law_answer_right.b .nil pass0 (pa_cons (pv 9) (pa_cons (pe_callTy (call_listK : CallR _ _ (rListK K)) (by rfl) B.list_ (by decide +kernel) (pa_cons (pv 10) pa_nil)) (pa_cons (pv 8) pa_nil)))))) (pw_or1 (pt_not (pt_val (pe_call OK_law_answer_right (hr.mono (by decide)) rfl D_law_answer_right.m D_law_answer_right.F.kp D_law_answer_right.b .nil pass0 (pa_cons (pv 10) (pa_cons (pv 9) (pa_cons (pv 8) pa_nil))))))))) (pss_one (ps_ret pe_bl)) pss_nil))))))))
    (pss_one (ps_ret pe_bl)))), ?_⟩
    obtain ⟨a, ns, rfl, ha, _, q⟩ := h
    refine ⟨_, rfl, a, ns, rfl, ha, fun p c H0 hpn hcn pc P0 s0 => ?_⟩
    refine ⟨_, rfl, by omega, by omega, for_range (lo := 0) (n := ((6 : Int)).toNat) (fun i σ H' => ∃ v2 v3 v4 v5 v8 v9 v10 : Option V, σ = [some (.ref a), some (.ref p), v2, v3, v4, v5, none, none, v8, v9, v10, none] ∧ Pen H' p c (300 * i)) ⟨none, none, none, none, none, none, none, rfl, P0⟩ ?_ ?_⟩
    · rintro turn σ H1 hturn ⟨v2, v3, v4, v5, v8, v9, v10, rfl, P1⟩
      have tu : turn < 6 := hturn
      refine ⟨_, rfl, _, rfl, p, c, _, (5 : Int), rfl, P1, by omega, by decide, by decide, fun v H2 v0 v1 P2 k2 => ⟨_, _, rfl, rfl, ?_⟩⟩
      obtain ⟨m, hm, m1, m5⟩ : ∃ m : Nat, (1 : Int) + v = (m : Int) ∧ 1 ≤ m ∧ m ≤ 5 := ⟨(1 + v).toNat, by omega, by omega, by omega⟩
      dsimp only
      rw [hm]
      refine ⟨_, rfl, p, c, _, (3 : Int), rfl, P2, by omega, by decide, by decide, fun u H3 u0 u1 P3 k3 => ⟨_, _, rfl, rfl, ?_⟩⟩
      obtain ⟨n, hn, n1, n3⟩ : ∃ n : Nat, (1 : Int) + u = (n : Int) ∧ 1 ≤ n ∧ n ≤ 3 := ⟨(1 + u).toNat, by omega, by omega, by omega⟩
      dsimp only
      rw [hn]
      refine ⟨p, c, _, m, n, 3, rfl, P3, by omega, by omega, by omega, by decide, by decide, fun w H4 A P4 k4 hA4 lA bA => ?_⟩
      have Ane : A ≠ [] := fun e => by rw [e] at lA; simp at lA; omega
      have Al : ∀ r ∈ A, r.length = n := fun r hr => (bA r hr).1
      have Ab : ∀ r ∈ A, ∀ v ∈ r, v.natAbs ≤ 729 := fun r hr v hv => by
        have h1 := (bA r hr).2 v hv
        have h2 : 3 ^ m ≤ 3 ^ 5 := Nat.pow_le_pow_right (by decide) m5
        omega
      refine ⟨_, rfl, _, rfl, p, c, _, w, A, n, rfl, P4, by omega, hA4, Ane, by omega, Al, n1, n3, Ab, fun o H5 B n' P5 k5 hB5 lB Bl n'1 n'4 Bb => ?_⟩
      have hA5 : RowsZ H5 w A := by
        obtain ⟨as, h1, h2⟩ := hA4
        exact ⟨as, k5.at P4 h1 (fun _ z => nomatch z), paired_mono h2 fun _ _ z => k5.at P4 z (fun _ z => nomatch z)⟩
      have Ab2 : ∀ r ∈ A, ∀ v ∈ r, v.natAbs ≤ 2000000 := fun r hr v hv => Nat.le_trans (Ab r hr v hv) (by decide)
      clear hA4 k5 P4 k4 P3 k3 P2 k2 P1 bA
      obtain ⟨as, A1, A2⟩ := id hA5
      obtain ⟨bs, B1, B2⟩ := id hB5
      have las := prd_len A2
      have lbs := prd_len B2
      -- both
      refine ⟨_, rfl, _, rfl, w, o, _, _, rfl, SqL.of A1, SqL.of B1, fun D hD => ?_⟩
      refine lc_it (walk_zip (K := K) (a := w) (b := o) (xs := as.map V.ref) (ys := bs.map V.ref) (n := A.length) (by rw [List.length_map, List.length_map]; omega)) (fun i H' => Same H5 H' ∧ ∃ cs : List Addr, H' D = some (.lst (cs.map V.ref)) ∧ Paired (fun a r => a ≠ D ∧ H' a = some (.lst (r.map V.int))) cs ((besR A B).take i)) ⟨AL.Same.new hD, [], upd_same, .nil⟩ (fun i H' _ hh => ⟨SqL.of (hh.1 _ _ A1), SqL.of (hh.1 _ _ B1)⟩) ?_ ?_
      · rintro i x0 H6 H7 hi ⟨s6, cs, hd, pr⟩ ⟨T0, u1, u2, rfl, hT, rfl, e1, e2⟩
        obtain ⟨ra, ha, rfl⟩ := map_ref e1
        obtain ⟨rb, hb, rfl⟩ := map_ref e2
        obtain ⟨x, hx, hxa⟩ := prd_get A2 ha
        obtain ⟨y, hy, hyb⟩ := prd_get B2 hb
        have lx := Al x (List.mem_of_getElem? hx)
        have ly := Bl y (List.mem_of_getElem? hy)
        have nT := AL.Same.new (o := .tup [.ref ra, .ref rb]) hT
        have sT := s6.trans nT
        have g : (besR A B)[i]? = some (x ++ y) := by unfold besR; rw [List.getElem?_zipWith, hx, hy]
        have lcs := prd_len pr
        rw [List.length_take] at lcs
        refine ⟨T0, _, rfl, SqT.of upd_same, rfl, _, _, rfl, _, _, rfl, rfl, rfl, ?_⟩
        refine ⟨_, rfl, ra, _, rfl, .inl (SqL.of (sT _ _ hxa)), fun l1 hl1 => ?_⟩
        have n1' := AL.Same.new (o := .lst (x.map V.int)) hl1
        refine ⟨_, rfl, rb, _, rfl, .inl (SqL.of ((sT.trans n1') _ _ hyb)), fun l2 hl2 => ?_⟩
        have n2' := AL.Same.new (o := .lst (y.map V.int)) hl2
        have hl1' := n2' _ _ (upd_same : upd (upd H6 T0 (.tup [.ref ra, .ref rb])) l1 (.lst (x.map V.int)) l1 = _)
        have s8 := (sT.trans n1').trans n2'
        have s68 := (nT.trans n1').trans n2'
        have hl2' : upd (upd (upd H6 T0 (.tup [.ref ra, .ref rb])) l1 (.lst (x.map V.int))) l2 (.lst (y.map V.int)) l2 = some (.lst (y.map V.int)) := upd_same
        generalize upd (upd (upd H6 T0 (.tup [.ref ra, .ref rb])) l1 (.lst (x.map V.int))) l2 (.lst (y.map V.int)) = H8 at hl1' hl2' s8 s68 ⊢
        refine ⟨l1, l2, _, _, rfl, rfl, hl1', hl2', ?_, fun E hE => ?_⟩
        · rw [List.length_map, List.length_map, lx, ly]; exact Nat.le_trans (by omega : _ ≤ 1000) (by decide)
        have nE := AL.Same.new (o := .lst (x.map V.int ++ y.map V.int)) hE
        have hE9 : upd H8 E (.lst (x.map V.int ++ y.map V.int)) E = some (.lst ((x ++ y).map V.int)) := by rw [upd_same, List.map_append]
        have hd8 := s68 _ _ hd
        have bE : E ≠ D := fun z => by rw [z, hd8] at hE; cases hE
        generalize upd H8 E (.lst (x.map V.int ++ y.map V.int)) = H9 at nE hE9 ⊢
        have s69 := s68.trans nE
        obtain ⟨r1, r2⟩ := rowsZ_snoc (s69 _ _ hd) (paired_mono pr fun _ _ z => ⟨z.1, s69 _ _ z.2⟩) bE hE9
        refine ⟨_, s69 _ _ hd, ?_, AL.Same.updn (s8.trans nE) hD, cs ++ [E], r1, ?_⟩
        · rw [List.length_map]; exact Nat.lt_of_le_of_lt (by omega : _ ≤ 1000) (by decide)
        · rw [List.take_add_one, g]
          exact r2
      rintro H6 ⟨s6, cs, hd, pr⟩
      rw [List.take_of_length_le (by rw [besR_len rfl lB]; exact Nat.le_refl _)] at pr
      have hC6 : RowsZ H6 D (besR A B) := ⟨cs, hd, paired_mono pr fun _ _ z => z.2⟩
      have P6 := P5.same s6
      have hA6 := hA5.same s6
      have hB6 := hB5.same s6
      clear hd pr s6 A1 A2 B1 B2 hA5 hB5 P5 hD
      have Cl := bes_len (N := A.length) rfl lB Al Bl
      have Cb : ∀ r ∈ besR A B, ∀ v ∈ r, v.natAbs ≤ 2000000 := fun r hr v hv => by
        obtain ⟨i, hi⟩ := List.mem_iff_getElem?.mp hr
        have il := (List.getElem?_eq_some_iff.mp hi).1
        rw [besR_len rfl lB] at il
        rw [besR_at rfl lB il] at hi
        obtain rfl := Option.some.inj hi
        rcases List.mem_append.mp hv with h | h
        · exact Ab2 _ (getD_mem il) v h
        · exact Bb _ (getD_mem (by omega)) v h
      -- the ranks, and what is passed
      refine ⟨fun σ' H' => ∃ b : Bool, σ' = [some (.ref a), some (.ref p), some (.int (0 + (turn : Int))), some (.ref w), some (.ref o), some (.ref D), none, none, some (.bl b), v9, v10, none] ∧ Same H6 H' ∧ ((∃ F, Kil F A n B n' A.length) → (∃ F, Kil F B n' A n A.length) → b = true) ∧ (∀ g, KilR A.length A n g → ¬ KilR A.length B n' g → b = false) ∧ (∀ g, KilR A.length B n' g → ¬ KilR A.length A n g → b = false), ?_, ?_⟩
      · refine ⟨_, rfl, w, n, 2000000, A, rfl, RowsZ.toT hA6, Al, by omega, by omega, Ab2, by decide, fac81 (by omega), fun H7 r s7 hr => ?_⟩
        refine ⟨_, rfl, o, n', 2000000, B, rfl, RowsZ.toT (hB6.same s7), Bl, by omega, by omega, Bb, by decide, fac81 (by omega), fun H8 s s8 hs => ?_⟩
        have s68 := s7.trans s8
        refine ⟨rfl, _, rfl, ?_⟩
        by_cases e1 : r = s
        · rw [decide_eq_true (by rw [e1])]
          refine iteT ?_
          refine ⟨_, rfl, D, n + n', 2000000, besR A B, rfl, RowsZ.toT (hC6.same s68), Cl, by omega, by rw [besR_len rfl lB]; omega, Cb, by decide, by rw [besR_len rfl lB]; exact fac81 (by omega), fun H9 t s9 ht => ?_⟩
          obtain ⟨q1, q2, q3⟩ := alike_of lB Al Bl hr hs ht
          refine ⟨rfl, decide (s = t), ?_, s68.trans s9, fun h1 h2 => decide_eq_true (q1 h1 h2).2, fun g h1 h2 => decide_eq_false fun e => q2 g h1 h2 ⟨e1, e⟩, fun g h1 h2 => decide_eq_false fun e => q3 g h1 h2 ⟨e1, e⟩⟩
          rw [show decide (V.int (s : Int) = V.int (t : Int)) = decide (s = t) from decide_eq_decide.mpr ⟨fun e => by injection e with e; omega, fun e => by rw [e]⟩]
          rfl
        · rw [decide_eq_false (fun e => e1 (by injection e with e; omega))]
          refine iteF ?_
          exact ⟨false, rfl, s68, fun h1 h2 => absurd (alike_ne lB Al Bl hr hs h1 h2) e1, fun _ _ _ => rfl, fun _ _ _ => rfl⟩
      clear Cb Cl hC6
      rintro σ' H7 ⟨b, rfl, s7, q1, q2, q3⟩
      have P7 := P6.same s7
      obtain ⟨as, A1, A2⟩ := hA6.same s7
      obtain ⟨bs, B1, B2⟩ := hB6.same s7
      have las := prd_len A2
      have lbs := prd_len B2
    
      refine ⟨_, rfl, w, rfl, ⟨_, SqL.of A1⟩, fun D1 hD => ?_⟩
      refine lc_list (K := K) (a := w) (xs := as.map V.ref) (fun i H' => Same H7 H' ∧ ∃ cs : List Addr, H' D1 = some (.lst (cs.map V.ref)) ∧ Paired (fun a r => H' a = some (.tup (r.map V.int))) cs (A.take i)) ⟨AL.Same.new hD, [], upd_same, .nil⟩ (fun i H' _ hh => SqL.of (hh.1 _ _ A1)) ?_ ?_
      · rintro i x H9 hx ⟨s9, cs, hd, pr⟩
        obtain ⟨ra, hra, rfl⟩ := map_ref hx
        obtain ⟨r, hr, hra0⟩ := prd_get A2 hra
        have il := (List.getElem?_eq_some_iff.mp hr).1
        have lcs := prd_len pr
        rw [List.length_take] at lcs
        refine ⟨rfl, ?_⟩
        refine ⟨_, rfl, ra, _, rfl, .inl ⟨SqL.of (s9 _ _ hra0), fun l hl => ?_⟩⟩
        have nl := AL.Same.new (o := .tup (r.map V.int)) hl
        have tu := upd_tups (o := .lst (cs.map V.ref ++ [.ref l])) (nl _ _ hd) (fun _ z => nomatch z)
        refine ⟨_, nl _ _ hd, ?_, AL.Same.updn (s9.trans nl) hD, cs ++ [l], by rw [upd_same, List.map_append]; rfl, ?_⟩
        · rw [List.length_map, lcs]; exact Nat.lt_of_le_of_lt (by omega : _ ≤ 1000) (by decide)
        · rw [List.take_add_one, hr]
          exact prd_snoc (paired_mono pr fun _ _ z => tu _ _ (nl _ _ z)) (tu _ _ upd_same)
      rintro H10' ⟨s1, cs1, hd1, pr1⟩
      rw [List.length_map, las, List.take_length] at pr1
      refine ⟨D1, _, rfl, .inl ⟨SqL.of hd1, fun t1 ht1 => ?_⟩⟩
      have net1 := AL.Same.new (o := .tup (cs1.map V.ref)) ht1
      have u1 : RowsU (upd H10' t1 (.tup (cs1.map V.ref))) t1 A := ⟨cs1, .inr upd_same, paired_mono pr1 fun _ _ z => net1 _ _ z⟩
      replace s1 := s1.trans net1
      generalize upd H10' t1 (.tup (cs1.map V.ref)) = H10 at s1 u1 ⊢
      clear net1 ht1 hd1 pr1 hD
    
      have B11 := s1 _ _ B1
      have B21 : Paired (fun a r => LI H10 a r) bs B := paired_mono B2 fun _ _ z => s1 _ _ z
    
      refine ⟨_, rfl, o, rfl, ⟨_, SqL.of B11⟩, fun D2 hD => ?_⟩
      refine lc_list (K := K) (a := o) (xs := bs.map V.ref) (fun i H' => Same H10 H' ∧ ∃ cs : List Addr, H' D2 = some (.lst (cs.map V.ref)) ∧ Paired (fun a r => H' a = some (.tup (r.map V.int))) cs (B.take i)) ⟨AL.Same.new hD, [], upd_same, .nil⟩ (fun i H' _ hh => SqL.of (hh.1 _ _ B11)) ?_ ?_
      · rintro i x H9 hx ⟨s9, cs, hd, pr⟩
        obtain ⟨ra, hra, rfl⟩ := map_ref hx
        obtain ⟨r, hr, hra0⟩ := prd_get B21 hra
        have il := (List.getElem?_eq_some_iff.mp hr).1
        have lcs := prd_len pr
        rw [List.length_take] at lcs
        refine ⟨rfl, ?_⟩
        refine ⟨_, rfl, ra, _, rfl, .inl ⟨SqL.of (s9 _ _ hra0), fun l hl => ?_⟩⟩
        have nl := AL.Same.new (o := .tup (r.map V.int)) hl
        have tu := upd_tups (o := .lst (cs.map V.ref ++ [.ref l])) (nl _ _ hd) (fun _ z => nomatch z)
        refine ⟨_, nl _ _ hd, ?_, AL.Same.updn (s9.trans nl) hD, cs ++ [l], by rw [upd_same, List.map_append]; rfl, ?_⟩
        · rw [List.length_map, lcs]; exact Nat.lt_of_le_of_lt (by omega : _ ≤ 1000) (by decide)
        · rw [List.take_add_one, hr]
          exact prd_snoc (paired_mono pr fun _ _ z => tu _ _ (nl _ _ z)) (tu _ _ upd_same)
      rintro H11' ⟨s2, cs2, hd2, pr2⟩
      rw [List.length_map, lbs, List.take_length] at pr2
      refine ⟨D2, _, rfl, .inl ⟨SqL.of hd2, fun t2 ht2 => ?_⟩⟩
      have net2 := AL.Same.new (o := .tup (cs2.map V.ref)) ht2
      have u2 : RowsU (upd H11' t2 (.tup (cs2.map V.ref))) t2 B := ⟨cs2, .inr upd_same, paired_mono pr2 fun _ _ z => net2 _ _ z⟩
      replace s2 := s2.trans net2
      generalize upd H11' t2 (.tup (cs2.map V.ref)) = H11 at s2 u2 ⊢
      clear net2 ht2 hd2 pr2 hD
    
      replace u1 := u1.same s2
      have P11 := P7.same (s1.trans s2)
      refine ⟨_, _, rfl, ?_⟩
      clear B11 B21 A1 A2 B1 B2 s1 s2 s7 P7 P6 hA6 hB6
      obtain ⟨os, O1, O2⟩ := id u2
      refine ⟨_, rfl, _, rfl, t2, os.map V.ref, rfl, O1.imp SqL.of SqT.of, fun lo hlo => ?_⟩
      have nlo := AL.Same.new (o := .lst (os.map V.ref)) hlo
      have Bne : B ≠ [] := fun e => by rw [e] at lB; simp at lB; omega
      refine ⟨_, rfl, t1, lo, n, n', A, B, b, rfl, u1.same nlo, ⟨os, .inl upd_same, paired_mono O2 fun _ _ z => nlo _ _ z⟩, Ane, lB, Al, Bl, by omega, by omega, by omega, by omega, by omega, Ab2, Bb, q1, q2, q3, fun H13 s13 => ⟨_, rfl, ?_⟩⟩
      refine iteF ?_
      have s14 := nlo.trans s13
      refine ⟨_, rfl, _, rfl, _, rfl, t2, t1, n', n, B, A, b, rfl, u2.same s14, u1.same s14, Bne, lB.symm, Bl, Al, by omega, by omega, by omega, by omega, by omega, Bb, Ab2, (by rw [lB]; exact fun h1 h2 => q1 h2 h1), (by rw [lB]; exact q3), (by rw [lB]; exact q2), fun H15 s15 => ⟨_, rfl, ?_⟩⟩
      refine iteF ?_
      exact ⟨_, _, _, _, _, _, _, rfl, (P11.same (s14.trans s15)).mono (by omega)⟩
    · rintro σ H' ⟨v2, v3, v4, v5, v8, v9, v10, rfl, _⟩
      exact q H'
end
end AL
set_option Elab.async false
set_option maxRecDepth 100000
set_option maxHeartbeats 2000000
/-! The end of a law that makes lambdas, and whose defs ask repr. -/
namespace AL
open PySem PySem.Spec PyProof.Rows L2 LamX
/-- the heap at the entry: the script, locked, and the empty tables of the defs that make lambdas -/
def tabH (K : PySem.W.Frag) (a : Addr) (us : List Value) (ns : List Int) (Ts : List Addr) : Hp := fun b => if b ∈ Ts then some (.tbl #[]) else scrH K a us ns b
theorem tabH_in {K : PySem.W.Frag} {a b : Addr} {us : List Value} {ns : List Int} {Ts : List Addr} (h : b ∈ Ts) : tabH K a us ns Ts b = some (.tbl #[]) := if_pos h
theorem tabH_out {K : PySem.W.Frag} {a b : Addr} {us : List Value} {ns : List Int} {Ts : List Addr} (h : b ∉ Ts) : tabH K a us ns Ts b = scrH K a us ns b := if_neg h
theorem lawGT {P : Program} {w : World} {K : PySem.W.Frag} {mg mb : Str → Option Value} {CX : CXT} {k : Nat} {fa a : Addr} {cs : List (Addr × Addr)} {fd : FuncData} {x : Str} {sp : Sp} {t : Shared} {us : List Value} {ns : List Int}
    (kin : K.In t.heap) (glb : t.heap.Ns mainGlobals mg) (blt : t.heap.Ns builtinsNs mb) (boot : ∀ y : Str, y ≠ "__name__" → mb y = bootBuiltins y) (free : t.heap.NoLimit) (noG : t.gens = #[])
    (tb : ∀ p ∈ cs, t.heap.get? p.2 = some (PySem.W.tabObj #[])) (nk : ∀ p ∈ cs, K.lookup p.2 = none) (ch : ∀ p ∈ cs, PySem.W.CodeHd t.heap p.1 p.2)
    (bmn : ∃ (bm : Addr) (ob : Obj), mg "__builtins__" = some (.ref bm) ∧ bm ≠ builtinsNs ∧ t.heap.get? bm = some ob ∧ ob.cls = .type "module" ∧ ob.dict = some builtinsNs ∧ ob.data = .plain)
    (at_a : t.heap.get? a = some (scrO us)) (isI : IntsAre us ns) (short : ns.length ≤ sizeLine) (room : Room k callerA)
    (F : ∀ base : Heap, K.In base → base.Ns mainGlobals mg → (∀ p ∈ cs, TabB base mg p.1 p.2) → FnG P w K mg base CX k fa fd [x] sp) (bind : ∀ (s : Shared) (u : Value), BindsTo s fd ⟨[u], []⟩ [(x, u)])
    (wish : ∀ H : Hp, (∀ p ∈ cs, H p.2 = some (.tbl #[])) → SqL K H a (ns.map V.int) → sp [.ref a] H (fun v _ => v = .bl true) fun _ _ _ => False)
    (noX : ∀ H e s', CX [] H t (fun _ _ _ => False) e s' → False) :
    codeAny (model P w) callerA (.call (.ref fa) ⟨[.ref a], []⟩) (fun r s' => r = .ok (.ret (.bool true)) ∧ OldK t.heap s'.heap ∧ s'.os = t.os ∧ AllBare s'.gens) t := by
  have vals := vals_ints isI
  have many := isI.length
  have tabs : ∀ b : Addr, b ∈ cs.map Prod.snd → t.heap.get? b = some (PySem.W.tabObj #[]) ∧ K.lookup b = none := fun b hb => by
    obtain ⟨p, hp, rfl⟩ := List.mem_map.mp hb
    exact ⟨tb p hp, nk p hp⟩
  have here : ∀ p ∈ cs, p.2 ∈ cs.map Prod.snd := fun p hp => List.mem_map.mpr ⟨p, hp, rfl⟩
  have aOut : a ∉ cs.map Prod.snd := fun z => by
    have e := (tabs a z).1
    rw [at_a] at e
    have e2 := congrArg Obj.cls (Option.some.inj e)
    cases e2
  have isA : ∀ {b : Addr}, b = a → b ∉ cs.map Prod.snd := fun e => by rw [e]; exact aOut
  have inT : ∀ p ∈ cs, tabH K a us ns (cs.map Prod.snd) p.2 = some (.tbl #[]) := fun p hp => tabH_in (here p hp)
  have seq : SqL K (tabH K a us ns (cs.map Prod.snd)) a (ns.map V.int) := by
    cases e : K.lookup a with
    | none => exact .inl (.inr ⟨scrO us, (tabH_out aOut).trans (if_pos ⟨rfl, e⟩)⟩)
    | some o =>
      have z := kin a o e
      rw [at_a] at z
      cases z
      exact .inr ⟨_, us.toArray, _, e, rfl, rfl, rfl, by rw [List.size_toArray, many]; exact short, vals⟩
  have held : HOk P w (tabH K a us ns (cs.map Prod.snd)) t.heap := fun b u e => by
    by_cases m : b ∈ cs.map Prod.snd
    · rw [tabH_in m] at e
      cases e
      exact (tabs b m).1
    · rw [tabH_out m] at e
      obtain ⟨rfl, _, rfl⟩ := scrH_some e
      exact ⟨at_a, by rw [List.length_map]; exact short, us, _, vals, at_a⟩
  -- what is neither the script nor a table is not tracked
  have bare0 : ∀ {b : Addr} {o : Obj}, t.heap.get? b = some o → (∀ vs n, o.data ≠ .seq vs n) → o.data ≠ .fields #[] → tabH K a us ns (cs.map Prod.snd) b = none := by
    intro b o e1 e2 e3
    by_cases m : b ∈ cs.map Prod.snd
    · rw [(tabs b m).1] at e1
      cases e1
      exact (e3 rfl).elim
    · rw [tabH_out m]
      cases e : scrH K a us ns b with
      | none => rfl
      | some u =>
        obtain ⟨rfl, _, _⟩ := scrH_some e
        rw [at_a] at e1
        cases e1
        exact (e2 _ _ rfl).elim
  have dict0 : ∀ {b : Addr} {o : Obj} {es : Array DictEntry} {n : Nat}, t.heap.get? b = some o → o.data = .dict es n → tabH K a us ns (cs.map Prod.snd) b = none := fun {b o es n} e1 e2 =>
    bare0 e1 (fun vs m z => by rw [e2] at z; cases z) fun z => by rw [e2] at z; cases z
  have ns_of : ∀ {b : Addr} {m : Str → Option Value}, t.heap.Ns b m → (hidT t.heap (tabH K a us ns (cs.map Prod.snd))).Ns b m := by
    rintro b m ⟨o, es, n, e1, e2, r⟩
    exact ⟨o, es, n, hidT_get e1 (dict0 e1 e2), e2, r⟩
  have kin' : K.In (hidT t.heap (tabH K a us ns (cs.map Prod.snd))) := fun b o e => hidT_get (kin b o e) (by
    by_cases m : b ∈ cs.map Prod.snd
    · rw [(tabs b m).2] at e; cases e
    · rw [tabH_out m]
      cases z : scrH K a us ns b with
      | none => rfl
      | some u =>
        obtain ⟨rfl, n, _⟩ := scrH_some z
        rw [n] at e
        cases e)
  have modl : Mod K mg (hidT t.heap (tabH K a us ns (cs.map Prod.snd))) := by
    obtain ⟨mc, f1, f2⟩ := free
    exact ⟨kin', ns_of glb, ⟨mb, ns_of blt, boot⟩, ⟨mc, ns_of f1, f2⟩⟩
  have apart : ∀ p ∈ cs, ∀ {b : Addr} {o : Obj}, t.heap.get? b = some o → o.cls ≠ .none → b ≠ p.2 := fun p hp b o e c z => by
    rw [z, tb p hp] at e
    cases e
    exact c rfl
  have tabB : ∀ p ∈ cs, TabB (hidT t.heap (tabH K a us ns (cs.map Prod.snd))) mg p.1 p.2 := fun p hp => by
    refine ⟨?_, ?_, ?_⟩
    · obtain ⟨o, vs, file, tf, flags, tg, inF, text, tt, g1, g2, g3, g4, g5⟩ := ch p hp
      refine ⟨o, vs, file, tf, flags, tg, inF, text, tt, hidT_get g1 (bare0 g1 (fun w n z => by rw [g3] at z; cases z) fun z => ?_), g2, g3, g4, g5⟩
      rw [g3] at z
      injection z with z
      rw [z] at g4
      simp at g4
    · obtain ⟨bm, ob, m1, m2, m3, m4, m5, m6⟩ := bmn
      refine ⟨bm, ob, m1, m2, fun z => ?_, apart p hp m3 (by rw [m4]; intro z; cases z), hidT_get m3 (bare0 m3 (fun w n z => by rw [m6] at z; cases z) fun z => by rw [m6] at z; cases z), m4, m5, m6⟩
      obtain ⟨o, es, n, e1, e2, _⟩ := glb
      rw [z, e1] at m3
      cases m3
      rw [e2] at m6
      cases m6
    · obtain ⟨o, es, n, e1, e2, _⟩ := glb
      intro z
      rw [z, tb p hp] at e1
      cases e1
      cases e2
  have env0 : Env0 P w K mg (hidT t.heap (tabH K a us ns (cs.map Prod.snd))) callerA [] t (tabH K a us ns (cs.map Prod.snd)) :=
    ⟨rfl, modl, fun b o z => of_hidT z, Nat.le_of_eq (hidT_size _ _), trivial, fun b z => absurd (show b ∈ ([] : List Addr) from z) (by simp), held, .of_eq noG⟩
  refine codeAny_mono ((F _ kin' (ns_of glb) tabB).run callerA [] t _ ⟨[.ref a], []⟩ [.ref a] [.ref a] _ _ rfl room env0 (bind t (.ref a)) (.cons rfl .nil) (wish _ inT seq)) fun r s' z => ?_
  cases r with
  | error e => exact (noX _ e s' z).elim
  | ok fl =>
    cases fl with
    | next => exact z.elim
    | brk => exact z.elim
    | cont => exact z.elim
    | ret u =>
      obtain ⟨v, H', os, bare, un, held', rv, q⟩ := z
      cases (show v = .bl true from q)
      cases (show u = Value.bool true from rv)
      have kept : ∀ b o, b ∉ cs.map Prod.snd → t.heap.get? b = some o → s'.heap.get? b = some o := fun b o nb e => by
        cases c : scrH K a us ns b with
        | none => exact un.keep b o e ((tabH_out nb).trans c) (fun z => absurd (show b ∈ ([] : List Addr) from z) (by simp)) (by simp)
        | some u2 =>
          obtain ⟨rfl, _, rfl⟩ := scrH_some c
          obtain ⟨e2, _⟩ := held' _ _ (un.frzs _ _ _ ((tabH_out nb).trans c))
          rw [at_a] at e
          cases e
          exact e2
      have more : ∀ p ∈ cs, ∃ ps : Array Value, s'.heap.get? p.2 = some (PySem.W.tabObj (#[] ++ ps)) := fun p hp => by
        obtain ⟨ps, z⟩ := un.tbls p.2 #[] (inT p hp)
        exact ⟨ps, held' p.2 _ z⟩
      refine ⟨rfl, ⟨fun b o e => ?_, fun b o e => ?_⟩, os, bare⟩
      · by_cases m : b ∈ cs.map Prod.snd
        · obtain ⟨p, hp, rfl⟩ := List.mem_map.mp m
          obtain ⟨ps, hps⟩ := more p hp
          rw [tb p hp] at e
          cases e
          exact .inr (.inl ⟨((ch p hp).tab (tb p hp)).isCodeTable, rfl, #[], ps, rfl, hps⟩)
        · exact .inl (kept b o m e)
      · by_cases m : b ∈ cs.map Prod.snd
        · obtain ⟨p, hp, rfl⟩ := List.mem_map.mp m
          obtain ⟨ps, hps⟩ := more p hp
          exact ⟨_, hps⟩
        · exact ⟨o, kept b o m e⟩
/-- a law's promise, its code objects and tables told by numbers -/
theorem walkGT {l : PySem.W.OpenLaw} {n k : Nat} {q : Program} {loose : List Str} {XP : (Str → Option Value) → Heap → Prop} {YP : World → Heap → Prop} {d : DefRec} {K : Params → PySem.W.Frag} {sp : PySem.W.Frag → List (Addr × Addr) → Sp} {x : Str}
    (most : l.most = some n) (few : n ≤ sizeLine) (plain : d.params.defaults = []) (room : Room k callerA) (ky : ∀ (w : World) (h : Heap), YP w h → (K w.params).In h)
    (F : ∀ (w : World) (mg : Str → Option Value) (fa : Addr) (h : Heap), YP w h → (K w.params).In h → h.Ns mainGlobals mg → mg d.name = some (.ref fa) → ∃ (fd : FuncData) (cs : List (Addr × Addr)), (∀ p ∈ cs, h.get? p.2 = some (PySem.W.tabObj #[])) ∧ (∀ p ∈ cs, (K w.params).lookup p.2 = none) ∧ (∀ p ∈ cs, PySem.W.CodeHd h p.1 p.2) ∧ (∀ (s : Shared) (u : Value), BindsTo s fd ⟨[u], []⟩ [(x, u)]) ∧
      ∀ base : Heap, (K w.params).In base → base.Ns mainGlobals mg → (∀ p ∈ cs, TabB base mg p.1 p.2) → FnG l.prog w (K w.params) mg base CX0 k fa fd [x] (sp (K w.params) cs))
    (wish : ∀ (K : PySem.W.Frag) (cs : List (Addr × Addr)) (H : Hp) (a : Addr) (ns : List Int), ns.length ≤ n → (∀ p ∈ cs, H p.2 = some (.tbl #[])) → SqL K H a (ns.map V.int) → sp K cs [.ref a] H (fun v _ => v = .bl true) fun _ _ _ => False) :
    PySem.W.WalkO q loose XP YP l.row.toRowW d [] (fun f vs => PySem.call f vs) := by
  refine Att.attach_callB most plain ?_
  intro w s0 t mg mb fa o pm cd doc a us ns G Y ho hd hcd hmg at_a isI many _ noG
  obtain ⟨fd, cs, t1, t2, t3, bind, ok⟩ := F w mg fa _ Y (ky w _ Y) G.T.g hmg
  exact lawGT (ky w _ Y) G.T.g G.T.b G.T.builtins G.T.nolimit noG t1 t2 t3 G.T.bmain at_a isI (Nat.le_trans many few) room ok bind (fun H o1 o2 => wish (K w.params) cs H a ns many o1 o2) fun _ _ _ z => z.elim
end AL
set_option Elab.async false
set_option maxRecDepth 100000
set_option exponentiation.threshold 70000
set_option maxHeartbeats 2000000
namespace AL
open PySem PySem.Spec PyProof.Rows L2 RZ
theorem all_mk {l : PySem.W.OpenLaw} {w : World} {K : PySem.W.Frag} {h : Heap} {mg : Str → Option Value} {CParting f_law_pen f_law_draw f_law_pick fpivot_of fcombined fidentity ftransposed f_law_turned fbezout ftaken_in freduced fhermite_rows fhermite_pair fkernel_rows f_law_rank fis_list fis_whole fare_integers fas_tuples0 fas_tuples1 fas_tuples fis_letters fcheck_letters f_law_inner f_law_unit f_law_matrix f_law_unimodular f_law_matmul fdot fP_init falike_units f_law_is_whole f_law_is_matrix f_law_column f_law_group_right f_law_second f_law_answer_right flaw fa : Addr} (X : K.In h) (G : h.Ns mainGlobals mg) (hfa : mg "law" = some (.ref fa))
    {oc_law_pen kV_law_pen dc_law_pen pm_law_pen cd_law_pen ct_law_pen : Value} {od_law_pen an_law_pen : Option Addr} {sl_law_pen : Array (Option Value)}
    {oc_law_draw kV_law_draw dc_law_draw pm_law_draw cd_law_draw ct_law_draw : Value} {od_law_draw an_law_draw : Option Addr} {sl_law_draw : Array (Option Value)}
    {oc_law_pick kV_law_pick dc_law_pick pm_law_pick cd_law_pick ct_law_pick : Value} {od_law_pick an_law_pick : Option Addr} {sl_law_pick : Array (Option Value)}
    {ocpivot_of kVpivot_of dcpivot_of pmpivot_of cdpivot_of ctpivot_of : Value} {odpivot_of anpivot_of : Option Addr} {slpivot_of : Array (Option Value)}
    {occombined kVcombined dccombined pmcombined cdcombined ctcombined : Value} {odcombined ancombined : Option Addr} {slcombined : Array (Option Value)}
    {ocidentity kVidentity dcidentity pmidentity cdidentity ctidentity : Value} {odidentity anidentity : Option Addr} {slidentity : Array (Option Value)}
    {octransposed kVtransposed dctransposed pmtransposed cdtransposed cttransposed : Value} {odtransposed antransposed : Option Addr} {sltransposed : Array (Option Value)}
    {oc_law_turned kV_law_turned dc_law_turned pm_law_turned cd_law_turned ct_law_turned : Value} {od_law_turned an_law_turned : Option Addr} {sl_law_turned : Array (Option Value)}
    {ocbezout kVbezout dcbezout pmbezout cdbezout ctbezout : Value} {odbezout anbezout : Option Addr} {slbezout : Array (Option Value)}
    {octaken_in kVtaken_in dctaken_in pmtaken_in cdtaken_in cttaken_in : Value} {odtaken_in antaken_in : Option Addr} {sltaken_in : Array (Option Value)}
    {ocreduced kVreduced dcreduced pmreduced cdreduced ctreduced : Value} {odreduced anreduced : Option Addr} {slreduced : Array (Option Value)}
    {ochermite_rows kVhermite_rows dchermite_rows pmhermite_rows cdhermite_rows cthermite_rows : Value} {odhermite_rows anhermite_rows : Option Addr} {slhermite_rows : Array (Option Value)}
    {ochermite_pair kVhermite_pair dchermite_pair pmhermite_pair cdhermite_pair cthermite_pair : Value} {odhermite_pair anhermite_pair : Option Addr} {slhermite_pair : Array (Option Value)}
    {ockernel_rows kVkernel_rows dckernel_rows pmkernel_rows cdkernel_rows ctkernel_rows : Value} {odkernel_rows ankernel_rows : Option Addr} {slkernel_rows : Array (Option Value)}
    {oc_law_rank kV_law_rank dc_law_rank pm_law_rank cd_law_rank ct_law_rank : Value} {od_law_rank an_law_rank : Option Addr} {sl_law_rank : Array (Option Value)}
    {ocis_list kVis_list dcis_list pmis_list cdis_list ctis_list : Value} {odis_list anis_list : Option Addr} {slis_list : Array (Option Value)}
    {ocis_whole kVis_whole dcis_whole pmis_whole cdis_whole ctis_whole : Value} {odis_whole anis_whole : Option Addr} {slis_whole : Array (Option Value)}
    {ocare_integers kVare_integers dcare_integers pmare_integers cdare_integers ctare_integers : Value} {odare_integers anare_integers : Option Addr} {slare_integers : Array (Option Value)}
    {ocas_tuples0 kVas_tuples0 dcas_tuples0 pmas_tuples0 cdas_tuples0 ctas_tuples0 : Value} {odas_tuples0 anas_tuples0 : Option Addr} {slas_tuples0 : Array (Option Value)}
    {ocas_tuples1 kVas_tuples1 dcas_tuples1 pmas_tuples1 cdas_tuples1 ctas_tuples1 : Value} {odas_tuples1 anas_tuples1 : Option Addr} {slas_tuples1 : Array (Option Value)}
    {ocas_tuples kVas_tuples dcas_tuples pmas_tuples cdas_tuples ctas_tuples : Value} {odas_tuples anas_tuples : Option Addr} {slas_tuples : Array (Option Value)}
    {ocis_letters kVis_letters dcis_letters pmis_letters cdis_letters ctis_letters : Value} {odis_letters anis_letters : Option Addr} {slis_letters : Array (Option Value)}
    {occheck_letters tccheck_letters kVcheck_letters dccheck_letters pmcheck_letters cdcheck_letters ctcheck_letters : Value} {odcheck_letters ancheck_letters : Option Addr} {slcheck_letters : Array (Option Value)} {Tcheck_letters : Addr} {tdcheck_letters : Option Addr} {tncheck_letters : Nat} {tscheck_letters : Array (Option Value)}
    {oc_law_inner kV_law_inner dc_law_inner pm_law_inner cd_law_inner ct_law_inner : Value} {od_law_inner an_law_inner : Option Addr} {sl_law_inner : Array (Option Value)}
    {oc_law_unit kV_law_unit dc_law_unit pm_law_unit cd_law_unit ct_law_unit : Value} {od_law_unit an_law_unit : Option Addr} {sl_law_unit : Array (Option Value)}
    {oc_law_matrix kV_law_matrix dc_law_matrix pm_law_matrix cd_law_matrix ct_law_matrix : Value} {od_law_matrix an_law_matrix : Option Addr} {sl_law_matrix : Array (Option Value)}
    {oc_law_unimodular kV_law_unimodular dc_law_unimodular pm_law_unimodular cd_law_unimodular ct_law_unimodular : Value} {od_law_unimodular an_law_unimodular : Option Addr} {sl_law_unimodular : Array (Option Value)}
    {oc_law_matmul kV_law_matmul dc_law_matmul pm_law_matmul cd_law_matmul ct_law_matmul : Value} {od_law_matmul an_law_matmul : Option Addr} {sl_law_matmul : Array (Option Value)}
    {ocdot kVdot dcdot pmdot cddot ctdot : Value} {oddot andot : Option Addr} {sldot : Array (Option Value)}
    {ocP_init kVP_init dcP_init pmP_init cdP_init ctP_init : Value} {odP_init anP_init : Option Addr} {slP_init : Array (Option Value)}
    {ocalike_units kValike_units dcalike_units pmalike_units cdalike_units ctalike_units : Value} {odalike_units analike_units : Option Addr} {slalike_units : Array (Option Value)}
    {oc_law_is_whole kV_law_is_whole dc_law_is_whole pm_law_is_whole cd_law_is_whole ct_law_is_whole : Value} {od_law_is_whole an_law_is_whole : Option Addr} {sl_law_is_whole : Array (Option Value)}
    {oc_law_is_matrix kV_law_is_matrix dc_law_is_matrix pm_law_is_matrix cd_law_is_matrix ct_law_is_matrix : Value} {od_law_is_matrix an_law_is_matrix : Option Addr} {sl_law_is_matrix : Array (Option Value)}
    {oc_law_column kV_law_column dc_law_column pm_law_column cd_law_column ct_law_column : Value} {od_law_column an_law_column : Option Addr} {sl_law_column : Array (Option Value)}
    {oc_law_group_right kV_law_group_right dc_law_group_right pm_law_group_right cd_law_group_right ct_law_group_right : Value} {od_law_group_right an_law_group_right : Option Addr} {sl_law_group_right : Array (Option Value)}
    {oc_law_second kV_law_second dc_law_second pm_law_second cd_law_second ct_law_second : Value} {od_law_second an_law_second : Option Addr} {sl_law_second : Array (Option Value)}
    {oc_law_answer_right kV_law_answer_right dc_law_answer_right pm_law_answer_right cd_law_answer_right ct_law_answer_right : Value} {od_law_answer_right an_law_answer_right : Option Addr} {sl_law_answer_right : Array (Option Value)}
    {oclaw kVlaw dclaw pmlaw cdlaw ctlaw : Value} {odlaw anlaw : Option Addr} {sllaw : Array (Option Value)}
    (aCParting : PySem.W.nsIn K mainGlobals "Parting" = some (some (.ref CParting)))
    (pgParting : PySem.W.plainGet K CParting Str.empty = true)
    (hdParting : PySem.W.hasDictIn K CParting = true)
    (poParting : PySem.W.plainOver K CParting = true)
    (saParting : PySem.W.findIn K (.ref CParting) "__setattr__" = some (some (.builtin "object.__setattr__")))
    (mkParting : PySem.W.makesIn K CParting = true)
    (kcParting : PySem.W.keepIn K (.ref CParting) = true)
    (sfParting : PySem.W.selfFirst K CParting = true)
    (q1Parting : PySem.W.findIn K (.ref CParting) "__class__" = some (some (.builtin "object.__class__")))
    (q2Parting : PySem.W.specialIn K (.builtin "object.__class__") "__get__" = some (some (.builtin "getset_descriptor.__get__")))
    (q3Parting : PySem.W.takesIn K (.builtin "object.__class__") = some true)
    (q4Parting : PySem.W.mroIn K CParting (.type "object") = some true)
    (nPartinggroup : PySem.W.findIn K (.ref CParting) "group" = some none)
    (nPartingwhich : PySem.W.findIn K (.ref CParting) "which" = some none)
    (a_law_pen : PySem.W.nsIn K mainGlobals "_law_pen" = some (some (.ref f_law_pen)))
    (l_law_pen : K.lookup f_law_pen = some ⟨oc_law_pen, od_law_pen, .func (PySem.W.fnOf "_law_pen" "_law_pen" (defArgs st_law_pen) (defBody st_law_pen) (defScope st_law_pen) .none kV_law_pen dc_law_pen pm_law_pen an_law_pen cd_law_pen ct_law_pen), sl_law_pen⟩)
    (c_law_pen : PySem.W.codeIn K cd_law_pen "_law_pen" = true)
    (k_law_pen : PySem.W.keepIn K (.ref f_law_pen) = true)
    (a_law_draw : PySem.W.nsIn K mainGlobals "_law_draw" = some (some (.ref f_law_draw)))
    (l_law_draw : K.lookup f_law_draw = some ⟨oc_law_draw, od_law_draw, .func (PySem.W.fnOf "_law_draw" "_law_draw" (defArgs st_law_draw) (defBody st_law_draw) (defScope st_law_draw) .none kV_law_draw dc_law_draw pm_law_draw an_law_draw cd_law_draw ct_law_draw), sl_law_draw⟩)
    (c_law_draw : PySem.W.codeIn K cd_law_draw "_law_draw" = true)
    (k_law_draw : PySem.W.keepIn K (.ref f_law_draw) = true)
    (a_law_pick : PySem.W.nsIn K mainGlobals "_law_pick" = some (some (.ref f_law_pick)))
    (l_law_pick : K.lookup f_law_pick = some ⟨oc_law_pick, od_law_pick, .func (PySem.W.fnOf "_law_pick" "_law_pick" (defArgs st_law_pick) (defBody st_law_pick) (defScope st_law_pick) .none kV_law_pick dc_law_pick pm_law_pick an_law_pick cd_law_pick ct_law_pick), sl_law_pick⟩)
    (c_law_pick : PySem.W.codeIn K cd_law_pick "_law_pick" = true)
    (k_law_pick : PySem.W.keepIn K (.ref f_law_pick) = true)
    (apivot_of : PySem.W.nsIn K mainGlobals "pivot_of" = some (some (.ref fpivot_of)))
    (lpivot_of : K.lookup fpivot_of = some ⟨ocpivot_of, odpivot_of, .func (PySem.W.fnOf "pivot_of" "pivot_of" (defArgs stpivot_of) (defBody stpivot_of) (defScope stpivot_of) .none kVpivot_of dcpivot_of pmpivot_of anpivot_of cdpivot_of ctpivot_of), slpivot_of⟩)
    (cpivot_of : PySem.W.codeIn K cdpivot_of "pivot_of" = true)
    (kpivot_of : PySem.W.keepIn K (.ref fpivot_of) = true)
    (acombined : PySem.W.nsIn K mainGlobals "combined" = some (some (.ref fcombined)))
    (lcombined : K.lookup fcombined = some ⟨occombined, odcombined, .func (PySem.W.fnOf "combined" "combined" (defArgs stcombined) (defBody stcombined) (defScope stcombined) .none kVcombined dccombined pmcombined ancombined cdcombined ctcombined), slcombined⟩)
    (ccombined : PySem.W.codeIn K cdcombined "combined" = true)
    (kcombined : PySem.W.keepIn K (.ref fcombined) = true)
    (aidentity : PySem.W.nsIn K mainGlobals "identity" = some (some (.ref fidentity)))
    (lidentity : K.lookup fidentity = some ⟨ocidentity, odidentity, .func (PySem.W.fnOf "identity" "identity" (defArgs stidentity) (defBody stidentity) (defScope stidentity) .none kVidentity dcidentity pmidentity anidentity cdidentity ctidentity), slidentity⟩)
    (cidentity : PySem.W.codeIn K cdidentity "identity" = true)
    (kidentity : PySem.W.keepIn K (.ref fidentity) = true)
    (atransposed : PySem.W.nsIn K mainGlobals "transposed" = some (some (.ref ftransposed)))
    (ltransposed : K.lookup ftransposed = some ⟨octransposed, odtransposed, .func (PySem.W.fnOf "transposed" "transposed" (defArgs sttransposed) (defBody sttransposed) (defScope sttransposed) .none kVtransposed dctransposed pmtransposed antransposed cdtransposed cttransposed), sltransposed⟩)
    (ctransposed : PySem.W.codeIn K cdtransposed "transposed" = true)
    (ktransposed : PySem.W.keepIn K (.ref ftransposed) = true)
    (a_law_turned : PySem.W.nsIn K mainGlobals "_law_turned" = some (some (.ref f_law_turned)))
    (l_law_turned : K.lookup f_law_turned = some ⟨oc_law_turned, od_law_turned, .func (PySem.W.fnOf "_law_turned" "_law_turned" (defArgs st_law_turned) (defBody st_law_turned) (defScope st_law_turned) .none kV_law_turned dc_law_turned pm_law_turned an_law_turned cd_law_turned ct_law_turned), sl_law_turned⟩)
    (c_law_turned : PySem.W.codeIn K cd_law_turned "_law_turned" = true)
    (k_law_turned : PySem.W.keepIn K (.ref f_law_turned) = true)
    (abezout : PySem.W.nsIn K mainGlobals "bezout" = some (some (.ref fbezout)))
    (lbezout : K.lookup fbezout = some ⟨ocbezout, odbezout, .func (PySem.W.fnOf "bezout" "bezout" (defArgs stbezout) (defBody stbezout) (defScope stbezout) .none kVbezout dcbezout pmbezout anbezout cdbezout ctbezout), slbezout⟩)
    (cbezout : PySem.W.codeIn K cdbezout "bezout" = true)
    (kbezout : PySem.W.keepIn K (.ref fbezout) = true)
    (ataken_in : PySem.W.nsIn K mainGlobals "taken_in" = some (some (.ref ftaken_in)))
    (ltaken_in : K.lookup ftaken_in = some ⟨octaken_in, odtaken_in, .func (PySem.W.fnOf "taken_in" "taken_in" (defArgs sttaken_in) (defBody sttaken_in) (defScope sttaken_in) .none kVtaken_in dctaken_in pmtaken_in antaken_in cdtaken_in cttaken_in), sltaken_in⟩)
    (ctaken_in : PySem.W.codeIn K cdtaken_in "taken_in" = true)
    (ktaken_in : PySem.W.keepIn K (.ref ftaken_in) = true)
    (areduced : PySem.W.nsIn K mainGlobals "reduced" = some (some (.ref freduced)))
    (lreduced : K.lookup freduced = some ⟨ocreduced, odreduced, .func (PySem.W.fnOf "reduced" "reduced" (defArgs streduced) (defBody streduced) (defScope streduced) .none kVreduced dcreduced pmreduced anreduced cdreduced ctreduced), slreduced⟩)
    (creduced : PySem.W.codeIn K cdreduced "reduced" = true)
    (kreduced : PySem.W.keepIn K (.ref freduced) = true)
    (ahermite_rows : PySem.W.nsIn K mainGlobals "hermite_rows" = some (some (.ref fhermite_rows)))
    (lhermite_rows : K.lookup fhermite_rows = some ⟨ochermite_rows, odhermite_rows, .func (PySem.W.fnOf "hermite_rows" "hermite_rows" (defArgs sthermite_rows) (defBody sthermite_rows) (defScope sthermite_rows) .none kVhermite_rows dchermite_rows pmhermite_rows anhermite_rows cdhermite_rows cthermite_rows), slhermite_rows⟩)
    (chermite_rows : PySem.W.codeIn K cdhermite_rows "hermite_rows" = true)
    (khermite_rows : PySem.W.keepIn K (.ref fhermite_rows) = true)
    (ahermite_pair : PySem.W.nsIn K mainGlobals "hermite_pair" = some (some (.ref fhermite_pair)))
    (lhermite_pair : K.lookup fhermite_pair = some ⟨ochermite_pair, odhermite_pair, .func (PySem.W.fnOf "hermite_pair" "hermite_pair" (defArgs sthermite_pair) (defBody sthermite_pair) (defScope sthermite_pair) .none kVhermite_pair dchermite_pair pmhermite_pair anhermite_pair cdhermite_pair cthermite_pair), slhermite_pair⟩)
    (chermite_pair : PySem.W.codeIn K cdhermite_pair "hermite_pair" = true)
    (khermite_pair : PySem.W.keepIn K (.ref fhermite_pair) = true)
    (akernel_rows : PySem.W.nsIn K mainGlobals "kernel_rows" = some (some (.ref fkernel_rows)))
    (lkernel_rows : K.lookup fkernel_rows = some ⟨ockernel_rows, odkernel_rows, .func (PySem.W.fnOf "kernel_rows" "kernel_rows" (defArgs stkernel_rows) (defBody stkernel_rows) (defScope stkernel_rows) .none kVkernel_rows dckernel_rows pmkernel_rows ankernel_rows cdkernel_rows ctkernel_rows), slkernel_rows⟩)
    (ckernel_rows : PySem.W.codeIn K cdkernel_rows "kernel_rows" = true)
    (kkernel_rows : PySem.W.keepIn K (.ref fkernel_rows) = true)
    (a_law_rank : PySem.W.nsIn K mainGlobals "_law_rank" = some (some (.ref f_law_rank)))
    (l_law_rank : K.lookup f_law_rank = some ⟨oc_law_rank, od_law_rank, .func (PySem.W.fnOf "_law_rank" "_law_rank" (defArgs st_law_rank) (defBody st_law_rank) (defScope st_law_rank) .none kV_law_rank dc_law_rank pm_law_rank an_law_rank cd_law_rank ct_law_rank), sl_law_rank⟩)
    (c_law_rank : PySem.W.codeIn K cd_law_rank "_law_rank" = true)
    (k_law_rank : PySem.W.keepIn K (.ref f_law_rank) = true)
    (ais_list : PySem.W.nsIn K mainGlobals "is_list" = some (some (.ref fis_list)))
    (lis_list : K.lookup fis_list = some ⟨ocis_list, odis_list, .func (PySem.W.fnOf "is_list" "is_list" (defArgs stis_list) (defBody stis_list) (defScope stis_list) .none kVis_list dcis_list pmis_list anis_list cdis_list ctis_list), slis_list⟩)
    (cis_list : PySem.W.codeIn K cdis_list "is_list" = true)
    (kis_list : PySem.W.keepIn K (.ref fis_list) = true)
    (ais_whole : PySem.W.nsIn K mainGlobals "is_whole" = some (some (.ref fis_whole)))
    (lis_whole : K.lookup fis_whole = some ⟨ocis_whole, odis_whole, .func (PySem.W.fnOf "is_whole" "is_whole" (defArgs stis_whole) (defBody stis_whole) (defScope stis_whole) .none kVis_whole dcis_whole pmis_whole anis_whole cdis_whole ctis_whole), slis_whole⟩)
    (cis_whole : PySem.W.codeIn K cdis_whole "is_whole" = true)
    (kis_whole : PySem.W.keepIn K (.ref fis_whole) = true)
    (aare_integers : PySem.W.nsIn K mainGlobals "are_integers" = some (some (.ref fare_integers)))
    (lare_integers : K.lookup fare_integers = some ⟨ocare_integers, odare_integers, .func (PySem.W.fnOf "are_integers" "are_integers" (defArgs stare_integers) (defBody stare_integers) (defScope stare_integers) .none kVare_integers dcare_integers pmare_integers anare_integers cdare_integers ctare_integers), slare_integers⟩)
    (care_integers : PySem.W.codeIn K cdare_integers "are_integers" = true)
    (kare_integers : PySem.W.keepIn K (.ref fare_integers) = true)
    (aas_tuples0 : PySem.W.nsIn K mainGlobals "as_tuples" = some (some (.ref fas_tuples0)))
    (las_tuples0 : K.lookup fas_tuples0 = some ⟨ocas_tuples0, odas_tuples0, .func (PySem.W.fnOf "as_tuples" "as_tuples" (defArgs stas_tuples0) (defBody stas_tuples0) (defScope stas_tuples0) .none kVas_tuples0 dcas_tuples0 pmas_tuples0 anas_tuples0 cdas_tuples0 ctas_tuples0), slas_tuples0⟩)
    (cas_tuples0 : PySem.W.codeIn K cdas_tuples0 "as_tuples" = true)
    (kas_tuples0 : PySem.W.keepIn K (.ref fas_tuples0) = true)
    (aas_tuples1 : PySem.W.nsIn K mainGlobals "as_tuples" = some (some (.ref fas_tuples1)))
    (las_tuples1 : K.lookup fas_tuples1 = some ⟨ocas_tuples1, odas_tuples1, .func (PySem.W.fnOf "as_tuples" "as_tuples" (defArgs stas_tuples1) (defBody stas_tuples1) (defScope stas_tuples1) .none kVas_tuples1 dcas_tuples1 pmas_tuples1 anas_tuples1 cdas_tuples1 ctas_tuples1), slas_tuples1⟩)
    (cas_tuples1 : PySem.W.codeIn K cdas_tuples1 "as_tuples" = true)
    (kas_tuples1 : PySem.W.keepIn K (.ref fas_tuples1) = true)
    (aas_tuples : PySem.W.nsIn K mainGlobals "as_tuples" = some (some (.ref fas_tuples)))
    (las_tuples : K.lookup fas_tuples = some ⟨ocas_tuples, odas_tuples, .func (PySem.W.fnOf "as_tuples" "as_tuples" (defArgs stas_tuples) (defBody stas_tuples) (defScope stas_tuples) .none kVas_tuples dcas_tuples pmas_tuples anas_tuples cdas_tuples ctas_tuples), slas_tuples⟩)
    (cas_tuples : PySem.W.codeIn K cdas_tuples "as_tuples" = true)
    (kas_tuples : PySem.W.keepIn K (.ref fas_tuples) = true)
    (ais_letters : PySem.W.nsIn K mainGlobals "is_letters" = some (some (.ref fis_letters)))
    (lis_letters : K.lookup fis_letters = some ⟨ocis_letters, odis_letters, .func (PySem.W.fnOf "is_letters" "is_letters" (defArgs stis_letters) (defBody stis_letters) (defScope stis_letters) .none kVis_letters dcis_letters pmis_letters anis_letters cdis_letters ctis_letters), slis_letters⟩)
    (cis_letters : PySem.W.codeIn K cdis_letters "is_letters" = true)
    (kis_letters : PySem.W.keepIn K (.ref fis_letters) = true)
    (acheck_letters : PySem.W.nsIn K mainGlobals "check_letters" = some (some (.ref fcheck_letters)))
    (lcheck_letters : K.lookup fcheck_letters = some ⟨occheck_letters, odcheck_letters, .func (PySem.W.fnOf "check_letters" "check_letters" (defArgs stcheck_letters) (defBody stcheck_letters) (defScope stcheck_letters) (.ref Tcheck_letters) kVcheck_letters dccheck_letters pmcheck_letters ancheck_letters cdcheck_letters ctcheck_letters), slcheck_letters⟩)
    (ccheck_letters : PySem.W.codeIn K cdcheck_letters "check_letters" = true)
    (kcheck_letters : PySem.W.keepIn K (.ref fcheck_letters) = true)
    (tcheck_letters : K.lookup Tcheck_letters = some ⟨tccheck_letters, tdcheck_letters, .seq #[.none] tncheck_letters, tscheck_letters⟩)
    (a_law_inner : PySem.W.nsIn K mainGlobals "_law_inner" = some (some (.ref f_law_inner)))
    (l_law_inner : K.lookup f_law_inner = some ⟨oc_law_inner, od_law_inner, .func (PySem.W.fnOf "_law_inner" "_law_inner" (defArgs st_law_inner) (defBody st_law_inner) (defScope st_law_inner) .none kV_law_inner dc_law_inner pm_law_inner an_law_inner cd_law_inner ct_law_inner), sl_law_inner⟩)
    (c_law_inner : PySem.W.codeIn K cd_law_inner "_law_inner" = true)
    (k_law_inner : PySem.W.keepIn K (.ref f_law_inner) = true)
    (a_law_unit : PySem.W.nsIn K mainGlobals "_law_unit" = some (some (.ref f_law_unit)))
    (l_law_unit : K.lookup f_law_unit = some ⟨oc_law_unit, od_law_unit, .func (PySem.W.fnOf "_law_unit" "_law_unit" (defArgs st_law_unit) (defBody st_law_unit) (defScope st_law_unit) .none kV_law_unit dc_law_unit pm_law_unit an_law_unit cd_law_unit ct_law_unit), sl_law_unit⟩)
    (c_law_unit : PySem.W.codeIn K cd_law_unit "_law_unit" = true)
    (k_law_unit : PySem.W.keepIn K (.ref f_law_unit) = true)
    (a_law_matrix : PySem.W.nsIn K mainGlobals "_law_matrix" = some (some (.ref f_law_matrix)))
    (l_law_matrix : K.lookup f_law_matrix = some ⟨oc_law_matrix, od_law_matrix, .func (PySem.W.fnOf "_law_matrix" "_law_matrix" (defArgs st_law_matrix) (defBody st_law_matrix) (defScope st_law_matrix) .none kV_law_matrix dc_law_matrix pm_law_matrix an_law_matrix cd_law_matrix ct_law_matrix), sl_law_matrix⟩)
    (c_law_matrix : PySem.W.codeIn K cd_law_matrix "_law_matrix" = true)
    (k_law_matrix : PySem.W.keepIn K (.ref f_law_matrix) = true)
    (a_law_unimodular : PySem.W.nsIn K mainGlobals "_law_unimodular" = some (some (.ref f_law_unimodular)))
    (l_law_unimodular : K.lookup f_law_unimodular = some ⟨oc_law_unimodular, od_law_unimodular, .func (PySem.W.fnOf "_law_unimodular" "_law_unimodular" (defArgs st_law_unimodular) (defBody st_law_unimodular) (defScope st_law_unimodular) .none kV_law_unimodular dc_law_unimodular pm_law_unimodular an_law_unimodular cd_law_unimodular ct_law_unimodular), sl_law_unimodular⟩)
    (c_law_unimodular : PySem.W.codeIn K cd_law_unimodular "_law_unimodular" = true)
    (k_law_unimodular : PySem.W.keepIn K (.ref f_law_unimodular) = true)
    (a_law_matmul : PySem.W.nsIn K mainGlobals "_law_matmul" = some (some (.ref f_law_matmul)))
    (l_law_matmul : K.lookup f_law_matmul = some ⟨oc_law_matmul, od_law_matmul, .func (PySem.W.fnOf "_law_matmul" "_law_matmul" (defArgs st_law_matmul) (defBody st_law_matmul) (defScope st_law_matmul) .none kV_law_matmul dc_law_matmul pm_law_matmul an_law_matmul cd_law_matmul ct_law_matmul), sl_law_matmul⟩)
    (c_law_matmul : PySem.W.codeIn K cd_law_matmul "_law_matmul" = true)
    (k_law_matmul : PySem.W.keepIn K (.ref f_law_matmul) = true)
    (adot : PySem.W.nsIn K mainGlobals "dot" = some (some (.ref fdot)))
    (ldot : K.lookup fdot = some ⟨ocdot, oddot, .func (PySem.W.fnOf "dot" "dot" (defArgs stdot) (defBody stdot) (defScope stdot) .none kVdot dcdot pmdot andot cddot ctdot), sldot⟩)
    (cdot : PySem.W.codeIn K cddot "dot" = true)
    (kdot : PySem.W.keepIn K (.ref fdot) = true)
    (aP_init : PySem.W.findIn K (.ref CParting) "__init__" = some (some (.ref fP_init)))
    (lP_init : K.lookup fP_init = some ⟨ocP_init, odP_init, .func (PySem.W.fnOf "__init__" "Parting.__init__" (defArgs stP_init) (defBody stP_init) (defScope stP_init) .none kVP_init dcP_init pmP_init anP_init cdP_init ctP_init), slP_init⟩)
    (cP_init : PySem.W.codeIn K cdP_init "Parting.__init__" = true)
    (kP_init : PySem.W.keepIn K (.ref fP_init) = true)
    (iP_init : PySem.W.isFn K (.ref fP_init) = true)
    (aalike_units : PySem.W.nsIn K mainGlobals "alike_units" = some (some (.ref falike_units)))
    (lalike_units : K.lookup falike_units = some ⟨ocalike_units, odalike_units, .func (PySem.W.fnOf "alike_units" "alike_units" (defArgs stalike_units) (defBody stalike_units) (defScope stalike_units) .none kValike_units dcalike_units pmalike_units analike_units cdalike_units ctalike_units), slalike_units⟩)
    (calike_units : PySem.W.codeIn K cdalike_units "alike_units" = true)
    (kalike_units : PySem.W.keepIn K (.ref falike_units) = true)
    (a_law_is_whole : PySem.W.nsIn K mainGlobals "_law_is_whole" = some (some (.ref f_law_is_whole)))
    (l_law_is_whole : K.lookup f_law_is_whole = some ⟨oc_law_is_whole, od_law_is_whole, .func (PySem.W.fnOf "_law_is_whole" "_law_is_whole" (defArgs st_law_is_whole) (defBody st_law_is_whole) (defScope st_law_is_whole) .none kV_law_is_whole dc_law_is_whole pm_law_is_whole an_law_is_whole cd_law_is_whole ct_law_is_whole), sl_law_is_whole⟩)
    (c_law_is_whole : PySem.W.codeIn K cd_law_is_whole "_law_is_whole" = true)
    (k_law_is_whole : PySem.W.keepIn K (.ref f_law_is_whole) = true)
    (a_law_is_matrix : PySem.W.nsIn K mainGlobals "_law_is_matrix" = some (some (.ref f_law_is_matrix)))
    (l_law_is_matrix : K.lookup f_law_is_matrix = some ⟨oc_law_is_matrix, od_law_is_matrix, .func (PySem.W.fnOf "_law_is_matrix" "_law_is_matrix" (defArgs st_law_is_matrix) (defBody st_law_is_matrix) (defScope st_law_is_matrix) .none kV_law_is_matrix dc_law_is_matrix pm_law_is_matrix an_law_is_matrix cd_law_is_matrix ct_law_is_matrix), sl_law_is_matrix⟩)
    (c_law_is_matrix : PySem.W.codeIn K cd_law_is_matrix "_law_is_matrix" = true)
    (k_law_is_matrix : PySem.W.keepIn K (.ref f_law_is_matrix) = true)
    (a_law_column : PySem.W.nsIn K mainGlobals "_law_column" = some (some (.ref f_law_column)))
    (l_law_column : K.lookup f_law_column = some ⟨oc_law_column, od_law_column, .func (PySem.W.fnOf "_law_column" "_law_column" (defArgs st_law_column) (defBody st_law_column) (defScope st_law_column) .none kV_law_column dc_law_column pm_law_column an_law_column cd_law_column ct_law_column), sl_law_column⟩)
    (c_law_column : PySem.W.codeIn K cd_law_column "_law_column" = true)
    (k_law_column : PySem.W.keepIn K (.ref f_law_column) = true)
    (a_law_group_right : PySem.W.nsIn K mainGlobals "_law_group_right" = some (some (.ref f_law_group_right)))
    (l_law_group_right : K.lookup f_law_group_right = some ⟨oc_law_group_right, od_law_group_right, .func (PySem.W.fnOf "_law_group_right" "_law_group_right" (defArgs st_law_group_right) (defBody st_law_group_right) (defScope st_law_group_right) .none kV_law_group_right dc_law_group_right pm_law_group_right an_law_group_right cd_law_group_right ct_law_group_right), sl_law_group_right⟩)
    (c_law_group_right : PySem.W.codeIn K cd_law_group_right "_law_group_right" = true)
    (k_law_group_right : PySem.W.keepIn K (.ref f_law_group_right) = true)
    (a_law_second : PySem.W.nsIn K mainGlobals "_law_second" = some (some (.ref f_law_second)))
    (l_law_second : K.lookup f_law_second = some ⟨oc_law_second, od_law_second, .func (PySem.W.fnOf "_law_second" "_law_second" (defArgs st_law_second) (defBody st_law_second) (defScope st_law_second) .none kV_law_second dc_law_second pm_law_second an_law_second cd_law_second ct_law_second), sl_law_second⟩)
    (c_law_second : PySem.W.codeIn K cd_law_second "_law_second" = true)
    (k_law_second : PySem.W.keepIn K (.ref f_law_second) = true)
    (a_law_answer_right : PySem.W.nsIn K mainGlobals "_law_answer_right" = some (some (.ref f_law_answer_right)))
    (l_law_answer_right : K.lookup f_law_answer_right = some ⟨oc_law_answer_right, od_law_answer_right, .func (PySem.W.fnOf "_law_answer_right" "_law_answer_right" (defArgs st_law_answer_right) (defBody st_law_answer_right) (defScope st_law_answer_right) .none kV_law_answer_right dc_law_answer_right pm_law_answer_right an_law_answer_right cd_law_answer_right ct_law_answer_right), sl_law_answer_right⟩)
    (c_law_answer_right : PySem.W.codeIn K cd_law_answer_right "_law_answer_right" = true)
    (k_law_answer_right : PySem.W.keepIn K (.ref f_law_answer_right) = true)
    (alaw : PySem.W.nsIn K mainGlobals "law" = some (some (.ref flaw)))
    (llaw : K.lookup flaw = some ⟨oclaw, odlaw, .func (PySem.W.fnOf "law" "law" (defArgs stlaw) (defBody stlaw) (defScope stlaw) .none kVlaw dclaw pmlaw anlaw cdlaw ctlaw), sllaw⟩)
    (claw : PySem.W.codeIn K cdlaw "law" = true)
    (klaw : PySem.W.keepIn K (.ref flaw) = true)
    (zParting : PySem.W.kitOne K (.ref CParting) (.ref CParting) = some true)
    (BT0 : bltB K = true) :
    ∃ fd : FuncData, (∀ (s : Shared) (v : Value), BindsTo s fd ⟨[v], []⟩ [("_law_script", v)]) ∧ ∀ base : Heap, K.In base → base.Ns mainGlobals mg → FnG l.prog w K mg base CX0 9 fa fd ["_law_script"] (spLaw K) := by
  have e := hfa.symm.trans (PySem.W.mg_of X G alaw)
  cases e
  have F_law_pen := fun_mk (st := st_law_pen) l_law_pen c_law_pen k_law_pen
  have D_law_pen : DefAt K mg "_law_pen" st_law_pen ["_law_script"] f_law_pen _ := ⟨F_law_pen, PySem.W.mg_of X G a_law_pen, F_law_pen.binds (ps := ["_law_script"]) fun _ _ _ _ _ _ us hl => match us, hl with | [_], _ => rfl⟩
  have F_law_draw := fun_mk (st := st_law_draw) l_law_draw c_law_draw k_law_draw
  have D_law_draw : DefAt K mg "_law_draw" st_law_draw ["_law_pen_here", "_law_many"] f_law_draw _ := ⟨F_law_draw, PySem.W.mg_of X G a_law_draw, F_law_draw.binds (ps := ["_law_pen_here", "_law_many"]) fun _ _ _ _ _ _ us hl => match us, hl with | [_, _], _ => rfl⟩
  have F_law_pick := fun_mk (st := st_law_pick) l_law_pick c_law_pick k_law_pick
  have D_law_pick : DefAt K mg "_law_pick" st_law_pick ["_law_pen_here", "_law_some"] f_law_pick _ := ⟨F_law_pick, PySem.W.mg_of X G a_law_pick, F_law_pick.binds (ps := ["_law_pen_here", "_law_some"]) fun _ _ _ _ _ _ us hl => match us, hl with | [_, _], _ => rfl⟩
  have Fpivot_of := fun_mk (st := stpivot_of) lpivot_of cpivot_of kpivot_of
  have Dpivot_of : DefAt K mg "pivot_of" stpivot_of ["row"] fpivot_of _ := ⟨Fpivot_of, PySem.W.mg_of X G apivot_of, Fpivot_of.binds (ps := ["row"]) fun _ _ _ _ _ _ us hl => match us, hl with | [_], _ => rfl⟩
  have Fcombined := fun_mk (st := stcombined) lcombined ccombined kcombined
  have Dcombined : DefAt K mg "combined" stcombined ["many", "one", "times", "other"] fcombined _ := ⟨Fcombined, PySem.W.mg_of X G acombined, Fcombined.binds (ps := ["many", "one", "times", "other"]) fun _ _ _ _ _ _ us hl => match us, hl with | [_, _, _, _], _ => rfl⟩
  have Fidentity := fun_mk (st := stidentity) lidentity cidentity kidentity
  have Didentity : DefAt K mg "identity" stidentity ["many"] fidentity _ := ⟨Fidentity, PySem.W.mg_of X G aidentity, Fidentity.binds (ps := ["many"]) fun _ _ _ _ _ _ us hl => match us, hl with | [_], _ => rfl⟩
  have Ftransposed := fun_mk (st := sttransposed) ltransposed ctransposed ktransposed
  have Dtransposed : DefAt K mg "transposed" sttransposed ["rows"] ftransposed _ := ⟨Ftransposed, PySem.W.mg_of X G atransposed, Ftransposed.binds (ps := ["rows"]) fun _ _ _ _ _ _ us hl => match us, hl with | [_], _ => rfl⟩
  have F_law_turned := fun_mk (st := st_law_turned) l_law_turned c_law_turned k_law_turned
  have D_law_turned : DefAt K mg "_law_turned" st_law_turned ["_law_rows"] f_law_turned _ := ⟨F_law_turned, PySem.W.mg_of X G a_law_turned, F_law_turned.binds (ps := ["_law_rows"]) fun _ _ _ _ _ _ us hl => match us, hl with | [_], _ => rfl⟩
  have Fbezout := fun_mk (st := stbezout) lbezout cbezout kbezout
  have Dbezout : DefAt K mg "bezout" stbezout ["one", "other"] fbezout _ := ⟨Fbezout, PySem.W.mg_of X G abezout, Fbezout.binds (ps := ["one", "other"]) fun _ _ _ _ _ _ us hl => match us, hl with | [_, _], _ => rfl⟩
  have Ftaken_in := fun_mk (st := sttaken_in) ltaken_in ctaken_in ktaken_in
  have Dtaken_in : DefAt K mg "taken_in" sttaken_in ["basis", "row"] ftaken_in _ := ⟨Ftaken_in, PySem.W.mg_of X G ataken_in, Ftaken_in.binds (ps := ["basis", "row"]) fun _ _ _ _ _ _ us hl => match us, hl with | [_, _], _ => rfl⟩
  have Freduced := fun_mk (st := streduced) lreduced creduced kreduced
  have Dreduced : DefAt K mg "reduced" streduced ["rows"] freduced _ := ⟨Freduced, PySem.W.mg_of X G areduced, Freduced.binds (ps := ["rows"]) fun _ _ _ _ _ _ us hl => match us, hl with | [_], _ => rfl⟩
  have Fhermite_rows := fun_mk (st := sthermite_rows) lhermite_rows chermite_rows khermite_rows
  have Dhermite_rows : DefAt K mg "hermite_rows" sthermite_rows ["rows"] fhermite_rows _ := ⟨Fhermite_rows, PySem.W.mg_of X G ahermite_rows, Fhermite_rows.binds (ps := ["rows"]) fun _ _ _ _ _ _ us hl => match us, hl with | [_], _ => rfl⟩
  have Fhermite_pair := fun_mk (st := sthermite_pair) lhermite_pair chermite_pair khermite_pair
  have Dhermite_pair : DefAt K mg "hermite_pair" sthermite_pair ["rows"] fhermite_pair _ := ⟨Fhermite_pair, PySem.W.mg_of X G ahermite_pair, Fhermite_pair.binds (ps := ["rows"]) fun _ _ _ _ _ _ us hl => match us, hl with | [_], _ => rfl⟩
  have Fkernel_rows := fun_mk (st := stkernel_rows) lkernel_rows ckernel_rows kkernel_rows
  have Dkernel_rows : DefAt K mg "kernel_rows" stkernel_rows ["rows"] fkernel_rows _ := ⟨Fkernel_rows, PySem.W.mg_of X G akernel_rows, Fkernel_rows.binds (ps := ["rows"]) fun _ _ _ _ _ _ us hl => match us, hl with | [_], _ => rfl⟩
  have F_law_rank := fun_mk (st := st_law_rank) l_law_rank c_law_rank k_law_rank
  have D_law_rank : DefAt K mg "_law_rank" st_law_rank ["_law_rows"] f_law_rank _ := ⟨F_law_rank, PySem.W.mg_of X G a_law_rank, F_law_rank.binds (ps := ["_law_rows"]) fun _ _ _ _ _ _ us hl => match us, hl with | [_], _ => rfl⟩
  have Fis_list := fun_mk (st := stis_list) lis_list cis_list kis_list
  have Dis_list : DefAt K mg "is_list" stis_list ["value"] fis_list _ := ⟨Fis_list, PySem.W.mg_of X G ais_list, Fis_list.binds (ps := ["value"]) fun _ _ _ _ _ _ us hl => match us, hl with | [_], _ => rfl⟩
  have Fis_whole := fun_mk (st := stis_whole) lis_whole cis_whole kis_whole
  have Dis_whole : DefAt K mg "is_whole" stis_whole ["value"] fis_whole _ := ⟨Fis_whole, PySem.W.mg_of X G ais_whole, Fis_whole.binds (ps := ["value"]) fun _ _ _ _ _ _ us hl => match us, hl with | [_], _ => rfl⟩
  have Fare_integers := fun_mk (st := stare_integers) lare_integers care_integers kare_integers
  have Dare_integers : DefAt K mg "are_integers" stare_integers ["items"] fare_integers _ := ⟨Fare_integers, PySem.W.mg_of X G aare_integers, Fare_integers.binds (ps := ["items"]) fun _ _ _ _ _ _ us hl => match us, hl with | [_], _ => rfl⟩
  have Fas_tuples0 := fun_mk (st := stas_tuples0) las_tuples0 cas_tuples0 kas_tuples0
  have Das_tuples0 : DefAt K mg "as_tuples" stas_tuples0 ["value"] fas_tuples0 _ := ⟨Fas_tuples0, PySem.W.mg_of X G aas_tuples0, Fas_tuples0.binds (ps := ["value"]) fun _ _ _ _ _ _ us hl => match us, hl with | [_], _ => rfl⟩
  have Fas_tuples1 := fun_mk (st := stas_tuples1) las_tuples1 cas_tuples1 kas_tuples1
  have Das_tuples1 : DefAt K mg "as_tuples" stas_tuples1 ["value"] fas_tuples1 _ := ⟨Fas_tuples1, PySem.W.mg_of X G aas_tuples1, Fas_tuples1.binds (ps := ["value"]) fun _ _ _ _ _ _ us hl => match us, hl with | [_], _ => rfl⟩
  have Fas_tuples := fun_mk (st := stas_tuples) las_tuples cas_tuples kas_tuples
  have Das_tuples : DefAt K mg "as_tuples" stas_tuples ["value"] fas_tuples _ := ⟨Fas_tuples, PySem.W.mg_of X G aas_tuples, Fas_tuples.binds (ps := ["value"]) fun _ _ _ _ _ _ us hl => match us, hl with | [_], _ => rfl⟩
  have Fis_letters := fun_mk (st := stis_letters) lis_letters cis_letters kis_letters
  have Dis_letters : DefAt K mg "is_letters" stis_letters ["exponents"] fis_letters _ := ⟨Fis_letters, PySem.W.mg_of X G ais_letters, Fis_letters.binds (ps := ["exponents"]) fun _ _ _ _ _ _ us hl => match us, hl with | [_], _ => rfl⟩
  have Fcheck_letters : L2.FunD K "check_letters" "check_letters" (defArgs stcheck_letters) (defBody stcheck_letters) (defScope stcheck_letters) [.non] [] fcheck_letters _ := ⟨⟨_, _, _, _, _, _, _, _, _, _, rfl, lcheck_letters, ccheck_letters, .inr ⟨(fun z => nomatch z), Tcheck_letters, _, _, _, rfl, tcheck_letters, rfl, .cons rfl .nil⟩, .inl rfl⟩, kcheck_letters⟩
  have Dcheck_letters : DefDd [.non] K mg "check_letters" stcheck_letters ["exponents", "many"] fcheck_letters _ := ⟨Fcheck_letters, PySem.W.mg_of X G acheck_letters, by
    obtain ⟨ds, hv, hb⟩ := Fcheck_letters.binds1 (ps := ["exponents", "many"]) 1 0 (fun z => nomatch z) rfl fun _ _ _ _ _ _ _ us its hl hi => match us, its, hl, hi with | [_], [_], _, _ => ⟨_, rfl, rfl⟩
    exact ⟨ds, hv, hb⟩⟩
  have F_law_inner := fun_mk (st := st_law_inner) l_law_inner c_law_inner k_law_inner
  have D_law_inner : DefAt K mg "_law_inner" st_law_inner ["_law_row", "_law_column_here"] f_law_inner _ := ⟨F_law_inner, PySem.W.mg_of X G a_law_inner, F_law_inner.binds (ps := ["_law_row", "_law_column_here"]) fun _ _ _ _ _ _ us hl => match us, hl with | [_, _], _ => rfl⟩
  have F_law_unit := fun_mk (st := st_law_unit) l_law_unit c_law_unit k_law_unit
  have D_law_unit : DefAt K mg "_law_unit" st_law_unit ["_law_many"] f_law_unit _ := ⟨F_law_unit, PySem.W.mg_of X G a_law_unit, F_law_unit.binds (ps := ["_law_many"]) fun _ _ _ _ _ _ us hl => match us, hl with | [_], _ => rfl⟩
  have F_law_matrix := fun_mk (st := st_law_matrix) l_law_matrix c_law_matrix k_law_matrix
  have D_law_matrix : DefAt K mg "_law_matrix" st_law_matrix ["_law_pen_here", "_law_many", "_law_wide", "_law_most"] f_law_matrix _ := ⟨F_law_matrix, PySem.W.mg_of X G a_law_matrix, F_law_matrix.binds (ps := ["_law_pen_here", "_law_many", "_law_wide", "_law_most"]) fun _ _ _ _ _ _ us hl => match us, hl with | [_, _, _, _], _ => rfl⟩
  have F_law_unimodular := fun_mk (st := st_law_unimodular) l_law_unimodular c_law_unimodular k_law_unimodular
  have D_law_unimodular : DefAt K mg "_law_unimodular" st_law_unimodular ["_law_pen_here", "_law_many", "_law_steps"] f_law_unimodular _ := ⟨F_law_unimodular, PySem.W.mg_of X G a_law_unimodular, F_law_unimodular.binds (ps := ["_law_pen_here", "_law_many", "_law_steps"]) fun _ _ _ _ _ _ us hl => match us, hl with | [_, _, _], _ => rfl⟩
  have F_law_matmul := fun_mk (st := st_law_matmul) l_law_matmul c_law_matmul k_law_matmul
  have D_law_matmul : DefAt K mg "_law_matmul" st_law_matmul ["_law_one", "_law_two"] f_law_matmul _ := ⟨F_law_matmul, PySem.W.mg_of X G a_law_matmul, F_law_matmul.binds (ps := ["_law_one", "_law_two"]) fun _ _ _ _ _ _ us hl => match us, hl with | [_, _], _ => rfl⟩
  have Fdot := fun_mk (st := stdot) ldot cdot kdot
  have Ddot : DefAt K mg "dot" stdot ["one", "other"] fdot _ := ⟨Fdot, PySem.W.mg_of X G adot, Fdot.binds (ps := ["one", "other"]) fun _ _ _ _ _ _ us hl => match us, hl with | [_, _], _ => rfl⟩
  have FP_init := fun_mk (st := stP_init) lP_init cP_init kP_init
  have DP_init : IniA K "__init__" "Parting.__init__" stP_init ["self", "group", "which"] CParting fP_init _ := ⟨FP_init, FP_init.binds (ps := ["self", "group", "which"]) fun _ _ _ _ _ _ us hl => match us, hl with | [_, _, _], _ => rfl, ⟨mkParting, aP_init, iP_init, kcParting⟩⟩
  have Falike_units := fun_mk (st := stalike_units) lalike_units calike_units kalike_units
  have Dalike_units : DefAt K mg "alike_units" stalike_units ["one", "other"] falike_units _ := ⟨Falike_units, PySem.W.mg_of X G aalike_units, Falike_units.binds (ps := ["one", "other"]) fun _ _ _ _ _ _ us hl => match us, hl with | [_, _], _ => rfl⟩
  have F_law_is_whole := fun_mk (st := st_law_is_whole) l_law_is_whole c_law_is_whole k_law_is_whole
  have D_law_is_whole : DefAt K mg "_law_is_whole" st_law_is_whole ["_law_value"] f_law_is_whole _ := ⟨F_law_is_whole, PySem.W.mg_of X G a_law_is_whole, F_law_is_whole.binds (ps := ["_law_value"]) fun _ _ _ _ _ _ us hl => match us, hl with | [_], _ => rfl⟩
  have F_law_is_matrix := fun_mk (st := st_law_is_matrix) l_law_is_matrix c_law_is_matrix k_law_is_matrix
  have D_law_is_matrix : DefAt K mg "_law_is_matrix" st_law_is_matrix ["_law_value", "_law_many", "_law_wide"] f_law_is_matrix _ := ⟨F_law_is_matrix, PySem.W.mg_of X G a_law_is_matrix, F_law_is_matrix.binds (ps := ["_law_value", "_law_many", "_law_wide"]) fun _ _ _ _ _ _ us hl => match us, hl with | [_, _, _], _ => rfl⟩
  have F_law_column := fun_mk (st := st_law_column) l_law_column c_law_column k_law_column
  have D_law_column : DefAt K mg "_law_column" st_law_column ["_law_exponents", "_law_i"] f_law_column _ := ⟨F_law_column, PySem.W.mg_of X G a_law_column, F_law_column.binds (ps := ["_law_exponents", "_law_i"]) fun _ _ _ _ _ _ us hl => match us, hl with | [_, _], _ => rfl⟩
  have F_law_group_right := fun_mk (st := st_law_group_right) l_law_group_right c_law_group_right k_law_group_right
  have D_law_group_right : DefAt K mg "_law_group_right" st_law_group_right ["_law_group", "_law_exponents", "_law_places"] f_law_group_right _ := ⟨F_law_group_right, PySem.W.mg_of X G a_law_group_right, F_law_group_right.binds (ps := ["_law_group", "_law_exponents", "_law_places"]) fun _ _ _ _ _ _ us hl => match us, hl with | [_, _, _], _ => rfl⟩
  have F_law_second := fun_mk (st := st_law_second) l_law_second c_law_second k_law_second
  have D_law_second : DefAt K mg "_law_second" st_law_second ["_law_pen_here", "_law_rows"] f_law_second _ := ⟨F_law_second, PySem.W.mg_of X G a_law_second, F_law_second.binds (ps := ["_law_pen_here", "_law_rows"]) fun _ _ _ _ _ _ us hl => match us, hl with | [_, _], _ => rfl⟩
  have F_law_answer_right := fun_mk (st := st_law_answer_right) l_law_answer_right c_law_answer_right k_law_answer_right
  have D_law_answer_right : DefAt K mg "_law_answer_right" st_law_answer_right ["_law_one", "_law_other", "_law_is_alike"] f_law_answer_right _ := ⟨F_law_answer_right, PySem.W.mg_of X G a_law_answer_right, F_law_answer_right.binds (ps := ["_law_one", "_law_other", "_law_is_alike"]) fun _ _ _ _ _ _ us hl => match us, hl with | [_, _, _], _ => rfl⟩
  have Flaw := fun_mk (st := stlaw) llaw claw klaw
  have Dlaw : DefAt K mg "law" stlaw ["_law_script"] flaw _ := ⟨Flaw, PySem.W.mg_of X G alaw, Flaw.binds (ps := ["_law_script"]) fun _ _ _ _ _ _ us hl => match us, hl with | [_], _ => rfl⟩
  have Es : ErH K mg CParting := ⟨⟨pgParting, hdParting, poParting, saParting⟩, PySem.W.mg_of X G aCParting, q1Parting, q2Parting, q3Parting, q4Parting, zParting, nPartinggroup, nPartingwhich⟩
  exact ⟨_, fun s v => .of_eq rfl, fun base _ _ => FnG.of (oklaw (blt_of X G BT0) Es D_law_column D_law_inner D_law_is_whole D_law_is_matrix D_law_group_right Dis_list Das_tuples0 Das_tuples1 Das_tuples DP_init Dis_whole Dare_integers Dis_letters Dcheck_letters Ddot Dcombined Dpivot_of Dreduced Dbezout Dtaken_in Dhermite_rows Didentity Dhermite_pair Dtransposed Dkernel_rows Dalike_units D_law_answer_right D_law_draw D_law_pick D_law_matrix D_law_pen D_law_rank D_law_turned D_law_matmul D_law_unit D_law_unimodular D_law_second Dlaw)⟩

theorem walk {l : PySem.W.OpenLaw} {q : Program} {loose : List Str} {XP : (Str → Option Value) → Heap → Prop} {YP : World → Heap → Prop} {d : DefRec} {K : Params → PySem.W.Frag} (hn : l.most = some 63) (hdf : d.params.defaults = [])
    (hY : ∀ (w : World) (h : Heap), YP w h → (K w.params).In h)
    (F : ∀ (w : World) (mg : Str → Option Value) (fa : Addr) (h : Heap), (K w.params).In h → h.Ns mainGlobals mg → mg d.name = some (.ref fa) → ∃ fd : FuncData, (∀ (s : Shared) (u : Value), BindsTo s fd ⟨[u], []⟩ [("_law_script", u)]) ∧
      ∀ base : Heap, (K w.params).In base → base.Ns mainGlobals mg → FnG l.prog w (K w.params) mg base CX0 9 fa fd ["_law_script"] (spLaw (K w.params))) : PySem.W.WalkO q loose XP YP l.row.toRowW d [] (fun f vs => PySem.call f vs) :=
  walkG (n := 63) (sp := spLaw) hn (by decide) hdf ⟨rfl, by decide, by decide⟩ hY F (fun K H a ns hl _ hS => ⟨a, ns, rfl, hS, hl, fun _ => rfl⟩)
end AL
open PySem PySem.W PyProof.Rows
set_option maxRecDepth 100000 in
set_option maxHeartbeats 0 in
theorem PySem.Challenge.cw_allscales_k80_whole_alike_units_holds : PySem.Challenge.rw_allscales_k80_whole_alike_units.Holds := by
  w_on; o_law; k_head; (case hw => w_witness2)
  k_fill
  refine AL.walk (l := PySem.Challenge.rw_allscales_k80_whole_alike_units) rfl rfl (fun w h Y => PySem.W.kIn_of Y) ?F
  case F =>
    intro w mg fa h KX G hmg
    refine' AL.all_mk KX G hmg ?aCParting ?pgParting ?hdParting ?poParting ?saParting ?mkParting ?kcParting ?sfParting ?q1Parting ?q2Parting ?q3Parting ?q4Parting ?nPartinggroup ?nPartingwhich ?a_law_pen ?l_law_pen ?c_law_pen ?k_law_pen ?a_law_draw ?l_law_draw ?c_law_draw ?k_law_draw ?a_law_pick ?l_law_pick ?c_law_pick ?k_law_pick ?apivot_of ?lpivot_of ?cpivot_of ?kpivot_of ?acombined ?lcombined ?ccombined ?kcombined ?aidentity ?lidentity ?cidentity ?kidentity ?atransposed ?ltransposed ?ctransposed ?ktransposed ?a_law_turned ?l_law_turned ?c_law_turned ?k_law_turned ?abezout ?lbezout ?cbezout ?kbezout ?ataken_in ?ltaken_in ?ctaken_in ?ktaken_in ?areduced ?lreduced ?creduced ?kreduced ?ahermite_rows ?lhermite_rows ?chermite_rows ?khermite_rows ?ahermite_pair ?lhermite_pair ?chermite_pair ?khermite_pair ?akernel_rows ?lkernel_rows ?ckernel_rows ?kkernel_rows ?a_law_rank ?l_law_rank ?c_law_rank ?k_law_rank ?ais_list ?lis_list ?cis_list ?kis_list ?ais_whole ?lis_whole ?cis_whole ?kis_whole ?aare_integers ?lare_integers ?care_integers ?kare_integers ?aas_tuples0 ?las_tuples0 ?cas_tuples0 ?kas_tuples0 ?aas_tuples1 ?las_tuples1 ?cas_tuples1 ?kas_tuples1 ?aas_tuples ?las_tuples ?cas_tuples ?kas_tuples ?ais_letters ?lis_letters ?cis_letters ?kis_letters ?acheck_letters ?lcheck_letters ?ccheck_letters ?kcheck_letters ?tcheck_letters ?a_law_inner ?l_law_inner ?c_law_inner ?k_law_inner ?a_law_unit ?l_law_unit ?c_law_unit ?k_law_unit ?a_law_matrix ?l_law_matrix ?c_law_matrix ?k_law_matrix ?a_law_unimodular ?l_law_unimodular ?c_law_unimodular ?k_law_unimodular ?a_law_matmul ?l_law_matmul ?c_law_matmul ?k_law_matmul ?adot ?ldot ?cdot ?kdot ?aP_init ?lP_init ?cP_init ?kP_init ?iP_init ?aalike_units ?lalike_units ?calike_units ?kalike_units ?a_law_is_whole ?l_law_is_whole ?c_law_is_whole ?k_law_is_whole ?a_law_is_matrix ?l_law_is_matrix ?c_law_is_matrix ?k_law_is_matrix ?a_law_column ?l_law_column ?c_law_column ?k_law_column ?a_law_group_right ?l_law_group_right ?c_law_group_right ?k_law_group_right ?a_law_second ?l_law_second ?c_law_second ?k_law_second ?a_law_answer_right ?l_law_answer_right ?c_law_answer_right ?k_law_answer_right ?alaw ?llaw ?claw ?klaw ?zParting ?BT0
    (case aCParting => k_is)
    (case pgParting => k_is)
    (case hdParting => k_is)
    (case poParting => k_is)
    (case saParting => k_is)
    (case mkParting => k_is)
    (case kcParting => k_is)
    (case sfParting => kernel_rfl)
    (case q1Parting => k_is)
    (case q2Parting => k_is)
    (case q3Parting => k_is)
    (case q4Parting => k_is)
    (case nPartinggroup => k_is)
    (case nPartingwhich => k_is)
    (case a_law_pen => k_is)
    (case l_law_pen => k_is)
    (case c_law_pen => k_is)
    (case k_law_pen => k_is)
    (case a_law_draw => k_is)
    (case l_law_draw => k_is)
    (case c_law_draw => k_is)
    (case k_law_draw => k_is)
    (case a_law_pick => k_is)
    (case l_law_pick => k_is)
    (case c_law_pick => k_is)
    (case k_law_pick => k_is)
    (case apivot_of => k_is)
    (case lpivot_of => k_is)
    (case cpivot_of => k_is)
    (case kpivot_of => k_is)
    (case acombined => k_is)
    (case lcombined => k_is)
    (case ccombined => k_is)
    (case kcombined => k_is)
    (case aidentity => k_is)
    (case lidentity => k_is)
    (case cidentity => k_is)
    (case kidentity => k_is)
    (case atransposed => k_is)
    (case ltransposed => k_is)
    (case ctransposed => k_is)
    (case ktransposed => k_is)
    (case a_law_turned => k_is)
    (case l_law_turned => k_is)
    (case c_law_turned => k_is)
    (case k_law_turned => k_is)
    (case abezout => k_is)
    (case lbezout => k_is)
    (case cbezout => k_is)
    (case kbezout => k_is)
    (case ataken_in => k_is)
    (case ltaken_in => k_is)
    (case ctaken_in => k_is)
    (case ktaken_in => k_is)
    (case areduced => k_is)
    (case lreduced => k_is)
    (case creduced => k_is)
    (case kreduced => k_is)
    (case ahermite_rows => k_is)
    (case lhermite_rows => k_is)
    (case chermite_rows => k_is)
    (case khermite_rows => k_is)
    (case ahermite_pair => k_is)
    (case lhermite_pair => k_is)
    (case chermite_pair => k_is)
    (case khermite_pair => k_is)
    (case akernel_rows => k_is)
    (case lkernel_rows => k_is)
    (case ckernel_rows => k_is)
    (case kkernel_rows => k_is)
    (case a_law_rank => k_is)
    (case l_law_rank => k_is)
    (case c_law_rank => k_is)
    (case k_law_rank => k_is)
    (case ais_list => k_is)
    (case lis_list => k_is)
    (case cis_list => k_is)
    (case kis_list => k_is)
    (case ais_whole => k_is)
    (case lis_whole => k_is)
    (case cis_whole => k_is)
    (case kis_whole => k_is)
    (case aare_integers => k_is)
    (case lare_integers => k_is)
    (case care_integers => k_is)
    (case kare_integers => k_is)
    (case aas_tuples0 => k_is)
    (case las_tuples0 => k_is)
    (case cas_tuples0 => k_is)
    (case kas_tuples0 => k_is)
    (case aas_tuples1 => k_is)
    (case las_tuples1 => k_is)
    (case cas_tuples1 => k_is)
    (case kas_tuples1 => k_is)
    (case aas_tuples => k_is)
    (case las_tuples => k_is)
    (case cas_tuples => k_is)
    (case kas_tuples => k_is)
    (case ais_letters => k_is)
    (case lis_letters => k_is)
    (case cis_letters => k_is)
    (case kis_letters => k_is)
    (case acheck_letters => k_is)
    (case lcheck_letters => k_is)
    (case ccheck_letters => k_is)
    (case kcheck_letters => k_is)
    (case tcheck_letters => k_is)
    (case a_law_inner => k_is)
    (case l_law_inner => k_is)
    (case c_law_inner => k_is)
    (case k_law_inner => k_is)
    (case a_law_unit => k_is)
    (case l_law_unit => k_is)
    (case c_law_unit => k_is)
    (case k_law_unit => k_is)
    (case a_law_matrix => k_is)
    (case l_law_matrix => k_is)
    (case c_law_matrix => k_is)
    (case k_law_matrix => k_is)
    (case a_law_unimodular => k_is)
    (case l_law_unimodular => k_is)
    (case c_law_unimodular => k_is)
    (case k_law_unimodular => k_is)
    (case a_law_matmul => k_is)
    (case l_law_matmul => k_is)
    (case c_law_matmul => k_is)
    (case k_law_matmul => k_is)
    (case adot => k_is)
    (case ldot => k_is)
    (case cdot => k_is)
    (case kdot => k_is)
    (case aP_init => k_is)
    (case lP_init => k_is)
    (case cP_init => k_is)
    (case kP_init => k_is)
    (case iP_init => k_is)
    (case aalike_units => k_is)
    (case lalike_units => k_is)
    (case calike_units => k_is)
    (case kalike_units => k_is)
    (case a_law_is_whole => k_is)
    (case l_law_is_whole => k_is)
    (case c_law_is_whole => k_is)
    (case k_law_is_whole => k_is)
    (case a_law_is_matrix => k_is)
    (case l_law_is_matrix => k_is)
    (case c_law_is_matrix => k_is)
    (case k_law_is_matrix => k_is)
    (case a_law_column => k_is)
    (case l_law_column => k_is)
    (case c_law_column => k_is)
    (case k_law_column => k_is)
    (case a_law_group_right => k_is)
    (case l_law_group_right => k_is)
    (case c_law_group_right => k_is)
    (case k_law_group_right => k_is)
    (case a_law_second => k_is)
    (case l_law_second => k_is)
    (case c_law_second => k_is)
    (case k_law_second => k_is)
    (case a_law_answer_right => k_is)
    (case l_law_answer_right => k_is)
    (case c_law_answer_right => k_is)
    (case k_law_answer_right => k_is)
    (case alaw => k_is)
    (case llaw => k_is)
    (case claw => k_is)
    (case klaw => k_is)
    (case zParting => kernel_rfl)
    (case BT0 => kernel_rfl)
#print axioms PySem.Challenge.cw_allscales_k80_whole_alike_units_holds
