import PyProof.Rows.All
import Wide.All
import OpenK.AllK
import Wide.FinOn
import HandS.ForMost
import HandS.IsInst
import HandS.ExcInit
import HandS.ExcValue
import HandS.ExcField
import HandS.ExcIs
import HandS.Evl
import HandS.ForExc
import HandS.TryMany
import HandS.Wide
import HandS.Gcd
import HandS.FStr
import HandS.WideBits
import PyProof.StrReplace2
import HandS.Codes
import HandS.StrMore
import PyProof.TupleOfStr
import HandS.Zip
import HandS.Lambda
import HandS.OwnEq
import KE.KEqDeep
import HandS.Walk
import HandS.DictTup
import HandS.TupLe
import HandS.Keys
import HandS.Conv
import KE.KDictPairs
import HandS.TupSets
import KE.GoesMore
import KE.GoesZip
import KE.GoesEnum
import HandS.Flow
import HandS.Defaults
import HandS.EndTab
import PySem.Challenge.RW_allscales_k51_whole_kinds_of_letters
set_option Elab.async false
set_option maxRecDepth 100000
/-! The pen that the laws draw from: a dict with five entries over a copy of the script. -/
namespace AL
open PySem L2

/-- all but what stands at p stays -/
def Keep (p : Addr) (H H' : Hp) : Prop := ∀ b o, b ≠ p → H b = some o → H' b = some o
theorem Keep.refl (p : Addr) (H : Hp) : Keep p H H := fun _ _ _ h => h
theorem Keep.trans {p : Addr} {H H1 H2 : Hp} (a : Keep p H H1) (b : Keep p H1 H2) : Keep p H H2 := fun c o n h => b c o n (a c o n h)
theorem Keep.upd {p : Addr} {H : Hp} {o : HO} : Keep p H (upd H p o) := fun b u n e => by rw [upd_ne n]; exact e
theorem Keep.new {p q : Addr} {H : Hp} {o : HO} (h : H q = none) : Keep p H (L2.upd H q o) := fun b u _ e => by
  rw [upd_ne (ne_of_none e h)]; exact e

def penK (c : Addr) (i d n f : Int) : List (Key × V) :=
  [(.inr "cells", .ref c), (.inr "at", .int i), (.inr "digits", .int d), (.inr "count", .int n), (.inr "fold", .int f)]
section
variable {c : Addr} {i d n f x : Int}
theorem pen_cells : valV (penK c i d n f) (Sum.inr "cells" : Key) = some (.ref c) := by kernel_rfl
theorem pen_at : valV (penK c i d n f) (Sum.inr "at" : Key) = some (.int i) := by kernel_rfl
theorem pen_digits : valV (penK c i d n f) (Sum.inr "digits" : Key) = some (.int d) := by kernel_rfl
theorem pen_count : valV (penK c i d n f) (Sum.inr "count" : Key) = some (.int n) := by kernel_rfl
theorem pen_fold : valV (penK c i d n f) (Sum.inr "fold" : Key) = some (.int f) := by kernel_rfl
theorem put_at : putK (penK c i d n f) (Sum.inr "at" : Key) (.int x) = penK c x d n f := by kernel_rfl
theorem put_digits : putK (penK c i d n f) (Sum.inr "digits" : Key) (.int x) = penK c i x n f := by kernel_rfl
theorem put_count : putK (penK c i d n f) (Sum.inr "count" : Key) (.int x) = penK c i d x f := by kernel_rfl
theorem put_fold : putK (penK c i d n f) (Sum.inr "fold" : Key) (.int x) = penK c i d n x := by kernel_rfl
theorem pen_len : (penK c i d n f).length = 5 := rfl
end
/-- a pen stands at p, its cells at c; it has drawn at most m times -/
structure Pen (H : Hp) (p c : Addr) (m : Nat) : Prop where
  ex : ∃ (ns : List Int) (i d n f : Int), H p = some (.dK (penK c i d n f)) ∧ H c = some (.lst (ns.map V.int)) ∧ 0 ≤ i ∧ 0 ≤ d ∧ 0 ≤ n ∧ n ≤ (m : Int) ∧ 0 ≤ f ∧ f < 2147483648
theorem Pen.mono {H : Hp} {p c : Addr} {m m' : Nat} (h : Pen H p c m) (l : m ≤ m') : Pen H p c m' := by
  obtain ⟨ns, i, d, n, f, h1, h2, h3, h4, h5, h6, h7, h8⟩ := h.ex
  exact ⟨ns, i, d, n, f, h1, h2, h3, h4, h5, by omega, h7, h8⟩
theorem Pen.keep {H H' : Hp} {p c : Addr} {m : Nat} (h : Pen H p c m) (k1 : ∀ o, H p = some o → H' p = some o) (k2 : ∀ o, H c = some o → H' c = some o) : Pen H' p c m := by
  obtain ⟨ns, i, d, n, f, h1, h2, hr⟩ := h.ex
  exact ⟨ns, i, d, n, f, k1 _ h1, k2 _ h2, hr⟩
theorem Pen.same {H H' : Hp} {p c : Addr} {m : Nat} (h : Pen H p c m) (k : Same H H') : Pen H' p c m := h.keep (fun o e => k _ o e) fun o e => k _ o e
theorem Pen.dict {H : Hp} {p c : Addr} {m : Nat} (h : Pen H p c m) : ∃ kvs, H p = some (.dK kvs) := by
  obtain ⟨ns, i, d, n, f, h1, _⟩ := h.ex
  exact ⟨_, h1⟩
/-- what is no dict and stands, stays -/
theorem Keep.rd {p a : Addr} {H H' : Hp} {kvs : List (Key × V)} {u : HO} (k : Keep p H H') (hp : H p = some (.dK kvs)) (h : Rd H a u) (hu : ∀ l, u ≠ .dK l) : Rd H' a u := by
  rcases h with h | ⟨o, h⟩
  · exact .inl (k a _ (fun z => by rw [z, hp] at h; exact hu _ (Option.some.inj h).symm) h)
  · exact .inr ⟨o, k a _ (fun z => by rw [z, hp] at h; cases h) h⟩
theorem Keep.seqL {K : PySem.W.Frag} {p c a : Addr} {m : Nat} {H H' : Hp} {xs : List V} (k : Keep p H H') (hp : Pen H p c m) (h : SqL K H a xs) : SqL K H' a xs := by
  obtain ⟨kvs, hk⟩ := hp.dict
  rcases h with h | h
  · exact .inl (k.rd hk h (fun l z => by cases z))
  · exact .inr h
theorem Keep.seqT {K : PySem.W.Frag} {p c a : Addr} {m : Nat} {H H' : Hp} {xs : List V} (k : Keep p H H') (hp : Pen H p c m) (h : SqT K H a xs) : SqT K H' a xs := by
  obtain ⟨kvs, hk⟩ := hp.dict
  rcases h with h | h
  · exact .inl (k.rd hk h (fun l z => by cases z))
  · exact .inr h
theorem Keep.at {p c a : Addr} {m : Nat} {H H' : Hp} {o : HO} (k : Keep p H H') (hp : Pen H p c m) (h : H a = some o) (hu : ∀ l, o ≠ .dK l) : H' a = some o := by
  obtain ⟨kvs, hk⟩ := hp.dict
  exact k a _ (fun z => by rw [z, hk] at h; exact hu _ (Option.some.inj h).symm) h
theorem Keep.free {p c a : Addr} {m : Nat} {H H' : Hp} (k : Keep p H H') (hp : Pen H p c m) (hp' : Pen H' p c m) (h : H' a = none) : H a = none := by
  cases e : H a with
  | none => rfl
  | some o =>
    by_cases z : a = p
    · obtain ⟨kvs, hk⟩ := hp'.dict
      rw [z, hk] at h; cases h
    · rw [k a o z e] at h; cases h

/-- a def of the module's top, as it stands behind the top -/
structure DefAt (K : PySem.W.Frag) (mg : Str → Option Value) (x : Str) (st : Stmt) (ps : List Str) (f : Addr) (fd : FuncData) : Prop where
  F : Fun K x x st f fd
  m : mg x = some (.ref f)
  b : Binds K fd ps []
/-! ### the promises -/
/-- _law_pen(script) -/
def spPen (K : PySem.W.Frag) : Sp := fun vs H Q _ => ∃ (a : Addr) (ns : List Int), vs = [.ref a] ∧ SqL K H a (ns.map V.int) ∧ ∀ (p c : Addr) (H' : Hp), H p = none → H c = none → p ≠ c → Pen H' p c 0 → Same H H' → Q (.ref p) H'
/-- _law_draw(pen, many) -/
def spDraw : Sp := fun vs H Q _ => ∃ (p c : Addr) (m : Nat) (k : Int), vs = [.ref p, .int k] ∧ Pen H p c m ∧ m < 1000000000 ∧ 0 < k ∧ k < 1000000000 ∧
  ∀ (r : Int) (H' : Hp), 0 ≤ r → r < k → Pen H' p c (m + 1) → Keep p H H' → Q (.int r) H'
/-- _law_pick(pen, some), some a list -/
def spPick (K : PySem.W.Frag) : Sp := fun vs H Q _ => ∃ (p c a : Addr) (m : Nat) (xs : List V), vs = [.ref p, .ref a] ∧ Pen H p c m ∧ m < 1000000000 ∧ SqL K H a xs ∧ 0 < xs.length ∧ xs.length < 1000000000 ∧
  ∀ (j : Nat) (x : V) (H' : Hp), xs[j]? = some x → Pen H' p c (m + 1) → Keep p H H' → Q x H'
end AL
namespace AL
open PySem L2
theorem dget {H : Hp} {a : Addr} {kvs : List (Key × V)} {k : Key} {v : V} (h : H a = some (.dK kvs)) (e : valV kvs k = some v) : DGet H a (kV k) (some v) := by
  rw [← e]; exact DGet.k h
theorem dput {H : Hp} {a : Addr} {kvs kvs' : List (Key × V)} {k : Key} {v : V} (h : H a = some (.dK kvs)) (hl : kvs.length < sizeLine) (e : putK kvs k v = kvs') : DPut H a (kV k) v (upd H a (.dK kvs')) := by
  rw [← e]; exact DPut.k h hl
theorem fmod_in {a b : Int} (h : 0 < b) : 0 ≤ a.fmod b ∧ a.fmod b < b := by
  rw [Int.fmod_eq_emod_of_nonneg a (Int.le_of_lt h)]
  exact ⟨Int.emod_nonneg _ (by omega), Int.emod_lt_of_pos _ h⟩
theorem fdiv_nn {a b : Int} (ha : 0 ≤ a) (h : 0 < b) : 0 ≤ a.fdiv b := by
  rw [Int.fdiv_eq_ediv_of_nonneg a (Int.le_of_lt h)]
  exact Int.ediv_nonneg ha (Int.le_of_lt h)
theorem map_int {ns : List Int} {i : Nat} {y : V} (hi : (ns.map V.int)[i]? = some y) : ∃ z, ns[i]? = some z ∧ y = V.int z := by
  rw [List.getElem?_map] at hi
  cases e : ns[i]? with
  | none => rw [e] at hi; cases hi
  | some z => rw [e] at hi; exact ⟨z, rfl, (Option.some.inj hi).symm⟩
theorem Same.new {H : Hp} {p : Addr} {o : HO} (h : H p = none) : Same H (upd H p o) := fun b u e => by
  rw [upd_ne (ne_of_none e h)]; exact e
end AL
namespace AL
open PySem L2
/-- the built-in names that the top leaves alone -/
def bltNames : List Str := ["abs", "all", "any", "bool", "dict", "enumerate", "int", "isinstance", "len", "list", "max", "min", "range", "repr", "reversed", "set", "sorted", "str", "sum", "tuple", "zip"]
structure Blt (mg : Str → Option Value) : Prop where
  abs_ : mg "abs" = none
  all_ : mg "all" = none
  any_ : mg "any" = none
  bool_ : mg "bool" = none
  dict_ : mg "dict" = none
  enumerate_ : mg "enumerate" = none
  int_ : mg "int" = none
  isinstance_ : mg "isinstance" = none
  len_ : mg "len" = none
  list_ : mg "list" = none
  max_ : mg "max" = none
  min_ : mg "min" = none
  range_ : mg "range" = none
  repr_ : mg "repr" = none
  reversed_ : mg "reversed" = none
  set_ : mg "set" = none
  sorted_ : mg "sorted" = none
  str_ : mg "str" = none
  sum_ : mg "sum" = none
  tuple_ : mg "tuple" = none
  zip_ : mg "zip" = none
def bltB (K : PySem.W.Frag) : Bool := bltNames.all fun x => decide (PySem.W.nsIn K mainGlobals x = some none)
theorem blt_of {K : PySem.W.Frag} {h : Heap} {mg : Str → Option Value} (X : K.In h) (G : h.Ns mainGlobals mg) (b : bltB K = true) : Blt mg := by
  unfold bltB at b
  have all : ∀ x ∈ bltNames, mg x = none := fun x hx => PySem.W.mg_none_of X G (of_decide_eq_true (List.all_eq_true.mp b x hx))
  exact ⟨all _ (by simp [bltNames]), all _ (by simp [bltNames]), all _ (by simp [bltNames]), all _ (by simp [bltNames]), all _ (by simp [bltNames]), all _ (by simp [bltNames]), all _ (by simp [bltNames]), all _ (by simp [bltNames]), all _ (by simp [bltNames]), all _ (by simp [bltNames]), all _ (by simp [bltNames]), all _ (by simp [bltNames]), all _ (by simp [bltNames]), all _ (by simp [bltNames]), all _ (by simp [bltNames]), all _ (by simp [bltNames]), all _ (by simp [bltNames]), all _ (by simp [bltNames]), all _ (by simp [bltNames]), all _ (by simp [bltNames]), all _ (by simp [bltNames])⟩
end AL
set_option Elab.async false
set_option maxRecDepth 100000
namespace AL
open PySem L2 PySem.NumText
theorem digitsVal_app (a b : List Nat) : digitsVal (a ++ b) = digitsVal a * 10 ^ b.length + digitsVal b := by
  have key : ∀ (n : Nat) (b : List Nat), b.length = n → digitsVal (a ++ b) = digitsVal a * 10 ^ b.length + digitsVal b := by
    intro n
    induction n with
    | zero =>
      intro b hb
      have : b = [] := List.length_eq_zero_iff.mp hb
      subst this
      simp [digitsVal]
    | succ n ih =>
      intro b hb
      have hne : b ≠ [] := fun z => by rw [z] at hb; cases hb
      obtain ⟨i, c, rfl⟩ : ∃ i c, b = i ++ [c] := ⟨b.dropLast, b.getLast hne, (List.dropLast_concat_getLast hne).symm⟩
      have hi : i.length = n := by simpa using hb
      rw [← List.append_assoc, digitsVal_snoc, ih i hi, digitsVal_snoc, List.length_append, List.length_singleton, Nat.pow_succ, Nat.add_mul, Nat.mul_assoc]
      omega
  exact key _ b rfl
theorem digitsVal_lt : ∀ (n : Nat) (b : List Nat), b.length = n → AllDigits b → digitsVal b < 10 ^ n
  | 0, b, hl, _ => by
    have : b = [] := List.length_eq_zero_iff.mp hl
    subst this; decide
  | n + 1, b, hl, h => by
    cases b with
    | nil => simp at hl
    | cons c b =>
      have hc := h.head
      have ih := digitsVal_lt n b (by simpa using hl) h.tail
      have e := digitsVal_app [c] b
      rw [List.singleton_append] at e
      have e1 : digitsVal [c] = c - 48 := by show 0 * 10 + (c - 48) = c - 48; omega
      have hl' : b.length = n := by simpa using hl
      rw [e, e1, hl', Nat.pow_succ]
      have : (c - 48) * 10 ^ n ≤ 9 * 10 ^ n := Nat.mul_le_mul_right _ (by omega)
      omega
/-- the last k signs of a number's text -/
theorem last_digits {n k : Nat} (hk : 0 < k) (hl : (TL.numL n).length ≤ 640) :
    (cutS (Str.ofString (toString ((n : Nat) : Int))) (some (-(k : Int))) none).length ≤ 640 ∧
    intText? (cutS (Str.ofString (toString ((n : Nat) : Int))) (some (-(k : Int))) none) = some ((n % 10 ^ k : Nat) : Int) := by
  have htl : (Str.ofString (toString ((n : Nat) : Int))).cps.toList = TL.numL n := TL.tl_num n
  have hlen : (Str.ofString (toString ((n : Nat) : Int))).length = (TL.numL n).length := by rw [TL.len_tl]; exact congrArg List.length (TL.tl_num n)
  have e : (cutS (Str.ofString (toString ((n : Nat) : Int))) (some (-(k : Int))) none).cps.toList = (TL.numL n).drop ((TL.numL n).length - k) := by
    unfold cutS
    rw [htl, hlen]
    have h1 : HT.sIx (TL.numL n).length 0 (some (-(k : Int))) = (TL.numL n).length - k := by
      show (if (-(k : Int)) < 0 then ((-(k : Int)) + ((TL.numL n).length : Int)).toNat else _) = _
      rw [if_pos (by omega)]
      omega
    have h2 : HT.sIx (TL.numL n).length (TL.numL n).length none = (TL.numL n).length := by
      unfold HT.sIx
      simp
    rw [h1, h2]
    simp
    apply List.take_of_length_le
    simp
  have hd := TL.numL_digits n
  have hne := TL.numL_ne n
  have hv := TL.numL_val n
  generalize TL.numL n = l at *
  have hl0 : 0 < l.length := List.length_pos_iff.mpr hne
  have len : (cutS (Str.ofString (toString ((n : Nat) : Int))) (some (-(k : Int))) none).length = (l.drop (l.length - k)).length := by
    rw [← e]; exact Array.length_toList.symm
  have hle : (l.drop (l.length - k)).length ≤ k := by rw [List.length_drop]; omega
  have hdd : AllDigits (l.drop (l.length - k)) := fun c hc => hd c (List.mem_of_mem_drop hc)
  refine ⟨by rw [len, List.length_drop]; omega, ?_⟩
  rw [intText_digits (by rw [e]; exact hdd) (by rw [e]; intro z; have := congrArg List.length z; rw [List.length_drop] at this; simp at this; omega) (by rw [len, List.length_drop]; omega), e]
  congr 2
  have hap := digitsVal_app (l.take (l.length - k)) (l.drop (l.length - k))
  rw [List.take_append_drop, hv] at hap
  have hlt := digitsVal_lt _ _ rfl hdd
  by_cases hkl : k ≤ l.length
  · have : (l.drop (l.length - k)).length = k := by rw [List.length_drop]; omega
    rw [this] at hap hlt
    rw [hap, Nat.mul_comm, Nat.mul_add_mod, Nat.mod_eq_of_lt hlt]
  · have z : l.length - k = 0 := by omega
    rw [z] at hap hlt ⊢
    simp [digitsVal] at hap
    have : n < 10 ^ k := Nat.lt_of_lt_of_le (by rw [List.drop_zero] at hlt; rw [← hv]; exact hlt) (Nat.pow_le_pow_right (by decide) (by omega))
    rw [List.drop_zero, hv, Nat.mod_eq_of_lt this]
end AL
namespace AL
open PySem L2 PySem.NumText
theorem log2_small {n k : Nat} (hk : 0 < k) (h : n < 2 ^ k) : n.log2 < k := by
  by_cases z : n = 0
  · subst z; simpa using hk
  · exact (Nat.log2_lt z).mpr h
theorem pow402 : (10 : Nat) ^ 402 < 2 ^ 1920 := by decide +kernel
theorem thousand (i : Nat) : (1000 : Nat) ^ i = 10 ^ (3 * i) := by rw [Nat.pow_mul]
/-- _law_big(pen, figures) -/
def spBig : Sp := fun vs H Q _ => ∃ (p c : Addr) (m : Nat) (k : Nat), vs = [.ref p, .int (k : Int)] ∧ Pen H p c m ∧ m < 900000000 ∧ 0 < k ∧ k ≤ 400 ∧
  ∀ (r : Nat) (H' : Hp), r < 10 ^ k → Pen H' p c (m + 200) → Keep p H H' → Q (.int (r : Int)) H'
/-- _law_name(pen, used), used a new empty list -/
def spName0 : Sp := fun vs H Q _ => ∃ (p c a : Addr) (m : Nat), vs = [.ref p, .ref a] ∧ Pen H p c m ∧ a ≠ c ∧ m < 900000000 ∧ H a = some (.lst []) ∧
  ∀ (z : Str) (H' : Hp), z.length ≤ 8 → (∀ c ∈ z.cps.toList, c < 128) → Pen H' p c (m + 200) → Keep p (upd H a (.lst [.str z])) H' → Q (.str z) H'
theorem app_tl {z : Str} {c : Nat} : (z ++ (⟨#[c]⟩ : Str)).cps.toList = z.cps.toList ++ [c] := by
  show (z.cps ++ #[c]).toList = _
  rw [Array.toList_append]
theorem pick_of {xs : List V} {P : V → Prop} (h : ∀ x ∈ xs, P x) {j : Nat} {x : V} (e : xs[j]? = some x) : P x := h x (List.mem_of_getElem? e)
end AL
set_option Elab.async false
set_option maxRecDepth 100000
set_option maxHeartbeats 2000000
/-! Defs that ask repr: their promises hold where no repr is under way. -/
namespace AL
open PySem PySem.Spec PyProof.Rows L2

/-- a def's promise, kept wherever no guard stands around -/
structure FnG (P : Program) (w : World) (K : PySem.W.Frag) (mg : Str → Option Value) (base : Heap) (CX : CXT) (k : Nat) (f : Addr) (fd : FuncData) (ps : List Str) (sp : Sp) : Prop where
  len : ∀ xs H Q E, sp xs H Q E → xs.length = ps.length
  run : ∀ (A : Around) (ol : List Env) (s : Shared) (H : Hp) (ar : Args) (us : List Value) (xs : List V) (Q : VK) (E : XK), A.guards = some [] → Room k A → Env0 P w K mg base A ol s H →
    BindsTo s fd ar (ps.zip us) → Vals xs us → sp xs H Q E → codeAny (model P w) A (.call (.ref f) ar) (CR CX ol P w H s Q E) s

theorem FnG.of {P : Program} {w : World} {K : PySem.W.Frag} {mg : Str → Option Value} {base : Heap} {CX : CXT} {k : Nat} {f : Addr} {fd : FuncData} {ps : List Str} {sp : Sp}
    (F : FnOk P w K mg base CX k f fd ps sp) : FnG P w K mg base CX k f fd ps sp :=
  ⟨F.len, fun A ol s H ar us xs Q E _ r e b v h => F.run A ol s H ar us xs Q E r e b v h⟩

/-- a def of the text, by its body -/
theorem okGX {P : Program} {w : World} {K : PySem.W.Frag} {mg : Str → Option Value} {base : Heap} {x qual : Str} {st : Stmt} {f : Addr} {fd : FuncData} {N ps : List Str} {CX : CXT} {k : Nat} {sp : Sp}
    (F : Fun K x qual st f fd) (S : FnScope N ps (defScope st)) (len : ∀ xs H Q E, sp xs H Q E → xs.length = ps.length)
    (body : ∀ (cv : Value) (A : Around) (ol : List Env) (s : Shared) (H : Hp) (xs : List V) (Q : VK) (E : XK), A.guards = some [] → Room k (A.deeper (envOfC qual (defScope st) s.heap.objs.size f cv)) →
      sp xs H Q E → ∃ t, PSs (cxOf CX P w K mg base N qual (defScope st) f cv A ol s H E) (defBody st) t ∧ t { nx := fun _ H' => Q .non H', rt := Q } (start N xs) H) :
    FnG P w K mg base CX (k + 1) f fd ps sp := by
  obtain ⟨c0, d0, kw0, dc0, pm0, an0, cv, ct0, sl0, efd, look, code⟩ := F.ex
  subst efd
  constructor
  · exact len
  · intro A ol s H ar us xs Q E gd room e0 bd vals wish
    have here : K.In s.heap := e0.mod.kin.keeps fun b o z => (e0.bs b o z).1
    have free : s.heap.NoLimit := e0.mod.nolimit.keeps fun b o z => (e0.bs b o z).1
    have kinds : ∀ y ∈ ps.zip us, (defScope st).names.lookup y.1 = some .local ∨ ((defScope st).names.lookup y.1 = some .cell ∧ ((cellsFrom (s.heap.objs.size + 1) (defScope st).names []).lookup y.1).isSome = true) := by
      rintro ⟨n, v⟩ hy
      cases S.par n (List.of_mem_zip hy).1 with
      | inl q => exact .inl q
      | inr q => exact .inr ⟨q, PySem.W.cellsFrom_some _ _ _ (.inl q)⟩
    refine codeAny_call_function room.depth (here _ _ look) rfl S.co S.gen rfl (PySem.W.codeRec_of here code) (bd _ _ _ _ (wpAny_newFunctionEnv_cells S.kind kinds fun env hv s1 ic => ?_))
    subst hv
    refine ⟨free.keeps ic.toInCall.keep, codeAny_func ?_⟩
    obtain ⟨t, run, rd⟩ := body cv A ol s H xs Q E gd (room.deeper _) wish
    have I0 := inv_start (CX := CX) (P := P) (w := w) (cd := cv) (E := E) S room.hd e0 (len _ _ _ _ wish) vals ic
    refine wpAny_mono (run.run [] s1 _ H _ I0 rd) (fun fl s2 z => ?_) fun _ _ z => z
    cases fl with
    | brk => obtain ⟨_, _, _, no⟩ := z; exact no.elim
    | cont => obtain ⟨_, _, _, no⟩ := z; exact no.elim
    | next =>
      obtain ⟨σ2, H2, J, q⟩ := z
      exact ⟨V.non, H2, J.os, J.bare, J.base, J.hok, rfl, q⟩
    | ret u =>
      obtain ⟨v, σ2, H2, J, rv, q⟩ := z
      exact ⟨v, H2, J.os, J.bare, J.base, J.hok, rv, q⟩

/-- .. of which nothing that is raised leaves it -/
theorem okG {P : Program} {w : World} {K : PySem.W.Frag} {mg : Str → Option Value} {base : Heap} {x qual : Str} {st : Stmt} {f : Addr} {fd : FuncData} {N ps : List Str} {k : Nat} {sp : Sp}
    (F : Fun K x qual st f fd) (S : FnScope N ps (defScope st)) (len : ∀ xs H Q E, sp xs H Q E → xs.length = ps.length)
    (body : ∀ (cv : Value) (A : Around) (ol : List Env) (s : Shared) (H : Hp) (xs : List V) (Q : VK) (E : XK), A.guards = some [] → Room k (A.deeper (envOfC qual (defScope st) s.heap.objs.size f cv)) →
      sp xs H Q E → ∃ t, PSs (cxOf CX0 P w K mg base N qual (defScope st) f cv A ol s H E).nox (defBody st) t ∧ t { nx := fun _ H' => Q .non H', rt := Q } (start N xs) H) :
    FnG P w K mg base CX0 (k + 1) f fd ps sp := by
  refine okGX F S len fun cv A ol s H xs Q E gd room wish => ?_
  obtain ⟨t, run, rd⟩ := body cv A ol s H xs Q E gd room wish
  exact ⟨t, run.nox, rd⟩

section
variable {X : Cx} {CX : CXT} {k : Nat} {f : Addr} {fd : FuncData} {ps : List Str} {sp : Sp} {E : XK} {x : Str} {p pos : Pos} {e : Expr} {es : List Expr} {t : TA}
/-- f(e, ..) where no guard stands -/
theorem pe_callG (F : FnG X.prog X.w X.K X.mg X.base CX k f fd ps sp) (gd : X.A.guards = some []) (room : Room k X.A) (hg : Gl X x) (hm : X.mg x = some (.ref f)) (kp : PySem.W.keepIn X.K (.ref f) = true) (hb : Binds X.K fd ps [])
    (out : Passes CX X E) (ha : PA X (e :: es) t) (nd : (x == ("__debug__" : Str)) = false := by decide) (s1 : starEach (e :: es) X.env = (false, eval e X.env) :: starEach es X.env := by rfl)
    (s2 : (backTo pos (starEach es X.env)).any (·.1) = false := by rfl) : PE X (.Call (.Name x p) (e :: es) [] pos) (tCall sp [] E t) := by
  constructor
  intro pins s σ H Q I h
  refine wpAny_Call_Name_kw (ld_glob I hg hm (PySem.W.callWith_K (h₀ := X.base) I.ok.mod.kin kp ?_ s1 s2) nd)
  refine thn (ha.run pos pins s σ H _ I h) fun us s3 ⟨xs, H3, J, rv, q⟩ => ⟨J.kIn, ?_⟩
  have q' : sp xs H3 Q E := by
    have z : sp (xs ++ []) H3 Q E := q
    rw [List.append_nil] at z
    exact z
  have len : us.length = ps.length := by rw [← rv.length]; exact F.len _ _ _ _ q'
  have bd : BindsTo s3 fd ⟨us, []⟩ (ps.zip us) := by
    have z := hb s3 us J.kIn (by rw [List.append_nil]; exact len)
    rw [List.append_nil] at z
    exact z
  refine wpAny_call (codeAny_mono (F.run X.A X.stack s3 H3 ⟨us, []⟩ us xs Q E gd room J.env0 bd rv q') fun r s4 z => ?_)
  cases r with
  | error er => exact out pins σ H3 s3 er s4 J z
  | ok fl =>
    cases fl with
    | ret u => exact J.after z
    | next => exact z.elim
    | brk => exact z.elim
    | cont => exact z.elim
end

/-! ### repr of data -/
/-- repr(x), x a list or a tuple of data -/
def rRepr (K : PySem.W.Frag) : List V → Hp → VK → Prop := fun vs H Q => ∃ (a : Addr) (d : PyData), vs = [.ref a] ∧ Dp K H (.ref a) d ∧ d.showable = true ∧ d.hasDict = false ∧ d.depth ≤ 60 ∧ d.shown.length ≤ sizeLine ∧ Q (.str d.shown) H
theorem call_reprD {X : Cx} (gd : X.A.guards = some []) (hu : X.A.units + 64 < cLine) : CallR X (.builtin "repr") (rRepr X.K) := by
  intro pins s σ H vs us Q I r h
  obtain ⟨a, d, rfl, hd, h1, h2, h3, h4, q⟩ := h
  obtain ⟨u, rfl, ru⟩ := vals1 r
  obtain rfl : u = Value.ref a := ru
  obtain ⟨as, rd⟩ := Dp.reads I d (.ref a) (.ref a) hd rfl
  exact repr_of_reads' rd h1 (PyData.noDict_hsm h2) gd (by omega) (fun _ _ z => z) (fun h' u tk kk => ⟨.str d.shown, H, I.kept (t' := tk) kk, ⟨u, rfl⟩, q⟩) h4
end AL
set_option Elab.async false
set_option maxRecDepth 100000
set_option maxHeartbeats 4000000
/-! Own exceptions held as values: made, their fields read, asked for their class. -/
namespace PySem
open PySem.W PySem.Calls PyProof.Rows
section
variable {prog : Program} {w : World} {A : Around} {E : Value → Shared → Prop} {s : Shared} {K : Frag} {x D : Addr} {ox : Obj} {od : Option Obj}
/-- a data descriptor of the class is found ahead of the own dict -/
theorem al_findObj {C : Addr} {n : Str} {a g : Value} (hc : (clsIn K C).isSome = true) (ha : findIn K (.ref C) n = some (some a)) (hg : specialIn K a "__get__" = some (some g)) (ht : takesIn K a = some true) : findObj K C od n = some (.bind g a) := by
  obtain ⟨cd, e⟩ := Option.isSome_iff_exists.mp hc
  unfold findObj
  rw [e, Option.bind_some, ha, Option.bind_some]
  simp [hg, ht]
/-- e.__class__ of an own exception, whatever its dict holds -/
theorem al_class {Q : Option Value → Shared → Prop} (T : L2.ExcC K D) (X : K.In s.heap) (J : InstAt s.heap x ox D od) (h : Q (some (.ref D)) { s with toks := s.toks + 1 }) : wpAny (model prog w) A (getAttr? (.ref x) "__class__") Q E s := by
  have hf : findObj K D od "__class__" = some (.bind (.builtin "getset_descriptor.__get__") (.builtin "object.__class__")) := al_findObj (by
    obtain ⟨cd, e, _⟩ := any_some T.hd
    rw [e]; rfl) T.ha T.hn T.ht
  obtain ⟨hp, ge, dr, tk, os⟩ := s
  have ty := J.type (M := model prog w)
  have l1 := looks_findIn (M := model prog w) X T.hg
  have l2 := looks_findIn (M := model prog w) X T.hk
  have l3 := looks_find (M := model prog w) X J hf
  have isExc : Looks (model prog w) hp (isInstance (.ref x) (.type "BaseException")) true := ty.andThen (looks_subIn X T.hs)
  have f0 : (false && onTheHeap (Value.builtin "BaseException.__getattribute__")) = false := rfl
  have f1 : (onTheHeap (Value.ref D) && Value.builtin "BaseException.__getattribute__" == Value.builtin "object.__getattribute__") = false := by
    rw [show (Value.builtin "BaseException.__getattribute__" == Value.builtin "object.__getattribute__") = false by decide +kernel]; rfl
  unfold getAttr? getAttrBy? getAttrBy
  refine wpAny_bind (wpAny_mkText (wpAny_bind (wpAny_attempt (wpAny_holding (wpAny_bind (ty.at (wpAny_bind (l1.at ?_))))))))
  show wpAny _ _ (if (onTheHeap (Value.ref D) && Value.builtin "BaseException.__getattribute__" == Value.builtin "object.__getattribute__") = true then _ else _) _ _ _
  rw [f1, if_neg Bool.false_ne_true]
  unfold getAttrByItsOwn hookBefore
  refine wpAny_bind ?_
  have onHp : onTheHeap (Value.ref D) = true := rfl
  rw [if_pos onHp]
  refine l2.at ?_; refine wpAny_bind (wpAny_attempt (wpAny_holding ?_))
  unfold callGetattribute
  rw [f0, if_neg Bool.false_ne_true]
  unfold boundAndCalled
  rw [PySem.F.excAttr_ValueError.ga.bind (.ref x)]
  refine wpAny_bind (wpAny_pure ?_)
  show wpAny _ _ (call (.builtin "BaseException.__getattribute__") [.ref x, .str "__class__" tk]) _ _ _
  refine wpAny_call (codeAny_call_builtin PySem.F.excAttr_ValueError.ga.plain PySem.F.entry_bexc_ga (@check_slot (model prog w) _ _ ⟨hp, ge, dr, tk + 1, os⟩ "BaseException.__getattribute__" "BaseException" "__getattribute__" (.ref x) [.str "__class__" tk] [] _ (by decide +kernel) (by decide +kernel) isExc (PySem.F.args_bexc_ga (.ref x) (.str "__class__" tk)) ?_))
  unfold Builtin.«object.__getattribute__»
  refine wpAny_bind (wpAny_of_eq (a := ((Value.ref x : Value), [Value.str "__class__" tk])) (by first | rfl | (simp only [slotArgs]; rfl)) (wpAny_bind (wpAny_pure (wpAny_bind (ty.at (wpAny_bind (l3.at ?_)))))))
  show wpAny _ _ (holding [Value.builtin "object.__class__"] (call (.builtin "getset_descriptor.__get__") [.builtin "object.__class__", .ref x, .ref D]) >>= ret) _ _ _
  refine wpAny_bind (wpAny_holding (wpAny_call (class_get (s := ⟨hp, ge, dr, tk + 1, os⟩) (ox := ox) (od := od) X J T.hm (wpAny_pure ?_))))
  show wpAny _ _ (handedOut (.ref D)) _ _ _
  rw [handedOut_of (v := .ref D) rfl]
  first
    | exact wpAny_pure (wpAny_pure h)
    | exact wpAny_pure h
    | exact wpAny_pure (wpAny_bind (wpAny_pure (wpAny_pure h)))
theorem al_kitx (T : L2.ExcC K D) : KitX K (.ref x) (.ref D) (fun h => InstAt h x ox D od) := by
  obtain ⟨cd, ecd, _⟩ := any_some T.hd
  have there : ∃ o, K.lookup D = some o ∧ ∀ its n, o.data ≠ .seq its n := by
    unfold clsIn at ecd
    split at ecd
    · rename_i c' d' cd' sl' ho
      exact ⟨_, ho, fun _ _ z => by cases z⟩
    · cases ecd
  constructor
  case ty => exact fun _ _ _ J => J.type
  case it =>
    intro _ _ X _
    unfold clsIn at ecd
    split at ecd
    · rename_i c' d' cd' sl' ho
      intro A' Q' E' s' kk q
      unfold isType loadHead
      exact wpAny_bind (wpAny_loadPart (kk _ _ (X _ _ ho)) (wpAny_pure q))
    · cases ecd
  case ne =>
    intro h tp dd its n sl X htp
    refine Bool.eq_false_iff.mpr fun q => ?_
    have e : D = tp := Value.ref.inj (beq_iff_eq.mp q)
    subst e
    obtain ⟨o, ho, no⟩ := there
    have z := (X _ _ ho).symm.trans htp
    cases z
    exact no _ _ rfl
  case ca => exact fun X J kk => al_class T X J kk
end
end PySem
namespace AL
open PySem PySem.Spec PyProof.Rows L2
/-- C(e, ..), a value -/
def tMkV (C : Addr) (sp : Sp) (ta : TA) : TE := fun σ H Q => ta σ H fun vs H1 => vs.length ≤ 1000 ∧ ∀ a, H1 a = none → sp (.ref a :: vs) (upd H1 a (exo a C none)) (fun v H2 => v = .non ∧ Q (.ref a) H2) fun _ _ _ => False
/-- e.f of such a value -/
def tFv (K : PySem.W.Frag) (f : Str) (te : TE) : TE := fun σ H Q => te σ H fun x H1 => ∃ (a C dx : Addr) (fs : List (Str × V)) (v : V), x = .ref a ∧ XfC K C ∧ PySem.W.findIn K (.ref C) f = some none ∧
  H1 a = some (exo a C (some dx)) ∧ H1 dx = some (exd dx fs) ∧ fs.lookup f = some v ∧ Q v H1
/-- isinstance(e, c) of such a value -/
def rIsV (K : PySem.W.Frag) : List V → Hp → VK → Prop := fun vs H Q => ∃ (a C : Addr) (c : V) (u : Value) (b : Bool), vs = [.ref a, c] ∧ ExcC K C ∧ ((∃ dx fs, H a = some (exo a C (some dx)) ∧ H dx = some (exd dx fs)) ∨ H a = some (ExO (.ref C) a)) ∧
  ClsV c u ∧ PySem.W.kitOne K (.ref C) u = some b ∧ Q (.bl b) H
section
variable {X : Cx} {x : Str} {C fI : Addr} {k : Nat} {fd : FuncData} {ps : List Str} {sp : Sp} {e : Expr} {es : List Expr} {ta : TA} {te : TE} {p pos : Pos} {CX : CXT}
theorem pe_mkV (T : OexC X.K C) (hi : PySem.W.findIn X.K (.ref C) "__init__" = some (some (.ref fI))) (ht : PySem.W.typeIn X.K (.ref fI) = some (.type "function")) (F : FnOk X.prog X.w X.K X.mg X.base CX k fI fd ps sp)
    (room : Room (k + 1) X.A) (hb : Binds X.K fd ps []) (out : Passes CX X fun _ _ _ => False) (hg : Gl X x) (hm : X.mg x = some (.ref C)) (ha : PA X (e :: es) ta) (nd : (x == ("__debug__" : Str)) = false := by decide)
    (s1 : starEach (e :: es) X.env = (false, eval e X.env) :: starEach es X.env := by rfl) (s2 : (backTo pos (starEach es X.env)).any (·.1) = false := by rfl) : PE X (.Call (.Name x p) (e :: es) [] pos) (tMkV C sp ta) := by
  constructor
  intro pins s σ H Q I h
  obtain ⟨_, _, _, _, bm, _, _, _, _, _, _, _, _, _, _, look, isVE⟩ := T.cls
  refine wpAny_Call_Name_kw (ld_glob I hg hm (PySem.W.callWith_K (h₀ := X.base) I.ok.mod.kin T.kC (thn (ha.run pos pins s σ H _ I h) fun us sA hA => ?_) s1 s2) nd)
  obtain ⟨vs, H1, J, rv, few, wish⟩ := hA
  refine ⟨J.kIn, ?_⟩
  show wpAny _ _ (call (.ref C) us) _ _ _
  obtain ⟨hp, ge, dr, tk, os⟩ := sA
  have bound : hp.objs.size ≤ hp.objs.size + 1 := Nat.le_succ _
  have fresh : H1 (hp.objs.size + 1) = none := J.hok.fresh bound
  have goal := wish _ fresh
  have keep : ∀ b o, hp.get? b = some o → ((hp.push (PySem.W.kdv_tup us)).push (PySem.HandSPX.excO C hp.objs.size)).get? b = some o := fun b o z => Heap.get?_push_of_some _ (Heap.get?_push_of_some _ z)
  have there : ((hp.push (PySem.W.kdv_tup us)).push (PySem.HandSPX.excO C hp.objs.size)).get? (hp.objs.size + 1) = some (PySem.HandSPX.excO C hp.objs.size) := by heap_get
  have J2 : Inv X pins σ (upd H1 (hp.objs.size + 1) (exo (hp.objs.size + 1) C none)) ⟨(hp.push (PySem.W.kdv_tup us)).push (PySem.HandSPX.excO C hp.objs.size), ge, dr, tk, os⟩ := J.laid (t' := tk) keep bound (exo_ok there)
  have rv2 : Vals (V.ref (hp.objs.size + 1) :: vs) (Value.ref (hp.objs.size + 1) :: us) := .cons rfl rv
  have many : (Value.ref (hp.objs.size + 1) :: us).length = ps.length := rv2.length.symm.trans (F.len _ _ _ _ goal)
  have few' : us.length ≤ sizeLine := by
    have z := rv.length
    rw [sizeLine_eq]
    omega
  have bd : BindsTo ⟨(hp.push (PySem.W.kdv_tup us)).push (PySem.HandSPX.excO C hp.objs.size), ge, dr, tk, os⟩ fd ⟨Value.ref (hp.objs.size + 1) :: us, []⟩ (ps.zip (Value.ref (hp.objs.size + 1) :: us)) := by
    have z := hb ⟨(hp.push (PySem.W.kdv_tup us)).push (PySem.HandSPX.excO C hp.objs.size), ge, dr, tk, os⟩ (Value.ref (hp.objs.size + 1) :: us) J2.kIn (by rw [List.append_nil]; exact many)
    rw [List.append_nil] at z
    exact z
  refine wpAny_call (PySem.HandSPX.call_own PySem.F.excBase_ValueError (fun Y => PySem.HandSPX.refsVE_contains Y bm isVE) (J.kIn _ _ look) (PySem.W.looks_findIn J.kIn hi) (fun self => PySem.W.bind_fn J.kIn self ht) few' (codeAny_mono
    (F.run _ X.stack _ _ ⟨Value.ref (hp.objs.size + 1) :: us, []⟩ (Value.ref (hp.objs.size + 1) :: us) _ _ (fun _ _ _ => False) (room.make C us []) (J2.env0.make C us []) bd rv2 goal) fun r sB hB => ?_))
  cases r with
  | error er => exact out pins σ _ _ er sB J2 hB
  | ok fl =>
    cases fl with
    | next => exact hB.elim
    | brk => exact hB.elim
    | cont => exact hB.elim
    | ret u =>
      obtain ⟨v, H2, os2, bare2, un2, hok2, rw2, ev, q2⟩ := hB
      subst ev
      refine ⟨rw2, .ref (hp.objs.size + 1), H2, ?_, rfl, q2⟩
      obtain ⟨h2, g2, d2, t2, os'⟩ := sB
      have un1 : Un (frs X.stack) [] H1 H2 hp h2 := (Un.laid keep bound fresh).trans un2
      exact J.call' (ch := []) os2 un1 hok2 bare2 (fun b z => absurd z (by simp))
theorem pe_fv {n : Str} (he : PE X e te) (hb : attributeBase e n X.env (eval e X.env) = eval e X.env := by rfl) : PE X (.Attribute e n pos) (tFv X.K n te) := by
  constructor
  intro pins s σ H Q I h
  refine attr_of hb (thn (he.run pins s σ H _ I h) fun u sA hA => ?_)
  obtain ⟨y, H1, J, ry, a, C, dx, fs, v, rfl, T, no, ea, ed, l, q⟩ := hA
  cases (show u = Value.ref a from ry)
  obtain ⟨t1, oa⟩ := exo_at J.hok ea
  obtain ⟨mA, hns, rel⟩ := exd_at J.hok ed
  obtain ⟨od, ho, hl⟩ := lookIn_ns hns
  obtain ⟨u, hu, ru⟩ := RelO.some_of (v := v) (o := mA n) (by rw [← l]; exact rel n)
  exact HandSPX.exc_get J.kIn (⟨oa, rfl, rfl, ho⟩ : PySem.W.InstAt sA.heap a _ C (some od)) T.ga T.gg T.exC (PySem.W.findObj_own T.hdC no rfl (by rw [hl, hu])) (handed_of ru) ⟨v, H1, J.tok _, ru, q⟩
theorem call_isV : CallR X (.builtin "isinstance") (rIsV X.K) := by
  intro pins s σ H vs us Q I r h
  obtain ⟨a, C, c, u, b, rfl, T, what, kc, e, q⟩ := h
  obtain ⟨u1, u2, rfl, r1, r2⟩ := vals2 r
  cases (show u1 = Value.ref a from r1)
  cases kc.eq r2
  rcases what with ⟨dx, fs, ea, ed⟩ | ea
  · obtain ⟨t1, oa⟩ := exo_at I.hok ea
    obtain ⟨mA, hns, rel⟩ := exd_at I.hok ed
    obtain ⟨od, ho, hl⟩ := lookIn_ns hns
    exact PySem.W.kia_one (al_kitx T) I.kIn (⟨oa, rfl, rfl, ho⟩ : PySem.W.InstAt s.heap a _ C (some od)) e (fun z => nomatch z) fun tk => ⟨.bl b, H, I.tok tk, rfl, q⟩
  · obtain ⟨⟨oe, fv, oa, ⟨z1, z2⟩, z3, _⟩, _⟩ := I.hok a _ ea
    exact PySem.W.kia_one (al_kitx T) I.kIn (⟨oa, z1, by unfold PySem.W.notCls; rw [z3] <;> rfl, by rw [z2]; trivial⟩ : PySem.W.InstAt s.heap a oe C none) e (fun z => nomatch z) fun tk => ⟨.bl b, H, I.tok tk, rfl, q⟩
/-- C() of an own class over ValueError without __init__ -/
theorem pe_mkV0 {bmB : List Value} {B newId initId : String} (F : ExcBaseFacts B newId initId bmB) (ex : PySem.W.excIn X.K C bmB newId = true) (hm : X.mg x = some (.ref C)) (kp : PySem.W.keepIn X.K (.ref C) = true) (hg : Gl X x) (nd : (x == ("__debug__" : Str)) = false := by decide) :
    PE X (.Call (.Name x p) [] [] pos) (fun _ H Q => ∀ a, H a = none → Q (.ref a) (upd H a (ExO (.ref C) a))) := by
  constructor
  intro pins s σ H Q I h
  refine wpAny_Call_Name_kw (ld_glob I hg hm (PySem.W.callWith_K0 I.kIn kp ?_) nd)
  obtain ⟨bm, N, nm, qn, bs, hd, sn, sub, ab, col, dd, c0, c1, c2, c3, c5, mN, hC, hN, hni, T⟩ := exc_obj I.kIn ex
  obtain ⟨hp, ge, dr, tk, os⟩ := s
  refine wpAny_call_exc_subT F T hC hN hni (fun h2 a made => ?_) (Nat.zero_le _)
  have fresh : H a = none := I.hok.gone made.new
  obtain ⟨t, here, _, _⟩ := made.there
  exact ⟨.ref a, upd H a (ExO (.ref C) a), I.laidN (t' := tk) made.keeps made.new fresh (exO_ok here ⟨rfl, rfl⟩ rfl rfl rfl (show 4 < 6 by decide)), rfl, h a fresh⟩
end
end AL
set_option Elab.async false
set_option maxRecDepth 100000
set_option maxHeartbeats 2000000
/-! The end of a law whose def asks repr. -/
namespace AL
open PySem PySem.Spec PyProof.Rows L2
/-- the script's own object -/
def scrO (us : List Value) : Obj := { cls := .type "list", data := .seq us.toArray }
/-- the heap at the law's entry: the script alone, locked (or nothing, where it is the module's own) -/
def scrH (K : PySem.W.Frag) (a : Addr) (us : List Value) (ns : List Int) : Hp := fun b => if b = a ∧ K.lookup a = none then some (.frz (scrO us) (.lst (ns.map V.int))) else none
theorem scrH_some {K : PySem.W.Frag} {a b : Addr} {us : List Value} {ns : List Int} {u : HO} (h : scrH K a us ns b = some u) : b = a ∧ K.lookup a = none ∧ u = .frz (scrO us) (.lst (ns.map V.int)) := by
  unfold scrH at h
  split at h
  · rename_i c
    exact ⟨c.1, c.2, (Option.some.inj h).symm⟩
  · cases h
theorem lawG {P : Program} {w : World} {K : PySem.W.Frag} {mg mb : Str → Option Value} {CX : CXT} {k : Nat} {fa a : Addr} {fd : FuncData} {x : Str} {sp : Sp} {t : Shared} {us : List Value} {ns : List Int}
    (kin : K.In t.heap) (glb : t.heap.Ns mainGlobals mg) (blt : t.heap.Ns builtinsNs mb) (boot : ∀ y : Str, y ≠ "__name__" → mb y = bootBuiltins y) (free : t.heap.NoLimit) (noG : t.gens = #[])
    (at_a : t.heap.get? a = some (scrO us)) (isI : IntsAre us ns) (short : ns.length ≤ sizeLine) (room : Room k callerA)
    (F : ∀ base : Heap, K.In base → base.Ns mainGlobals mg → FnG P w K mg base CX k fa fd [x] sp) (bind : ∀ (s : Shared) (u : Value), BindsTo s fd ⟨[u], []⟩ [(x, u)])
    (wish : ∀ H : Hp, Only H → SqL K H a (ns.map V.int) → sp [.ref a] H (fun v _ => v = .bl true) fun _ _ _ => False)
    (noX : ∀ H e s', CX [] H t (fun _ _ _ => False) e s' → False) :
    codeAny (model P w) callerA (.call (.ref fa) ⟨[.ref a], []⟩) (fun r s' => r = .ok (.ret (.bool true)) ∧ OldK t.heap s'.heap ∧ s'.os = t.os ∧ AllBare s'.gens) t := by
  have vals := vals_ints isI
  have many := isI.length
  have only : Only (scrH K a us ns) := fun b => by
    cases e : scrH K a us ns b with
    | none => exact .inl rfl
    | some u =>
      obtain ⟨_, _, z⟩ := scrH_some e
      exact .inr ⟨_, _, congrArg some z⟩
  have seq : SqL K (scrH K a us ns) a (ns.map V.int) := by
    cases e : K.lookup a with
    | none => exact .inl (.inr ⟨scrO us, if_pos ⟨rfl, e⟩⟩)
    | some o =>
      have z := kin a o e
      rw [at_a] at z
      cases z
      exact .inr ⟨_, us.toArray, _, e, rfl, rfl, rfl, by rw [List.size_toArray, many]; exact short, vals⟩
  have held : HOk P w (scrH K a us ns) t.heap := fun b u e => by
    obtain ⟨rfl, _, rfl⟩ := scrH_some e
    exact ⟨at_a, by rw [List.length_map]; exact short, us, _, vals, at_a⟩
  have noDict : ∀ {b : Addr} {o : Obj} {es : Array DictEntry} {n : Nat}, t.heap.get? b = some o → o.data = .dict es n → scrH K a us ns b = none := by
    intro b o es n e1 e2
    cases e : scrH K a us ns b with
    | none => rfl
    | some u =>
      obtain ⟨rfl, _, _⟩ := scrH_some e
      rw [at_a] at e1
      cases e1
      cases e2
  have ns_of : ∀ {b : Addr} {m : Str → Option Value}, t.heap.Ns b m → (hidT t.heap (scrH K a us ns)).Ns b m := by
    rintro b m ⟨o, es, n, e1, e2, r⟩
    exact ⟨o, es, n, hidT_get e1 (noDict e1 e2), e2, r⟩
  have kin' : K.In (hidT t.heap (scrH K a us ns)) := fun b o e => hidT_get (kin b o e) (by
    cases z : scrH K a us ns b with
    | none => rfl
    | some u =>
      obtain ⟨rfl, n, _⟩ := scrH_some z
      rw [n] at e
      cases e)
  have modl : Mod K mg (hidT t.heap (scrH K a us ns)) := by
    obtain ⟨mc, f1, f2⟩ := free
    exact ⟨kin', ns_of glb, ⟨mb, ns_of blt, boot⟩, ⟨mc, ns_of f1, f2⟩⟩
  have env0 : Env0 P w K mg (hidT t.heap (scrH K a us ns)) callerA [] t (scrH K a us ns) :=
    ⟨rfl, modl, fun b o z => of_hidT z, Nat.le_of_eq (hidT_size _ _), trivial, fun b z => absurd (show b ∈ ([] : List Addr) from z) (by simp), held, .of_eq noG⟩
  refine codeAny_mono ((F _ kin' (ns_of glb)).run callerA [] t _ ⟨[.ref a], []⟩ [.ref a] [.ref a] _ _ rfl room env0 (bind t (.ref a)) (.cons rfl .nil) (wish _ only seq)) fun r s' z => ?_
  cases r with
  | error e => exact (noX _ e s' z).elim
  | ok fl =>
    cases fl with
    | next => exact z.elim
    | brk => exact z.elim
    | cont => exact z.elim
    | ret u =>
      obtain ⟨v, H', os, bare, un, held', rv, q⟩ := z
      cases (show v = .bl true from q)
      cases (show u = Value.bool true from rv)
      refine ⟨rfl, OldK.of_keep fun b o e => ?_, os, bare⟩
      cases c : scrH K a us ns b with
      | none => exact un.keep b o e c (fun z => absurd (show b ∈ ([] : List Addr) from z) (by simp)) (by simp)
      | some u2 =>
        obtain ⟨rfl, _, rfl⟩ := scrH_some c
        obtain ⟨e2, _⟩ := held' _ _ (un.frzs _ _ _ c)
        rw [at_a] at e
        cases e
        exact e2
theorem walkG {l : PySem.W.OpenLaw} {n k : Nat} {q : Program} {loose : List Str} {XP : (Str → Option Value) → Heap → Prop} {YP : World → Heap → Prop} {d : DefRec} {K : Params → PySem.W.Frag} {sp : PySem.W.Frag → Sp} {x : Str}
    (most : l.most = some n) (few : n ≤ sizeLine) (plain : d.params.defaults = []) (room : Room k callerA) (ky : ∀ (w : World) (h : Heap), YP w h → (K w.params).In h)
    (F : ∀ (w : World) (mg : Str → Option Value) (fa : Addr) (h : Heap), (K w.params).In h → h.Ns mainGlobals mg → mg d.name = some (.ref fa) → ∃ fd : FuncData, (∀ (s : Shared) (u : Value), BindsTo s fd ⟨[u], []⟩ [(x, u)]) ∧
      ∀ base : Heap, (K w.params).In base → base.Ns mainGlobals mg → FnG l.prog w (K w.params) mg base CX0 k fa fd [x] (sp (K w.params)))
    (wish : ∀ (K : PySem.W.Frag) (H : Hp) (a : Addr) (ns : List Int), ns.length ≤ n → Only H → SqL K H a (ns.map V.int) → sp K [.ref a] H (fun v _ => v = .bl true) fun _ _ _ => False) :
    PySem.W.WalkO q loose XP YP l.row.toRowW d [] (fun f vs => PySem.call f vs) := by
  refine Att.attach_call most plain ?_
  intro w s0 t mg mb fa o pm cd doc a us ns G Y ho hd hcd hmg at_a isI many noG
  obtain ⟨fd, bind, ok⟩ := F w mg fa _ (ky w _ Y) G.T.g hmg
  exact lawG (ky w _ Y) G.T.g G.T.b G.T.builtins G.T.nolimit noG at_a isI (Nat.le_trans many few) room ok bind (fun H o1 o2 => wish (K w.params) H a ns many o1 o2) fun _ _ _ z => z.elim
end AL
set_option Elab.async false
set_option maxRecDepth 100000
set_option maxHeartbeats 2000000
/-! Own error classes of the program: what the top writes of them, as one Bool a class. -/
namespace AL
open PySem PySem.Spec PyProof.Rows L2
/-- all that is asked of an own error class, but its row -/
def errB (K : PySem.W.Frag) (C : Addr) (fs : List Str) : Bool :=
  decide (PySem.W.findIn K (.ref C) "__setattr__" = some (some (.builtin "object.__setattr__"))) && (decide (PySem.W.subIn K (.ref C) (.type "BaseException") = some true) && (decide (PySem.W.typeIn K (.ref C) = some (.type "type")) && (PySem.W.keepIn K (.ref C) &&
  (xfB K C && (decide (PySem.W.findIn K (.ref C) "__class__" = some (some (.builtin "object.__class__"))) && (decide (PySem.W.specialIn K (.builtin "object.__class__") "__get__" = some (some (.builtin "getset_descriptor.__get__"))) &&
  (decide (PySem.W.takesIn K (.builtin "object.__class__") = some true) && (decide (PySem.W.mroIn K C (.type "object") = some true) && fs.all fun f => decide (PySem.W.findIn K (.ref C) f = some none)))))))))
structure ErrT (K : PySem.W.Frag) (mg : Str → Option Value) (x : Str) (C : Addr) (fs : List Str) : Prop where
  oex : OexC K C
  xf : XfC K C
  ex : ExcC K C
  m : mg x = some (.ref C)
  no : ∀ f ∈ fs, PySem.W.findIn K (.ref C) f = some none
theorem errT_of {K : PySem.W.Frag} {mg : Str → Option Value} {x : Str} {C : Addr} {fs : List Str} {nm q : Str} {N : Addr} {bs bm : List Value} {sn : List Str} {sub : List Value} {ab : Bool} {col : Option Bool} {dd : Option Addr} {k0 k1 k2 k3 k5 : Option Value}
    (row : K.lookup C = some (excClassObj nm q C N bs bm true sn sub ab col dd k0 k1 k2 k3 k5 "ValueError.__new__")) (bmo : PySem.HandSPX.refsVE bm = true) (m : mg x = some (.ref C)) (b : errB K C fs = true) : ErrT K mg x C fs := by
  unfold errB at b
  simp only [Bool.and_eq_true, decide_eq_true_eq, List.all_eq_true] at b
  obtain ⟨b1, b2, b3, b4, b5, b6, b7, b8, b9, b10⟩ := b
  have X := xfB_ok b5
  exact ⟨⟨⟨_, _, _, _, _, _, _, _, _, _, _, _, _, _, _, row, bmo⟩, b1, b2, b3, b4⟩, X, ⟨X.ga, X.gg, b2, X.hdC, b6, b7, b8, b9⟩, m, b10⟩
/-- its own __init__ -/
structure IniT (K : PySem.W.Frag) (qual : Str) (st : Stmt) (ps : List Str) (C fI : Addr) (fd : FuncData) : Prop where
  F : Fun K "__init__" qual st fI fd
  b : Binds K fd ps []
  fi : PySem.W.findIn K (.ref C) "__init__" = some (some (.ref fI))
  ti : PySem.W.typeIn K (.ref fI) = some (.type "function")
/-- __init__(self, f1, ..): the fields are stored -/
def spIni (C : Addr) (fs : List Str) : Sp := fun vs H Q _ => ∃ (a : Addr) (ys : List V), vs = .ref a :: ys ∧ ys.length = fs.length ∧ H a = some (exo a C none) ∧
  ∀ (dx : Addr) (H' : Hp), H dx = none → dx ≠ a → H' a = some (exo a C (some dx)) → H' dx = some (exd dx (fs.zip ys).reverse) → (∀ b, b ≠ a → b ≠ dx → H' b = H b) → Q .non H'
/-- an error of the class at C stands at e -/
def EV (H : Hp) (e C : Addr) : Prop := (∃ dx fs, H e = some (exo e C (some dx)) ∧ H dx = some (exd dx fs)) ∨ H e = some (ExO (.ref C) e)
theorem EV.same {H H' : Hp} {e C : Addr} (h : EV H e C) (s : Same H H') : EV H' e C := by
  rcases h with ⟨dx, fs, h1, h2⟩ | h
  · exact .inl ⟨dx, fs, s _ _ h1, s _ _ h2⟩
  · exact .inr (s _ _ h)
theorem vi_eq {i j : Nat} (h : decide (V.int (i : Int) = V.int (j : Int)) = true) : i = j := by
  have z := of_decide_eq_true h
  injection z with z
  omega
theorem vi_ne {i j : Nat} (h : ¬ decide (V.int (i : Int) = V.int (j : Int)) = true) : i ≠ j := fun e => h (by subst e; exact decide_eq_true rfl)
end AL
set_option Elab.async false
set_option maxRecDepth 100000
set_option maxHeartbeats 4000000
/-! Own errors raised, and caught by several clauses with a name each. -/
namespace AL
open PySem PySem.Spec PyProof.Rows L2
theorem pa_mono {X : Cx} {es : List Expr} {ta : TA} (h : PA X es ta) : PA X es (fun σ H K => ∃ K0 : List V → Hp → Prop, ta σ H K0 ∧ ∀ vs H', K0 vs H' → K vs H') :=
  ⟨fun pos pins s σ H K I ⟨K0, z, i⟩ => thn (h.run pos pins s σ H K0 I z) fun _ _ ⟨vs, H', J, r, q⟩ => ⟨vs, H', J, r, i vs H' q⟩⟩
/-- a weaker reading of what makes an exception -/
theorem pmk_imp {X : Cx} {e : Expr} {t u : L2.St → Hp → XK → Prop} (h : PMk X e t) (i : ∀ σ H Q, u σ H Q → t σ H Q) : PMk X e u := fun pins s σ H Q I z => h pins s σ H Q I (i σ H Q z)
/-- raise C(e, ..): the fields lie in the error's own dict -/
def tRaise (C : Addr) (fs : List Str) (W : WX) (ta : TA) : TS := fun _ σ H => ta σ H fun vs H1 => vs.length = fs.length ∧ ∀ d, H1 d = none → W (.ref C) (some d) σ (upd H1 d (.xd (fs.zip vs).reverse))
section
variable {X : Cx} {x : Str} {C fI : Addr} {fd : FuncData} {ps fs : List Str} {e : Expr} {es : List Expr} {ta : TA} {p pos pos2 : Pos} {k : Nat} {W : WX} {qual : Str} {st : Stmt}
theorem ps_raiseC (calm : X.calm = true) (tk : Takes X W) (T : ErrT X.K X.mg x C fs) (J : IniT X.K qual st ps C fI fd) (F : FnOk X.prog X.w X.K X.mg X.base CX0 k fI fd ps (spIni C fs)) (room : Room (k + 1) X.A) (few : fs.length ≤ 1000) (hg : Gl X x) (ha : PA X (e :: es) ta)
    (nd : (x == ("__debug__" : Str)) = false := by decide) (s1 : starEach (e :: es) X.env = (false, eval e X.env) :: starEach es X.env := by rfl) (s2 : (backTo pos (starEach es X.env)).any (·.1) = false := by rfl) :
    PS X (.Raise (some (.Call (.Name x p) (e :: es) [] pos)) none pos2) (tRaise C fs W ta) := by
  have out : Passes CX0 X fun _ _ _ => False := fun _ _ _ _ _ _ _ z => z.elim
  refine ps_raise (t := fun σ H Q => ta σ H fun vs H1 => vs.length = fs.length ∧ ∀ d, H1 d = none → Q (.ref C) (some d) (upd H1 d (.xd (fs.zip vs).reverse))) calm tk (pmk_imp (pmk_oex T.oex J.fi J.ti F room J.b .nil out hg T.m (pa_mono ha) nd s1 s2) ?_)
  intro σ H Q h
  refine ⟨_, h, ?_⟩
  rintro vs H1 ⟨many, q⟩
  refine ⟨by omega, fun a fresh => ?_⟩
  rw [List.append_nil]
  refine ⟨a, vs, rfl, many, upd_same, fun dx H' hd hne e1 e2 kp => ⟨rfl, dx, _, e1, e2, ?_, ?_⟩⟩
  · rw [upd_ne hne] at hd; exact hd
  · have hd1 : H1 dx = none := by rw [upd_ne hne] at hd; exact hd
    have same : upd (del H' a) dx (.xd (fs.zip vs).reverse) = upd H1 dx (.xd (fs.zip vs).reverse) := by
      funext b
      by_cases hb : b = dx
      · rw [hb, upd_same, upd_same]
      · rw [upd_ne hb, upd_ne hb]
        by_cases hba : b = a
        · rw [hba, del_same, fresh]
        · rw [del_ne hba, kp b hba hb, upd_ne hba]
    rw [same]
    exact q dx hd1
end
/-! ### try: .., except X as n: .., except Y as m: .. -/
/-- a clause: its class, its name's slot, its suite's reading -/
abbrev Cl := Value × Nat × (Addr → Value → Option Addr → TS)
/-- behind a suite its name is gone -/
def Ends.less (D : Ends) (i : Nat) : Ends := { nx := fun σ H => D.nx (σ.set i none) H, rt := D.rt, bk := fun σ H => D.bk (σ.set i none) H, ct := fun σ H => D.ct (σ.set i none) H }
def wNamed (K : PySem.W.Frag) (W0 : WX) (D : Ends) : List Cl → WX
  | [] => W0
  | (c, i, ts) :: r => fun cls d σ H => ∃ b, PySem.W.exmOne K cls c = some b ∧ (b = true → ∀ a, H a = none → ts a cls d (Ends.less D i) (σ.set i (some (.ref a))) H) ∧ (b = false → wNamed K W0 D r cls d σ H)
inductive Named (X : Cx) : List ExceptHandler → List Cl → Prop
  | nil : Named X [] []
  | cons {x n : Str} {c : Value} {i : Nat} {ts : Addr → Value → Option Addr → TS} {b0 : Stmt} {rest : List Stmt} {q1 q2 : Pos} {hd : List ExceptHandler} {l : List Cl} (cl : Names X x c) (sl : X.N[i]? = some n) (lo : X.env.kindOf n = some .local)
      (su : ∀ (a : Addr) (oe : Obj) (cls : Value) (d : Option Addr) (pn : List (Addr × Obj)), Zc cls d oe → (∃ vs, oe.data = .fields vs) → PSs (X.suite a ((a, oe) :: pn)) (b0 :: rest) (ts a cls d)) (r : Named X hd l) :
      Named X (.ExceptHandler (some (.Name x q1)) (some n) (b0 :: rest) q2 :: hd) ((c, i, ts) :: l)
section
variable {X : Cx} {body : List Stmt} {h0 : ExceptHandler} {hd : List ExceptHandler} {l : List Cl} {pos : Pos} {tb : WX → TS} {W0 : WX}
theorem ps_tryN (stk : X.stack = X.env :: X.outer) (frm : X.env.frame = some X.env.locals) (nd : X.N.Nodup) (tk : Takes X W0)
    (inner : ∀ (W : WX) (pn : List (Addr × Obj)) (xe : Value → Shared → Prop), Takes (X.tr pn xe) W → PassesOwn (model X.prog X.w) X.A X.env xe → PSs (X.tr pn xe) body (tb W)) (cls : Named X (h0 :: hd) l) :
    PS X (.Try body (h0 :: hd) [] [] pos) (fun D σ H => tb (wNamed X.K W0 D l) D σ H) := by
  constructor
  intro pins s σ H D I h
  have frames : X.A.frames = some (X.env :: X.outer) := by rw [I.ok.frames, stk]
  let back : Value → Shared → Prop := fun e t1 => wpAny (model X.prog X.w) X.A (noteFrame e X.env) (fun _ t2 => wpAny (model X.prog X.w) X.A (setFlight e none) (fun _ t3 => wpAny (model X.prog X.w) X.A (handleBy e X.env (h0 :: hd)) (SP X pins D) X.xe t3) X.xe t2) X.xe t1
  have caught : ∀ u t, XE (X.tr (X.pn ++ pins) back) (wNamed X.K W0 D l) u t → back u t := by
    rintro u t ⟨a, B, t0, pins0, σ1, H1, ec, ed, rfl, J0, ground, up, sky, fresh, oss, bare, wish⟩
    have J : Inv X pins σ1 H1 t0 := J0.ofTry I.ok
    have sky1 : Sky B (X.env :: X.outer) a (Zc ec ed) X.env.locals t.heap := by rw [← stk]; exact sky
    show wpAny (model X.prog X.w) X.A (noteFrame (.ref a) X.env) _ _ _
    refine Sky.land Zc.steady frames frm sky1 fun g3 fl3 up3 => ?_
    have J3 : Inv X pins σ1 H1 { t with heap := g3 } := J.landed ground fl3.1 (up.trans up3) oss bare
    obtain ⟨o3, v3, at3, z3, dat3⟩ := fl3.there
    have apart : a ∉ frs (X.env :: X.outer) := fun m => by
      obtain ⟨_, o', e', no⟩ := fl3.2.2.1.mem m
      rw [at3] at e'
      cases e'
      exact no _ dat3
    have notL : a ≠ X.env.locals := fun z => apart (List.mem_filterMap.mpr ⟨X.env, List.mem_cons_self, by rw [frm, z]⟩)
    have notF : a ∉ X.fs := fun m => by
      obtain ⟨en, hen, q⟩ := List.mem_filterMap.mp m
      exact apart (List.mem_filterMap.mpr ⟨en, List.mem_cons_of_mem _ hen, q⟩)
    have S3 := J3.suite at3 dat3 fresh notL notF
    suffices all : ∀ {hd' : List ExceptHandler} {l' : List Cl}, Named X hd' l' → wNamed X.K W0 D l' ec ed σ1 H1 → wpAny (model X.prog X.w) X.A (handleBy (.ref a) X.env hd') (SP X pins D) X.xe { t with heap := g3 } from all cls wish
    intro hd' l' nm
    induction nm with
    | nil =>
      intro w0
      refine wpAny_handleBy_nil ?_
      obtain ⟨_, _, _, oe, fv, T, oT, ts', he, hz, hdt, h1, _⟩ := id fl3
      unfold PySem.passOn
      refine wpAny_bind (wpAny_field he hdt h1 ?_)
      have notNone : ¬ ((Value.ref T == Value.none) = true) := by simp
      rw [if_neg notNone]
      have fly : wpAny (model X.prog X.w) X.A (setFlight (.ref a) X.env.frame) (fun _ t4 => wpAny (model X.prog X.w) X.A (throw (.ref a) : Sem Flow) (SP X pins D) X.xe t4) X.xe { t with heap := g3 } := by
        rw [frm]
        exact HandSPX.setFlight_upZ fl3 fun g4 held up4 => wpAny_throw (tk _ _ ⟨a, B, t0, pins, σ1, H1, ec, ed, rfl, J, ground, (up.trans up3).trans up4, .inr (.inr (by rw [stk]; exact held)), fresh, oss, bare, w0⟩)
      first
        | exact wpAny_bind (wpAny_pure (wpAny_bind fly))
        | exact wpAny_bind fly
    | @cons x n c i ts b0 rest q1 q2 hd2 l2 cl sl lo su r ih =>
      rintro ⟨b, isb, yes, no⟩
      refine wpAny_handleBy_cons (codeAny_handlers_test ?_) (by intro q; cases q)
      have LT : PySem.W.Looks (model X.prog X.w) g3 (typeOf (.ref a)) ec := fun A' Q' E' s' k' q' => wpAny_typeOf_ref (k' _ _ at3) (by rw [z3.1]; exact q')
      have LM := PySem.W.exm_one (M := model X.prog X.w) (J3.kIn) LT isb
      have asks : ∀ {Q' : Value → Shared → Prop} {E' : Value → Shared → Prop}, Q' c { t with heap := g3 } → wpAny (model X.prog X.w) (X.A.mark (some (.ref a))) (eval (.Name x q1) X.env) Q' E' { t with heap := g3 } := by
        intro Q' E' q'
        obtain ⟨gl, nodb, known⟩ := cl
        rcases known with hm | ⟨hm, hv, hnn⟩
        · exact ld_glob (X := X.suite a ((a, o3) :: (X.pn ++ pins))) S3 gl hm q' nodb
        · exact ld_blt (X := X.suite a ((a, o3) :: (X.pn ++ pins))) S3 gl hm hv q' hnn nodb
      refine asks (LM.here ?_)
      cases b with
      | false =>
        show wpAny _ X.A (handleBy (.ref a) X.env hd2) _ _ _
        exact ih (no rfl)
      | true =>
        refine codeAny_handlers_suite_as (HandSPX.lands_againZ fl3 fun g4 fl4 up4 => ?_)
        have J4 : Inv X pins σ1 H1 { t with heap := g4 } := J.landed ground fl4.1 ((up.trans up3).trans up4) oss bare
        obtain ⟨o4, v4, at4, z4, dat4⟩ := fl4.there
        have S4 := J4.suite at4 dat4 fresh notL notF
        refine store_ok (X := X.suite a ((a, o4) :: (X.pn ++ pins))) (v := .ref a) S4 nd sl (.inl lo) rfl (fun t5 S5 => ?_) (.inr lo)
        refine wpAny_mono ((su a o4 ec ed (X.pn ++ pins) z4 ⟨_, dat4⟩).run [] t5 _ H1 _ S5 (yes rfl a fresh)) (fun fl6 t6 sp6 => ?_) (fun _ _ z => False.elim z)
        have over : ∀ {σ6 : L2.St} {H6 : Hp} {Q6 : Shared → Prop}, Inv (X.suite a ((a, o4) :: (X.pn ++ pins))) [] σ6 H6 t6 → (∀ t7, Inv X pins (σ6.set i none) H6 t7 → Q6 t7) →
            wpAny (model X.prog X.w) X.A (do bindName X.env n .none; unbindBehindTheSuite X.env n q2) (fun _ t7 => Q6 t7) X.xe t6 := fun S6 q6 => gone_ok (S6.unsuite I.ok) nd sl lo q6
        cases fl6 with
        | next => obtain ⟨σ6, H6, S6, q6⟩ := sp6; exact over S6 fun t7 J7 => ⟨_, _, J7, q6⟩
        | brk => obtain ⟨σ6, H6, S6, q6⟩ := sp6; exact over S6 fun t7 J7 => ⟨_, _, J7, q6⟩
        | cont => obtain ⟨σ6, H6, S6, q6⟩ := sp6; exact over S6 fun t7 J7 => ⟨_, _, J7, q6⟩
        | ret u => obtain ⟨v6, σ6, H6, S6, r6, q6⟩ := sp6; exact over S6 fun t7 J7 => ⟨_, _, _, J7, r6, q6⟩
  refine wpAny_Try_except (wpAny_mono ((inner (wNamed X.K W0 D l) (X.pn ++ pins) back caught PassesOwn.looking).run [] s σ H D (I.toTry _) h) (fun fl t sp => ?_) (fun _ _ z => z))
  cases fl with
  | next => obtain ⟨σ', H', J', q⟩ := sp; exact wpAny_execs_nil ⟨σ', H', J'.ofTry I.ok, q⟩
  | brk => obtain ⟨σ', H', J', q⟩ := sp; exact ⟨σ', H', J'.ofTry I.ok, q⟩
  | cont => obtain ⟨σ', H', J', q⟩ := sp; exact ⟨σ', H', J'.ofTry I.ok, q⟩
  | ret u => obtain ⟨v, σ', H', J', r, q⟩ := sp; exact ⟨v, σ', H', J'.ofTry I.ok, r, q⟩
end
/-- isinstance(e, c) in the suite, e the error with its own dict -/
def rIsS (K : PySem.W.Frag) (a C dx : Addr) : List V → Hp → VK → Prop := fun vs H Q => ∃ (c : V) (u : Value) (b : Bool), vs = [.ref a, c] ∧ ClsV c u ∧ (∃ fs, H dx = some (.xd fs)) ∧ PySem.W.kitOne K (.ref C) u = some b ∧ Q (.bl b) H
theorem call_isS {X : Cx} {a C dx : Addr} {oe : Obj} {pn : List (Addr × Obj)} (T : ExcC X.K C) (hz : Zc (.ref C) (some dx) oe) (hf : ∃ vs, oe.data = .fields vs) : CallR (X.suite a ((a, oe) :: pn)) (.builtin "isinstance") (rIsS X.K a C dx) := by
  intro pins s σ H vs us Q I r h
  obtain ⟨c, u, b, rfl, kc, ⟨fs, hd⟩, e, q⟩ := h
  obtain ⟨u1, u2, rfl, r1, r2⟩ := vals2 r
  cases (show u1 = Value.ref a from r1)
  cases kc.eq r2
  obtain ⟨here, _⟩ := I.pin (a, oe) (List.mem_append.mpr (.inl List.mem_cons_self))
  obtain ⟨fv, hv⟩ := hf
  have at_d : ObjOk X.prog X.w H s.heap dx (.xd fs) := I.hok dx _ hd
  obtain ⟨mA, hns, _⟩ := at_d
  obtain ⟨od, ho, _⟩ := lookIn_ns hns
  have J : PySem.W.InstAt s.heap a oe C (some od) := ⟨here, hz.1, by unfold PySem.W.notCls; rw [hv] <;> rfl, by rw [hz.2]; exact ho⟩
  exact PySem.W.kia_one (al_kitx T) I.kIn J e (fun z => nomatch z) fun tk => ⟨.bl b, H, I.kept (t' := tk) fun _ _ z => z, rfl, q⟩
end AL
set_option Elab.async false
set_option maxRecDepth 100000
set_option maxHeartbeats 4000000
/-! isinstance of a caught own error, its class told where it is read. -/
namespace AL
open PySem PySem.Spec PyProof.Rows L2
def rIsC (K : PySem.W.Frag) (a C : Addr) (cls : Value) (d : Option Addr) : List V → Hp → VK → Prop := fun vs H Q => cls = .ref C ∧ ∃ (dx : Addr), d = some dx ∧ rIsS K a C dx vs H Q
theorem call_isC2 {X : Cx} {a C : Addr} {cls : Value} {d : Option Addr} {oe : Obj} {pn : List (Addr × Obj)} (T : ExcC X.K C) (hz : Zc cls d oe) (hf : ∃ vs, oe.data = .fields vs) : CallR (X.suite a ((a, oe) :: pn)) (.builtin "isinstance") (rIsC X.K a C cls d) := by
  intro pins s σ H vs us Q I r h
  obtain ⟨rfl, dx, rfl, h⟩ := h
  exact call_isS T hz hf pins s σ H vs us Q I r h
end AL
namespace AL
open PySem PySem.Spec PyProof.Rows L2
theorem op_eqS {X : Cx} {a : Addr} {oe : Obj} {pn : List (Addr × Obj)} (hu : X.A.units + 64 < cLine) : OpR (X.suite a ((a, oe) :: pn)) (compareOp .Eq) (rEqD X.K) := op_eqD hu
end AL
set_option Elab.async false
set_option maxRecDepth 100000
set_option exponentiation.threshold 20000
set_option maxHeartbeats 4000000
/-! int(text) and str(int) of up to 4,300 digits, // of ints of any size. -/
namespace PySem
open PySem.W PySem.Calls PySem.NumText PyProof.Rows
theorem al_wp_text {M : Model} {A : Around} {E : Value → Shared → Prop} {s : Shared} {Q : Value → Shared → Prop} {v : Value} {x : Str} {n : Int} (nd : s.heap.NoDigits)
    (rd : (int_private% "readNumeral") (numLimitOf x) 10 (numSeenOf x) = (int_private% "Numeral.value") n) (whole : ((numSeenOf x).length == (numTextOf x).length) = true) (h : Q (.int n s.toks) { s with toks := s.toks + 1 }) :
    wpAny M A ((int_private% "intFromText") v (numTextOf x) 10) Q E s := by
  by_cases short : (numSeenOf x).length ≤ 640
  · have e : numLimitOf x = 0 := if_pos short
    rw [e] at rd
    exact PySem.W.KIN.wp_text short rd whole h
  · have e : numLimitOf x = 4300 := if_neg short
    rw [e] at rd
    obtain ⟨mc, hns, hnone⟩ := nd
    obtain ⟨hp, ge, dr, tk, os⟩ := s
    have lim : ∀ {Q' : Nat → Shared → Prop}, Q' 4300 ⟨hp, ge, dr, tk, os⟩ → wpAny M A Builtin.intMaxStrDigits Q' E ⟨hp, ge, dr, tk, os⟩ := by
      intro Q' q'
      unfold Builtin.intMaxStrDigits
      refine wpAny_bind (wpAny_nsGet hns ?_)
      rw [hnone]
      exact wpAny_pure q'
    repeat (any_goals (first
      | assumption
      | (with_reducible refine wpAny_ite_false (decide_eq_false short) ?_)
      | (with_reducible refine wpAny_ite_true (decide_eq_true whole) ?_)
      | (with_reducible refine lim ?_)
      | wp_step))
    all_goals (try rw [rd])
    all_goals (try dsimp only)
    repeat (any_goals (first
      | assumption
      | (with_reducible refine wpAny_ite_true (decide_eq_true whole) ?_)
      | wp_step))

theorem al_meets_text {x : PySem.Str} {u : Tok} {n : Int} (hx : x.length ≤ sizeLine) (hn : PySem.intText? x = some n) :
    Meets (Builtin.«int.__new__» ⟨[.type "int", .str x u], []⟩) (fun _ R s => s.heap.NoDigits ∧ R (.ok (.ret (.int n s.toks))) { s with toks := s.toks + 1 }) := by
  intro prog w A R s h
  have f1 := F.conv_sub_int
  have f2 := F.madeHere_int
  have f3 := PySem.W.KIN.str_int
  have f4 := PySem.W.KIN.str_idx
  have f5 := PySem.W.KIN.str_trunc
  have f6 : typeOf (.str x u) = pure (.type "str") := rfl
  have rd : (int_private% "readNumeral") (numLimitOf x) 10 (numSeenOf x) = (int_private% "Numeral.value") n ∧ ((numSeenOf x).length == (numTextOf x).length) = true := by
    rcases readAny x hx with ⟨m, h1, h2, h3⟩ | ⟨h1, _⟩
    · rw [hn] at h1
      cases h1
      exact ⟨h3, h2⟩
    · rw [hn] at h1
      cases h1
  have kept := PySem.W.KIN.Hid.mk (And.intro rd h)
  clear rd h hn hx
  obtain ⟨hp, ge, dr, tk, os⟩ := s
  repeat (any_goals (first
    | assumption
    | ((with_reducible show wpAny _ _ ((int_private% "intFromText") _ _ _) _ _ _); refine al_wp_text kept.out.2.1 kept.out.1.1 kept.out.1.2 ?_)
    | wp_step))
  all_goals first | exact kept.out.2.2 | skip
section
variable {prog : Program} {w : World} {A : Around} {E : Value → Shared → Prop} {s : Shared} {Q : Value → Shared → Prop} {x : PySem.Str} {t : Tok} {n : Int}
theorem al_call_text (nd : s.heap.NoDigits) (hx : x.length ≤ sizeLine) (hn : PySem.intText? x = some n) (h : Q (.int n s.toks) { s with toks := s.toks + 1 }) : wpAny (model prog w) A (call (.type "int") [.str x t]) Q E s :=
  call_int_1 (al_meets_text hx hn) ⟨nd, typeIs_int _ _ _, h⟩
end
end PySem
namespace AL
open PySem PySem.Spec PyProof.Rows L2
/-- the limit on digits is as it came -/
def digB (K : PySem.W.Frag) : Bool := decide (PySem.W.nsIn K cStatics "sys.int_max_str_digits" = some none)
theorem noDigits_of {K : PySem.W.Frag} {h : Heap} (X : K.In h) (lim : h.NoLimit) (b : digB K = true) : h.NoDigits := by
  obtain ⟨mc, ns, _⟩ := lim
  refine ⟨mc, ns, ?_⟩
  have e := of_decide_eq_true b
  obtain ⟨o, es, n, ho, hd, _, look⟩ := ns
  unfold PySem.W.nsIn at e
  split at e
  · rename_i c d es' n' sl at_
    have z := (X _ _ at_).symm.trans ho
    cases z
    cases hd
    split at e
    · cases e
    · rename_i none_
      rw [← look]
      unfold nsFind findBy
      rw [← Array.find?_toList, none_]; rfl
  · cases e
section
variable {X : Cx} {k : Nat}
theorem call_int_strL (b : digB X.K = true) : CallR X (.type "int") (fun xs H Q => ∃ a n, xs = [.str a] ∧ PySem.intText? a = some n ∧ a.length ≤ sizeLine ∧ Q (.int n) H) := by
  intro pins s σ H xs us Q I r h
  obtain ⟨a, n, rfl, hn, hl, q⟩ := h
  obtain ⟨u, rfl, t, rfl⟩ := vals1 r
  exact al_call_text (noDigits_of I.kIn I.nolimit b) hl hn ⟨.int n, H, I.tok _, ⟨_, rfl⟩, q⟩
theorem call_str_intL (hd : X.A.handled = none) (b : digB X.K = true) : CallR X (.type "str") (fun xs H Q => ∃ i, xs = [.int i] ∧ i.natAbs < 10 ^ 4300 ∧ Q (.str (toString i)) H) := by
  intro pins s σ H xs us Q I r h
  obtain ⟨i, rfl, hz, q⟩ := h
  obtain ⟨u, rfl, t, rfl⟩ := vals1 r
  exact str_of_int_or hd (noDigits_of I.kIn I.nolimit b) (fun _ => ⟨.str _, H, I.tok _, ⟨_, rfl⟩, q⟩) (fun z => absurd hz (Nat.not_lt.mpr z))
/-- // of an int below 2 ^ 13500 by any divisor but 0 -/
def CDivB (i j : Int) : Prop := j ≠ 0 ∧ i.natAbs < 2 ^ 13500
theorem noPylong_big {i j : Int} (h : i.natAbs < 2 ^ 13500) : Builtin.divisionGoesByPylong i j = false := by
  have hl : i.natAbs.log2 < 13500 := log2_small (by decide) h
  have key : ((if j == 0 then 0 else j.natAbs.log2 / 30 + 1) > 300) → ¬ ((if i == 0 then 0 else i.natAbs.log2 / 30 + 1) > (if j == 0 then 0 else j.natAbs.log2 / 30 + 1) + 150) := by
    intro h1 h2
    split at h2 <;> omega
  show (decide ((if j == 0 then 0 else j.natAbs.log2 / 30 + 1) > 300) && decide ((if i == 0 then 0 else i.natAbs.log2 / 30 + 1) > (if j == 0 then 0 else j.natAbs.log2 / 30 + 1) + 150)) = false
  by_cases h1 : (if j == 0 then 0 else j.natAbs.log2 / 30 + 1) > 300
  · rw [decide_eq_false (key h1), Bool.and_false]
  · rw [decide_eq_false h1, Bool.false_and]
theorem op_fdivB : OpR X (binaryOp .FloorDiv) (rI CDivB fun i j => .int (i.fdiv j)) := by
  intro pins s σ H x y v u Q I rx ry h
  obtain ⟨i, j, rfl, rfl, ⟨hj, hi⟩, q⟩ := h
  obtain ⟨t, rfl⟩ := rx
  obtain ⟨t', rfl⟩ := ry
  exact floordiv_int hj ⟨.int _, H, I.tok _, ⟨_, rfl⟩, q⟩ (.inl (noPylong_big hi))
end
end AL
set_option Elab.async false
set_option maxRecDepth 100000
set_option exponentiation.threshold 70000
set_option maxHeartbeats 4000000
/-! {i} of an int up to 4,300 digits; // where one side is small. -/
namespace PySem
open PySem.W PySem.Calls PySem.NumText PyProof.Rows PySem.Builtin PySem.Builtin.Int
theorem al_repr_at {a : Int} {t : Tok} (h : a.natAbs < 10 ^ 4300) : GivesAt (fun s => s.heap.NoDigits) (Builtin.«int.__repr__» ⟨[.int a t], []⟩) (.str (toString a)) := by
  intro prog w A R s hn hq
  unfold Builtin.«int.__repr__»
  show wpAny _ _ (do let r ← Builtin.overDigitLimit? a; _) _ _ s
  refine wpAny_bind (overDigitLimit_any hn (fun hlt => ?_) (fun hge => absurd h (Nat.not_lt.mpr hge)))
  exact wpAny_bind (wpAny_mkStr (wpAny_pure hq.2) (int_text_fits10 hlt))
theorem al_format_at {a : Int} {t u : Tok} (h : a.natAbs < 10 ^ 4300) : GivesAt (fun s => s.heap.NoDigits) (Builtin.«int.__format__» ⟨[.int a t, .str Str.empty u], []⟩) (.str (toString a)) := by
  intro prog w A R s hn hq
  show wpAny _ _ (do let _kind ← typeNameOf (.str Str.empty u); (do rule "int.format.empty"; again (.builtin "int.__repr__" ⟨[.int a t], []⟩))) _ _ s
  refine wpAny_bind (wpAny_typeNameOf (typeIs_str s _ _) (by decide) fun n => wpAny_bind (wpAny_rule ?_))
  exact wpAny_pure ⟨plainId_quiet (by decide +kernel) _, codeAny_builtin F.entry_int_repr (by rw [Around.under_plainId (by decide +kernel)]; exact al_repr_at h prog w A R s hn hq)⟩
section
variable {w : World} {prog : Program} {s : Shared} {E Q : Value → Shared → Prop} {A : Around} {i : Int} {t : Tok}
theorem al_formatField (free : s.heap.NoDigits) (short : i.natAbs < 10 ^ 4300) (goal : Q (.str (toString i) (s.toks + 1)) { s with toks := s.toks + 1 + 1 }) : wpAny (model prog w) A (formatField (.int i t) Str.empty) Q E s := by
  have text : ∀ s' : Shared, s'.TypeIs (.int i t) "int" := fun s' => typeIs_int s' i t
  refine (wpAny_holding ?_ : wpAny (model prog w) A (holding [.int i t] (pyFormat (.int i t) Str.empty)) Q E s)
  unfold pyFormat
  refine wpAny_bind (wpAny_mkStr (wpAny_bind (m := callSpecial? (.int i t) (Str.ofString "__format__") [.str Str.empty s.toks]) (wpAny_callSpecial?_slot (name := Str.ofString "__format__") (text _) F.slot_int_format
    (call_givesAt F.slot_int_format (text _) F.entry_int_format (F.args_int_format_2 _ _) (al_format_at short) free ⟨int_text_fits10 short, ?_⟩))) (by decide))
  exact (wpAny_bind (wpAny_isInstance (typeIs_str _ _ _) isSubtype_str_str (wpAny_pure goal)) : wpAny (model prog w) A (do if ← isInstance (.str (toString i) (s.toks + 1)) (.type "str") then return (.str (toString i) (s.toks + 1)) else _) Q E _)
end
end PySem
namespace AL
open PySem PySem.Spec PyProof.Rows L2
section
variable {X : Cx}
/-- {i}, i an int -/
def tFmtL (te : TE) : TE := fun σ H Q => te σ H fun x H1 => (∃ y : Str, x = .str y ∧ y.length ≤ sizeLine ∧ Q (.str y) H1) ∨ ∃ i : Int, x = .int i ∧ i.natAbs < 10 ^ 4300 ∧ Q (.str (toString i)) H1
theorem pe_fmtL {e : Expr} {te : TE} {pos : Pos} (b : digB X.K = true) (he : PE X e te) : PE X (.FormattedValue e (-1) none pos) (tFmtL te) := by
  refine ⟨fun pins s σ H Q I h => ?_⟩
  refine wpAny_FormattedValue_plain (thn (he.run pins s σ H _ I h) fun v s1 hv => ?_)
  obtain ⟨x, H1, I1, r1, q⟩ := hv
  rcases q with ⟨y, rfl, hz, q⟩ | ⟨i, rfl, hz, q⟩
  · obtain ⟨t, rfl⟩ := r1
    exact wpAny_formatField_str ⟨.str y, H1, I1, ⟨t, rfl⟩, q⟩ ⟨.str y, H1, I1.tok _, ⟨_, rfl⟩, q⟩ hz
  · obtain ⟨t, rfl⟩ := r1
    exact al_formatField (noDigits_of I1.kIn I1.nolimit b) hz ⟨.str (toString i), H1, I1.tok _, ⟨_, rfl⟩, q⟩
/-- //: the dividend below 2 ^ 13500, or the divisor below 2 ^ 8000 -/
def CDivC (i j : Int) : Prop := j ≠ 0 ∧ (i.natAbs < 2 ^ 13500 ∨ j.natAbs < 2 ^ 8000)
theorem noPylong_low {i j : Int} (h : j.natAbs < 2 ^ 8000) : Builtin.divisionGoesByPylong i j = false := by
  have hl : j.natAbs.log2 < 8000 := log2_small (by decide) h
  have key : ¬ ((if j == 0 then 0 else j.natAbs.log2 / 30 + 1) > 300) := by
    split <;> omega
  show (decide ((if j == 0 then 0 else j.natAbs.log2 / 30 + 1) > 300) && decide ((if i == 0 then 0 else i.natAbs.log2 / 30 + 1) > (if j == 0 then 0 else j.natAbs.log2 / 30 + 1) + 150)) = false
  rw [decide_eq_false key, Bool.false_and]
theorem op_fdivC : OpR X (binaryOp .FloorDiv) (rI CDivC fun i j => .int (i.fdiv j)) := by
  intro pins s σ H x y v u Q I rx ry h
  obtain ⟨i, j, rfl, rfl, ⟨hj, hi⟩, q⟩ := h
  obtain ⟨t, rfl⟩ := rx
  obtain ⟨t', rfl⟩ := ry
  rcases hi with hi | hi
  · exact floordiv_int hj ⟨.int _, H, I.tok _, ⟨_, rfl⟩, q⟩ (.inl (noPylong_big hi))
  · exact floordiv_int hj ⟨.int _, H, I.tok _, ⟨_, rfl⟩, q⟩ (.inl (noPylong_low hi))
end
end AL
set_option Elab.async false
set_option maxRecDepth 100000
set_option exponentiation.threshold 70000
set_option maxHeartbeats 4000000
/-! Texts as rows of codes: slices, prefixes, repeated texts, tuple(text). -/
namespace AL
open PySem PySem.Spec PyProof.Rows L2
abbrev S (l : List Nat) : Str := ⟨l.toArray⟩
theorem S_of (z : Str) : ∃ l, z = S l := ⟨z.cps.toList, by cases z; rfl⟩
theorem S_len (l : List Nat) : (S l).length = l.length := by simp [S, Str.length]
theorem S_tl (l : List Nat) : (S l).cps.toList = l := rfl
theorem S_inj {a b : List Nat} : S a = S b ↔ a = b := ⟨fun h => congrArg (fun x : Str => x.cps.toList) h, fun h => by rw [h]⟩
theorem cut_mid (l : List Nat) (i j : Nat) : cutS (S l) (some (i : Int)) (some (j : Int)) = S ((l.take j).drop i) := by
  unfold cutS
  rw [HT.sIx_nat, HT.sIx_nat, S_len]
  refine S_inj.mpr ?_
  show (l.drop (min i l.length)).take (min j l.length - min i l.length) = _
  rw [← List.drop_take]
  have e1 : l.take (min j l.length) = l.take j := by
    refine (List.take_eq_take_iff).mpr ?_
    omega
  rw [e1]
  by_cases h : i ≤ l.length
  · rw [Nat.min_eq_left h]
  · rw [Nat.min_eq_right (by omega), List.drop_eq_nil_of_le (by rw [List.length_take]; omega), List.drop_eq_nil_of_le (by rw [List.length_take]; omega)]
theorem cut_to (l : List Nat) (j : Nat) : cutS (S l) none (some (j : Int)) = S (l.take j) := by
  have e := cut_mid l 0 j
  have z : HT.sIx (S l).length 0 none = HT.sIx (S l).length 0 (some ((0 : Nat) : Int)) := by rw [HT.sIx_nat]; simp [HT.sIx]
  unfold cutS at e ⊢
  rw [z, e, List.drop_zero]
theorem minusS : ("-" : Str) = S [45] := by kernel_rfl
theorem slashS : ("/" : Str) = S [47] := by kernel_rfl
theorem emptyS : ("" : Str) = S [] := by kernel_rfl
theorem digitsS : ("0123456789" : Str) = S [48, 49, 50, 51, 52, 53, 54, 55, 56, 57] := by kernel_rfl
/-- whether a row of codes begins with a minus -/
def neg (l : List Nat) : Bool := decide (l[0]? = some 45)
theorem starts_minus (l : List Nat) : Txt.startswith (S l) "-" = neg l := by
  rw [minusS]
  unfold Txt.startswith neg
  rw [StrLaws.subAt_eq, S_len, S_len, S_tl, S_tl]
  cases l with
  | nil => rfl
  | cons c l =>
    by_cases h : c = 45
    · subst h; simp
    · simp [h]
theorem strip_minus {l : List Nat} (h : ∀ c, (l.drop (neg l).toNat)[0]? = some c → c ≠ 45) : Txt.lstripChars (S l) "-" = S (l.drop (neg l).toNat) := by
  rw [minusS]
  have key : ∀ m : List Nat, (∀ c, m[0]? = some c → c ≠ 45) → m.takeWhile ((S [45]).cps.contains) = [] := by
    intro m hm
    cases m with
    | nil => rfl
    | cons c m =>
      have : c ≠ 45 := hm c rfl
      have z : ((S [45]).cps.contains c) = false := by
        show (#[45] : Array Nat).contains c = false
        simp [this]
      rw [List.takeWhile_cons, z]; rfl
  unfold Txt.lstripChars Txt.stripBy
  cases l with
  | nil => rfl
  | cons c l =>
    by_cases hc : c = 45
    · subst hc
      have hn : neg (45 :: l) = true := by simp [neg]
      rw [hn] at h ⊢
      have hk := key l (fun d e => h d e)
      have lo : stripLo ((S [45]).cps.contains) true (S (45 :: l)) = 1 := by
        show ((45 :: l).takeWhile _).length = 1
        rw [List.takeWhile_cons, show ((S [45]).cps.contains 45) = true by show (#[45] : Array Nat).contains 45 = true; simp, if_pos rfl, hk]; rfl
      have ne : stripSame ((S [45]).cps.contains) true false (S (45 :: l)) = false := by
        unfold stripSame
        rw [lo]; rfl
      rw [ne, if_neg (by decide)]
      unfold stripped
      rw [lo]
      show Builtin.Str.strSub (S (45 :: l)) 1 (S (45 :: l)).length = S l
      rw [S_len, strSub_mk]
      refine S_inj.mpr ?_
      show List.take _ ((45 :: l).drop 1) = l
      simp
    · have hn : neg (c :: l) = false := by simp [neg, hc]
      rw [hn] at h ⊢
      have hk := key (c :: l) (fun d e => by simp at e; rw [← e]; exact hc)
      have same : stripSame ((S [45]).cps.contains) true false (S (c :: l)) = true := by
        unfold stripSame
        have lo : stripLo ((S [45]).cps.contains) true (S (c :: l)) = 0 := by
          show ((c :: l).takeWhile _).length = 0
          rw [hk]; rfl
        rw [lo]
        simp [stripHi]
      rw [same, if_pos rfl]
      rfl
theorem pair_ix {α β : Type} {F : α → β → Prop} : ∀ {xs : List α} {ys : List β}, xs.length = ys.length → (∀ (j : Nat) x y, xs[j]? = some x → ys[j]? = some y → F x y) → Paired F xs ys
  | [], [], _, _ => .nil
  | [], _ :: _, h, _ => by cases h
  | _ :: _, [], h, _ => by cases h
  | x :: xs, y :: ys, h, k => .cons (k 0 x y rfl rfl) (pair_ix (Nat.succ.inj h) fun j a b e f => k (j + 1) a b e f)
/-! ### the rules -/
section
variable {X : Cx}
/-- z * k, z a short text -/
theorem op_mulS : OpR X (binaryOp .Mult) (fun x y H Q => ∃ (z : Str) (k : Nat), x = .str z ∧ y = .int (k : Int) ∧ z.length ≤ 10 ∧ k ≤ 10000 ∧ ∀ z' : Str, z'.length ≤ z.length * k → Q (.str z') H) := by
  intro pins s σ H x y v u Q I rx ry h
  obtain ⟨z, k, rfl, rfl, hz, hk, q⟩ := h
  obtain ⟨t, rfl⟩ := rx
  obtain ⟨t', rfl⟩ := ry
  have hfit : z.length * k ≤ 100000 := Nat.le_trans (Nat.mul_le_mul hz hk) (by decide)
  refine SB.mul ⟨?_, fun h1 _ => ?_, fun _ _ => ?_⟩ fun tk n => ⟨.str _, H, I.tok _, ⟨_, rfl⟩, q _ ?_⟩
  · rw [Bool.or_eq_false_iff]
    exact ⟨decide_eq_false (by omega), decide_eq_false (by omega)⟩
  · have hk0 : 0 < (k : Int) := by omega
    have : ((2 : Int) ^ 63 - 1) / (k : Int) ≥ 10 := by
      rw [ge_iff_le, Int.le_ediv_iff_mul_le hk0]
      have : (10 : Int) * k ≤ 100000 := by omega
      exact Int.le_trans this (by decide)
    omega
  · unfold Builtin.Str.tooLong
    rw [Int.toNat_natCast]
    refine decide_eq_false (Nat.not_lt.mpr (Nat.le_trans hfit (by decide)))
  · unfold Txt.mul
    split
    · exact Nat.zero_le _
    · split
      · rename_i h1 h2
        have hk1 : 1 ≤ k := by omega
        exact Nat.le_mul_of_pos_right _ hk1
      · rw [Int.toNat_natCast]
        have key : ∀ (n : Nat) (acc : Array Nat), ((List.replicate n z.cps).foldl (· ++ ·) acc).size = acc.size + n * z.cps.size := by
          intro n
          induction n with
          | zero => intro acc; simp
          | succ n ih => intro acc; rw [List.replicate_succ, List.foldl_cons, ih, Array.size_append, Nat.succ_mul]; omega
        show ((List.replicate k z.cps).foldl (· ++ ·) #[]).size ≤ z.length * k
        rw [key, Nat.mul_comm k]
        show 0 + z.cps.size * k ≤ z.cps.size * k
        omega
/-- tuple(text) -/
theorem call_tuple_text (hh : X.A.handled = none) : CallR X (.type "tuple") (fun xs H Q => ∃ l : List Nat, xs = [.str (S l)] ∧ l.length ≤ sizeLine ∧ ∀ p, H p = none → Q (.ref p) (upd H p (.tup (l.map fun c => V.str (S [c]))))) := by
  intro pins s σ H xs us Q I r h
  obtain ⟨l, rfl, hl, q⟩ := h
  obtain ⟨u, rfl, t, rfl⟩ := vals1 r
  have hsz : (S l).cps.size = l.length := by simp [S]
  refine call_tuple_str hh _ _ (fun h' tk acc kp it => ?_) (by rw [hsz]; exact hl)
  have gone : s.heap.get? h'.objs.size = none := by
    cases e : s.heap.get? h'.objs.size with
    | none => rfl
    | some o =>
      have z := kp _ _ e
      rw [Heap.get?_none_of_le (Nat.le_refl _)] at z
      cases z
  have fresh : H h'.objs.size = none := I.hok.gone gone
  have vals : Vals (l.map fun c => V.str (S [c])) acc.toList := by
    obtain ⟨i1, i2⟩ := it
    rw [hsz] at i1
    refine pair_ix (by rw [List.length_map]; exact i1.symm.trans Array.length_toList.symm) fun j x y hx hy => ?_
    rw [List.getElem?_map] at hx
    rw [Array.getElem?_toList] at hy
    obtain ⟨c, u, e1, e2⟩ := i2 j y hy
    have e1' : l[j]? = some c := by simpa [S] using e1
    rw [e1'] at hx
    cases hx
    exact ⟨u, e2⟩
  have I2 : Inv X pins σ (upd H h'.objs.size (.tup (l.map fun c => V.str (S [c])))) { s with heap := h'.push { cls := .type "tuple", data := .seq acc }, toks := tk } :=
    I.laidN (t' := tk) (fun b o e => Heap.get?_push_of_some _ (kp b o e)) gone fresh (show ObjOk X.prog X.w _ _ _ (.tup _) from ⟨by rw [List.length_map]; exact hl, acc.toList, vals, by
      rw [show acc.toList.toArray = acc by simp]; exact IsTup.new _ _⟩)
  exact ⟨.ref h'.objs.size, _, I2, rfl, q _ fresh⟩
end
end AL
set_option Elab.async false
set_option maxRecDepth 100000
set_option exponentiation.threshold 70000
/-! What a text of a ratio is read as. -/
namespace AL
open PySem L2 PySem.NumText
def isD (c : Nat) : Bool := decide (48 ≤ c) && decide (c ≤ 57)
theorem isD_mem (c : Nat) : isD c = decide (c ∈ [48, 49, 50, 51, 52, 53, 54, 55, 56, 57]) := by
  unfold isD
  by_cases h : 48 ≤ c ∧ c ≤ 57
  · have : c ∈ [48, 49, 50, 51, 52, 53, 54, 55, 56, 57] := by simp; omega
    simp [h.1, h.2, this]
  · have : ¬ c ∈ [48, 49, 50, 51, 52, 53, 54, 55, 56, 57] := by simp; omega
    simp [this]; omega
/-- where the digits that begin at i end -/
def dEnd (l : List Nat) (i : Nat) : Nat := i + ((l.drop i).takeWhile isD).length
theorem dEnd_ge (l : List Nat) (i : Nat) : i ≤ dEnd l i := Nat.le_add_right _ _
theorem tw_le {p : Nat → Bool} : ∀ l : List Nat, (l.takeWhile p).length ≤ l.length
  | [] => Nat.le_refl _
  | c :: l => by
    rw [List.takeWhile_cons]
    split
    · exact Nat.succ_le_succ (tw_le l)
    · exact Nat.zero_le _
theorem tw_at {p : Nat → Bool} : ∀ (l : List Nat) (j : Nat) (c : Nat), j < (l.takeWhile p).length → l[j]? = some c → p c = true
  | [], j, c, h, _ => by cases h
  | d :: l, j, c, h, e => by
    rw [List.takeWhile_cons] at h
    split at h
    · rename_i hd
      cases j with
      | zero => cases e; exact hd
      | succ j => exact tw_at l j c (Nat.lt_of_succ_lt_succ h) e
    · cases h
theorem tw_end {p : Nat → Bool} : ∀ (l : List Nat) (c : Nat), l[(l.takeWhile p).length]? = some c → p c = false
  | [], c, e => by cases e
  | d :: l, c, e => by
    rw [List.takeWhile_cons] at e
    split at e
    · exact tw_end l c e
    · rename_i hd
      cases e
      exact Bool.eq_false_iff.mpr hd
theorem dEnd_le {l : List Nat} {i : Nat} (h : i ≤ l.length) : dEnd l i ≤ l.length := by
  have := tw_le (p := isD) (l.drop i)
  rw [List.length_drop] at this
  unfold dEnd; omega
theorem dEnd_in {l : List Nat} {i j c : Nat} (h0 : i ≤ j) (h : j < dEnd l i) (e : l[j]? = some c) : isD c = true := by
  refine tw_at (l.drop i) (j - i) c (by unfold dEnd at h; omega) ?_
  rw [List.getElem?_drop, show i + (j - i) = j by omega]
  exact e
theorem dEnd_out {l : List Nat} {i c : Nat} (e : l[dEnd l i]? = some c) : isD c = false := by
  refine tw_end (l.drop i) c ?_
  rw [List.getElem?_drop]
  exact e
/-- the row of digits from i on -/
def rowAt (l : List Nat) (i j : Nat) : List Nat := (l.take j).drop i
theorem rowAt_len {l : List Nat} {i j : Nat} (h : j ≤ l.length) : (rowAt l i j).length = j - i := by
  unfold rowAt
  rw [List.length_drop, List.length_take]; omega
theorem rowAt_digits {l : List Nat} {i : Nat} : AllDigits (rowAt l i (dEnd l i)) := by
  intro c hc
  obtain ⟨j, hj⟩ := List.mem_iff_getElem?.mp hc
  unfold rowAt at hj
  rw [List.getElem?_drop, List.getElem?_take] at hj
  split at hj
  · have := dEnd_in (Nat.le_add_right i j) (by assumption) hj
    unfold isD at this
    simpa using this
  · cases hj
inductive Res | text (c : Nat) | large (n : Nat) | ratio (p q : Int)
/-- the first sign's place behind a minus -/
def fst0 (l : List Nat) : Nat := if neg l = true then 1 else 0
def mid0 (l : List Nat) : Nat := dEnd l (fst0 l)
def end0 (l : List Nat) : Nat := dEnd l (mid0 l + 1)
def slash0 (l : List Nat) : Bool := decide (l[mid0 l]? = some 47)
def sgn (l : List Nat) (n : Int) : Int := if neg l = true then -n else n
def topV (l : List Nat) : Nat := digitsVal (rowAt l (fst0 l) (mid0 l))
def botV (l : List Nat) : Nat := digitsVal (rowAt l (mid0 l + 1) (end0 l))
def red (a b : Nat) : Int × Int := (((a / Nat.gcd a b : Nat) : Int), ((b / Nat.gcd a b : Nat) : Int))
def res (l : List Nat) : Res :=
  if mid0 l = fst0 l then .text (fst0 l + 1) else
  if slash0 l = true then
    if end0 l = mid0 l + 1 then .text (end0 l + 1) else
    if end0 l < l.length then .text (end0 l + 1) else
    if 4000 < mid0 l - fst0 l then .large (mid0 l - fst0 l) else
    if 4000 < end0 l - (mid0 l + 1) then .large (end0 l - (mid0 l + 1)) else
    if botV l = 0 then .text (mid0 l + 2) else .ratio (sgn l (red (topV l) (botV l)).1) (red (topV l) (botV l)).2
  else if mid0 l < l.length then .text (mid0 l + 1) else
    if 4000 < mid0 l - fst0 l then .large (mid0 l - fst0 l) else .ratio (sgn l (topV l)) 1
/-- the first wrong column, 0 if there is none -/
def wcol (l : List Nat) : Nat :=
  if mid0 l = fst0 l then fst0 l + 1 else
  if slash0 l = true then if end0 l = mid0 l + 1 ∨ end0 l < l.length then end0 l + 1 else 0
  else if mid0 l < l.length then mid0 l + 1 else 0
theorem fst0_le (l : List Nat) : fst0 l ≤ l.length := by
  unfold fst0 neg
  cases l with
  | nil => decide
  | cons c l => split <;> simp
theorem mid0_le (l : List Nat) : mid0 l ≤ l.length := dEnd_le (fst0_le l)
theorem fst_mid (l : List Nat) : fst0 l ≤ mid0 l := dEnd_ge _ _
theorem slash_lt {l : List Nat} (h : slash0 l = true) : mid0 l < l.length := by
  have := of_decide_eq_true h
  exact (List.getElem?_eq_some_iff.mp this).1
theorem end0_le {l : List Nat} (h : slash0 l = true) : end0 l ≤ l.length := dEnd_le (slash_lt h)
theorem res_bad {l : List Nat} (h : 0 < wcol l) : res l = .text (wcol l) := by
  unfold wcol at h ⊢
  unfold res
  by_cases h1 : mid0 l = fst0 l
  · rw [if_pos h1, if_pos h1]
  · rw [if_neg h1] at h ⊢
    rw [if_neg h1]
    by_cases h2 : slash0 l = true
    · rw [if_pos h2] at h ⊢
      rw [if_pos h2]
      by_cases h3 : end0 l = mid0 l + 1
      · rw [if_pos h3, if_pos (.inl h3)]
      · rw [if_neg h3]
        by_cases h4 : end0 l < l.length
        · rw [if_pos h4, if_pos (.inr h4)]
        · rw [if_neg (by omega)] at h
          omega
    · rw [if_neg h2] at h ⊢
      rw [if_neg h2]
      by_cases h4 : mid0 l < l.length
      · rw [if_pos h4, if_pos h4]
      · rw [if_neg h4] at h
        omega
/-- a text without a wrong column -/
theorem wcol0 {l : List Nat} (h : wcol l = 0) : fst0 l < mid0 l ∧ ((slash0 l = true ∧ mid0 l + 1 < end0 l ∧ end0 l = l.length) ∨ (slash0 l = false ∧ mid0 l = l.length)) := by
  have a1 := fst_mid l
  have a2 := mid0_le l
  unfold wcol at h
  by_cases h1 : mid0 l = fst0 l
  · rw [if_pos h1] at h; omega
  · rw [if_neg h1] at h
    refine ⟨by omega, ?_⟩
    by_cases h2 : slash0 l = true
    · rw [if_pos h2] at h
      have a3 := end0_le h2
      have a4 : mid0 l + 1 ≤ end0 l := dEnd_ge _ _
      by_cases h3 : end0 l = mid0 l + 1 ∨ end0 l < l.length
      · rw [if_pos h3] at h; omega
      · exact .inl ⟨h2, by omega, by omega⟩
    · rw [if_neg h2] at h
      by_cases h4 : mid0 l < l.length
      · rw [if_pos h4] at h; omega
      · exact .inr ⟨Bool.eq_false_iff.mpr h2, by omega⟩
theorem res_ok {l : List Nat} (h : wcol l = 0) : res l =
    if 4000 < mid0 l - fst0 l then .large (mid0 l - fst0 l) else
    if slash0 l = true then if 4000 < end0 l - (mid0 l + 1) then .large (end0 l - (mid0 l + 1)) else
      if botV l = 0 then .text (mid0 l + 2) else .ratio (sgn l (red (topV l) (botV l)).1) (red (topV l) (botV l)).2
    else .ratio (sgn l (topV l)) 1 := by
  obtain ⟨h1, h2⟩ := wcol0 h
  unfold res
  rw [if_neg (by omega)]
  rcases h2 with ⟨e, h3, h4⟩ | ⟨e, h3⟩
  · rw [if_pos e, if_pos e, if_neg (by omega), if_neg (by omega)]
  · rw [if_neg (by rw [e]; decide), if_neg (by omega)]
    split
    · rfl
    · rw [if_neg (by rw [e]; decide)]
/-! ### Euclid's steps -/
def pairOk (a b : Nat) (i x y : Nat) : Prop := Nat.gcd x y = Nat.gcd a b ∧ (i = 0 → x = a ∧ y = b) ∧ (0 < i → y ≤ x ∧ x * y * 2 ^ (i - 1) ≤ a * b)
theorem pairOk0 (a b : Nat) : pairOk a b 0 a b := ⟨rfl, fun _ => ⟨rfl, rfl⟩, fun h => absurd h (Nat.lt_irrefl _)⟩
theorem pairOk_step {a b i x y : Nat} (h : pairOk a b i x y) (hy : y ≠ 0) : pairOk a b (i + 1) y (x % y) := by
  obtain ⟨h1, h2, h3⟩ := h
  have hlt : x % y < y := Nat.mod_lt _ (by omega)
  refine ⟨?_, fun z => by omega, fun _ => ⟨Nat.le_of_lt hlt, ?_⟩⟩
  · rw [← h1, Nat.gcd_comm x y, Nat.gcd_rec y x, Nat.gcd_comm]
  · rw [Nat.add_sub_cancel]
    by_cases hi : i = 0
    · obtain ⟨rfl, rfl⟩ := h2 hi
      subst hi
      rw [Nat.pow_zero, Nat.mul_one, Nat.mul_comm x y]
      exact Nat.mul_le_mul_left _ (Nat.mod_le _ _)
    · obtain ⟨h4, h5⟩ := h3 (by omega)
      obtain ⟨j, rfl⟩ : ∃ j, i = j + 1 := ⟨i - 1, by omega⟩
      rw [Nat.add_sub_cancel] at h5
      have half : 2 * (x % y) ≤ x := by
        have e := Nat.div_add_mod x y
        have hq : 1 ≤ x / y := (Nat.le_div_iff_mul_le (by omega)).mpr (by omega)
        have hm : y ≤ y * (x / y) := Nat.le_mul_of_pos_right _ hq
        omega
      refine Nat.le_trans ?_ h5
      rw [Nat.pow_succ, Nat.mul_comm (2 ^ j) 2, ← Nat.mul_assoc]
      refine Nat.mul_le_mul_right _ ?_
      rw [Nat.mul_assoc, Nat.mul_comm (x % y) 2, Nat.mul_comm x y]
      exact Nat.mul_le_mul_left _ half
theorem pairOk_zero {a b x y : Nat} (h : pairOk a b 60000 x y) (ha : a < 10 ^ 6000) (hb : b < 10 ^ 6000) : y = 0 := by
  obtain ⟨_, _, h3⟩ := h
  obtain ⟨h4, h5⟩ := h3 (by decide)
  by_cases hz : y = 0
  · exact hz
  · exfalso
    have hab : a * b < 10 ^ 6000 * 10 ^ 6000 := Nat.mul_lt_mul_of_lt_of_lt ha hb
    have hxy : 1 ≤ x * y := Nat.mul_pos (by omega) (by omega)
    have : 1 * 2 ^ (60000 - 1) ≤ x * y * 2 ^ (60000 - 1) := Nat.mul_le_mul_right _ hxy
    have big : (10 : Nat) ^ 6000 * 10 ^ 6000 ≤ 1 * 2 ^ (60000 - 1) := by decide +kernel
    omega
theorem pairOk_end {a b i x : Nat} (h : pairOk a b i x 0) : x = Nat.gcd a b := by
  have := h.1
  rwa [Nat.gcd_zero_right] at this
end AL
set_option Elab.async false
set_option maxRecDepth 100000
set_option exponentiation.threshold 70000
/-! The texts within a text of a ratio. -/
namespace AL
open PySem L2 PySem.NumText
def N4 : Nat := 10 ^ 4000
def N6 : Nat := 10 ^ 6000
theorem pow4000 : N4 < 2 ^ 13500 := by unfold N4; decide +kernel
theorem pow46 : N4 ≤ N6 := Nat.pow_le_pow_right (by decide) (by decide)
theorem no_slash {l : List Nat} : ∀ c ∈ l.take (mid0 l), c ≠ 47 := by
  intro c hc
  obtain ⟨j, hj⟩ := List.mem_iff_getElem?.mp hc
  rw [List.getElem?_take] at hj
  split at hj
  · rename_i hlt
    by_cases h : fst0 l ≤ j
    · have := dEnd_in h hlt hj
      intro e
      rw [e] at this
      exact absurd this (by decide)
    · have hf : fst0 l = 1 ∧ neg l = true := by
        unfold fst0 at h ⊢
        by_cases hn : neg l = true
        · exact ⟨if_pos hn, hn⟩
        · rw [if_neg hn] at h; omega
      have hj0 : j = 0 := by omega
      subst hj0
      have := of_decide_eq_true hf.2
      rw [this] at hj
      cases hj
      decide
  · cases hj
theorem S_app (a b : List Nat) : S a ++ S b = S (a ++ b) := TL.ext_tl (TL.tl_append (S a) (S b))
theorem part_slash {l : List Nat} (e : slash0 l = true) : Txt.partition (S l) "/" = (S (l.take (mid0 l)), ("/" : Str), S (l.drop (mid0 l + 1))) := by
  have hs := of_decide_eq_true e
  have hl : l = l.take (mid0 l) ++ ([47] ++ l.drop (mid0 l + 1)) := by
    have h1 : l.drop (mid0 l) = 47 :: l.drop (mid0 l + 1) := by
      obtain ⟨h2, h3⟩ := List.getElem?_eq_some_iff.mp hs
      rw [List.drop_eq_getElem_cons h2, h3]
    rw [List.singleton_append, ← h1, List.take_append_drop]
  have := TL.partition_app (y := S [47]) (s := 47) (S := []) rfl (a := S (l.take (mid0 l))) (b := S (l.drop (mid0 l + 1))) (fun h => no_slash 47 h rfl)
  rw [S_app, S_app, List.append_assoc, ← hl] at this
  rw [slashS]
  exact this
theorem part_none {l : List Nat} (e : mid0 l = l.length) : Txt.partition (S l) "/" = (S l, Str.empty, Str.empty) := by
  rw [slashS]
  refine TL.partition_none (y := S [47]) (s := 47) (S := []) rfl fun h => ?_
  have h' : 47 ∈ l := h
  refine no_slash (l := l) 47 ?_ rfl
  rw [e, List.take_length]
  exact h'
theorem fst_eq (l : List Nat) : fst0 l = (neg l).toNat := by
  unfold fst0
  cases neg l <;> rfl
theorem neg_take {l : List Nat} (h : fst0 l < mid0 l) : neg (l.take (mid0 l)) = neg l := by
  unfold neg
  rw [List.getElem?_take, if_pos (by omega)]
theorem head_top {l : List Nat} (h : fst0 l < mid0 l) : ∃ c, (rowAt l (fst0 l) (mid0 l))[0]? = some c ∧ isD c = true := by
  have hl : fst0 l < l.length := Nat.lt_of_lt_of_le h (mid0_le l)
  have e : (rowAt l (fst0 l) (mid0 l))[0]? = some l[fst0 l] := by
    unfold rowAt
    rw [List.getElem?_drop, List.getElem?_take, Nat.add_zero, if_pos h, List.getElem?_eq_getElem hl]
  exact ⟨_, e, dEnd_in (Nat.le_refl _) h (List.getElem?_eq_getElem hl)⟩
theorem strip_top {l : List Nat} (h : fst0 l < mid0 l) : Txt.lstripChars (S (l.take (mid0 l))) "-" = S (rowAt l (fst0 l) (mid0 l)) := by
  obtain ⟨c, hc, hd⟩ := head_top h
  have e : (l.take (mid0 l)).drop (neg (l.take (mid0 l))).toNat = rowAt l (fst0 l) (mid0 l) := by
    rw [neg_take h, ← fst_eq]; rfl
  rw [strip_minus, e]
  intro d hdd
  rw [e, hc] at hdd
  cases hdd
  intro z
  rw [z] at hd
  exact absurd hd (by decide)
theorem row_int {l : List Nat} {i : Nat} (h : i < dEnd l i) (hi : i ≤ l.length) (h4 : dEnd l i - i ≤ 4000) : intText? (S (rowAt l i (dEnd l i))) = some ((digitsVal (rowAt l i (dEnd l i)) : Nat) : Int) := by
  have hlen := rowAt_len (l := l) (i := i) (dEnd_le hi)
  refine intText_digits rowAt_digits (fun z => ?_) ?_
  · have : (rowAt l i (dEnd l i)).length = 0 := congrArg List.length z
    omega
  · rw [S_len, hlen]; omega
theorem int_top {l : List Nat} (h : fst0 l < mid0 l) (h4 : mid0 l - fst0 l ≤ 4000) : intText? (S (l.take (mid0 l))) = some (sgn l (topV l)) := by
  have hlen := rowAt_len (l := l) (i := fst0 l) (mid0_le l)
  have hf := fst0_le l
  have hm := mid0_le l
  by_cases hn : neg l = true
  · have hf1 : fst0 l = 1 := by unfold fst0; rw [if_pos hn]
    have h0 : l[0]? = some 45 := of_decide_eq_true hn
    have ht : l.take (mid0 l) = 45 :: rowAt l (fst0 l) (mid0 l) := by
      unfold rowAt
      rw [hf1]
      cases l with
      | nil => cases h0
      | cons c l' =>
        simp at h0
        subst h0
        obtain ⟨j, hj⟩ : ∃ j, mid0 (45 :: l') = j + 1 := ⟨mid0 (45 :: l') - 1, by omega⟩
        rw [hj]; rfl
    rw [intText_neg (cs := rowAt l (fst0 l) (mid0 l)) ht rowAt_digits (fun z => by
      have : (rowAt l (fst0 l) (mid0 l)).length = 0 := congrArg List.length z
      omega) (by rw [S_len, List.length_take]; omega)]
    unfold sgn
    rw [if_pos hn]
    rfl
  · have hf0 : fst0 l = 0 := by unfold fst0; rw [if_neg hn]
    have ht : l.take (mid0 l) = rowAt l (fst0 l) (mid0 l) := by unfold rowAt; rw [hf0]; rfl
    rw [ht]
    unfold sgn
    rw [if_neg hn]
    exact row_int h hf h4
theorem bot_eq {l : List Nat} (e : end0 l = l.length) : l.drop (mid0 l + 1) = rowAt l (mid0 l + 1) (end0 l) := by
  unfold rowAt
  rw [e, List.take_length]
theorem topV_lt {l : List Nat} (h4 : mid0 l - fst0 l ≤ 4000) : topV l < N4 := by
  have := digitsVal_lt _ _ rfl (rowAt_digits (l := l) (i := fst0 l))
  rw [rowAt_len (dEnd_le (fst0_le l))] at this
  exact Nat.lt_of_lt_of_le this (Nat.pow_le_pow_right (by decide) h4)
theorem botV_lt {l : List Nat} (e : slash0 l = true) (h4 : end0 l - (mid0 l + 1) ≤ 4000) : botV l < N4 := by
  have := digitsVal_lt _ _ rfl (rowAt_digits (l := l) (i := mid0 l + 1))
  rw [rowAt_len (dEnd_le (slash_lt e))] at this
  exact Nat.lt_of_lt_of_le this (Nat.pow_le_pow_right (by decide) h4)
theorem sgn_abs (l : List Nat) (n : Nat) : (sgn l (n : Int)).natAbs = n := by
  unfold sgn
  split <;> omega
theorem sgn_div (l : List Nat) (a b : Nat) : (sgn l (a : Int)).fdiv ((Nat.gcd a b : Nat) : Int) = sgn l ((a / Nat.gcd a b : Nat) : Int) := by
  have hd : ((Nat.gcd a b : Nat) : Int) ∣ (a : Int) := Int.natCast_dvd_natCast.mpr (Nat.gcd_dvd_left a b)
  unfold sgn
  split
  · rw [Int.fdiv_eq_ediv_of_nonneg _ (Int.natCast_nonneg _), Int.neg_ediv_of_dvd hd]
    rfl
  · rw [Int.fdiv_eq_ediv_of_nonneg _ (Int.natCast_nonneg _)]
    rfl
end AL
set_option Elab.async false
set_option maxRecDepth 100000
set_option exponentiation.threshold 70000
/-! Whole roots by Newton's steps; how many digits a number has. -/
namespace AL
open PySem L2 PySem.NumText
theorem tangent (g r : Nat) : ∀ k : Nat, (k + 1) * r * g ^ k ≤ r ^ (k + 1) + k * g ^ (k + 1)
  | 0 => by simp
  | k + 1 => by
    have ih := tangent g r k
    have h1 : (k + 1) * r * g ^ k * r ≤ (r ^ (k + 1) + k * g ^ (k + 1)) * r := Nat.mul_le_mul_right r ih
    have sq : 2 * (r * g) ≤ r * r + g * g := by
      rcases Nat.le_total r g with h | h
      · obtain ⟨d, rfl⟩ := Nat.le.dest h
        simp only [Nat.mul_add, Nat.add_mul]
        have : r * d = d * r := Nat.mul_comm _ _
        omega
      · obtain ⟨d, rfl⟩ := Nat.le.dest h
        simp only [Nat.mul_add, Nat.add_mul]
        have : g * d = d * g := Nat.mul_comm _ _
        omega
    have h2 := Nat.mul_le_mul_left ((k + 1) * g ^ k) sq
    have e1 : (k + 1) * r * g ^ k * r = (k + 1) * g ^ k * (r * r) := by
      simp only [Nat.mul_assoc, Nat.mul_comm, Nat.mul_left_comm]
    have e2 : (r ^ (k + 1) + k * g ^ (k + 1)) * r = r ^ (k + 2) + k * (g ^ (k + 1) * r) := by
      rw [Nat.add_mul, ← Nat.pow_succ, Nat.mul_assoc]
    have e3 : (k + 1) * g ^ k * (2 * (r * g)) = 2 * ((k + 1) * (g ^ (k + 1) * r)) := by
      rw [Nat.pow_succ]
      simp only [Nat.mul_assoc, Nat.mul_comm, Nat.mul_left_comm]
    have e4 : (k + 1) * g ^ k * (r * r + g * g) = (k + 1) * g ^ k * (r * r) + (k + 1) * g ^ (k + 2) := by
      rw [Nat.mul_add, Nat.pow_succ, Nat.pow_succ]
      simp only [Nat.mul_assoc]
    have e5 : (k + 1 + 1) * r * g ^ (k + 1) = (k + 1) * (g ^ (k + 1) * r) + g ^ (k + 1) * r := by
      rw [Nat.add_mul (k + 1) 1 r, Nat.one_mul, Nat.add_mul, Nat.mul_assoc, Nat.mul_comm r (g ^ (k + 1))]
    rw [e1, e2] at h1
    rw [e3, e4] at h2
    rw [e5]
    have e6 : (k + 1) * (g ^ (k + 1) * r) = k * (g ^ (k + 1) * r) + g ^ (k + 1) * r := by rw [Nat.add_mul, Nat.one_mul]
    have e7 : r ^ (k + 1 + 1) = r ^ (k + 2) := rfl
    have e8 : (k + 1) * g ^ (k + 1 + 1) = (k + 1) * g ^ (k + 2) := rfl
    rw [e7, e8]
    rw [e6] at h2 ⊢
    omega
/-- the next guess for the root j + 1 -/
def nstep (n j g : Nat) : Nat := (j * g + n / g ^ j) / (j + 1)
theorem nstep_ge {n j g r : Nat} (hg : 0 < g) (h : r ^ (j + 1) ≤ n) : r ≤ nstep n j g := by
  have t := tangent g r j
  have hp : 0 < g ^ j := Nat.pow_pos hg
  unfold nstep
  rw [Nat.le_div_iff_mul_le (Nat.succ_pos j)]
  have e : j * g + n / g ^ j = (n + j * g * g ^ j) / g ^ j := by
    rw [Nat.add_mul_div_right _ _ hp, Nat.add_comm]
  rw [e, Nat.le_div_iff_mul_le hp]
  have e2 : j * g ^ (j + 1) = j * g * g ^ j := by rw [Nat.pow_succ, Nat.mul_comm (g ^ j) g, Nat.mul_assoc]
  rw [Nat.mul_comm r (j + 1)]
  omega
theorem nstep_end {n j g : Nat} (hg : 0 < g) (h : g ≤ nstep n j g) : g ^ (j + 1) ≤ n := by
  have hp : 0 < g ^ j := Nat.pow_pos hg
  unfold nstep at h
  rw [Nat.le_div_iff_mul_le (Nat.succ_pos j)] at h
  have : g ≤ n / g ^ j := by
    rw [Nat.mul_succ, Nat.mul_comm g j] at h
    omega
  rw [Nat.le_div_iff_mul_le hp] at this
  rw [Nat.pow_succ, Nat.mul_comm]
  exact this
/-- the greatest number whose power k is at most n -/
def isRoot (n k g : Nat) : Prop := g ^ k ≤ n ∧ ∀ r, r ^ k ≤ n → r ≤ g
theorem isRoot_eq {n k g r : Nat} (h : isRoot n k g) (hk : 0 < k) (e : r ^ k = n) : g = r := by
  have h1 := h.2 r (Nat.le_of_eq e)
  rcases Nat.lt_or_ge r g with h2 | h2
  · have := Nat.pow_lt_pow_left h2 (by omega : k ≠ 0)
    have := h.1
    omega
  · omega
theorem start_ok {n k r : Nat} (hk : 0 < k) (h : r ^ k ≤ n) : r ≤ 2 ^ ((n.log2 + 1) / k + 1) := by
  rcases Nat.lt_or_ge (2 ^ ((n.log2 + 1) / k + 1)) r with h2 | h2
  · exfalso
    have h3 := Nat.pow_lt_pow_left h2 (by omega : k ≠ 0)
    rw [← Nat.pow_mul] at h3
    have h4 : n.log2 + 1 ≤ ((n.log2 + 1) / k + 1) * k := by
      have := Nat.div_add_mod (n.log2 + 1) k
      have hm := Nat.mod_lt (n.log2 + 1) hk
      rw [Nat.add_mul, Nat.one_mul, Nat.mul_comm]
      omega
    have h5 : 2 ^ (n.log2 + 1) ≤ 2 ^ (((n.log2 + 1) / k + 1) * k) := Nat.pow_le_pow_right (by decide) h4
    have h6 : n < 2 ^ (n.log2 + 1) := Nat.lt_log2_self
    omega
  · exact h2
/-- how many digits -/
def ndig (n : Nat) : Nat := (TL.numL n).length
theorem ndig_pos (n : Nat) : 0 < ndig n := List.length_pos_iff.mpr (TL.numL_ne n)
theorem lt_ndig (n : Nat) : n < 10 ^ ndig n := by
  have := digitsVal_lt _ _ rfl (TL.numL_digits n)
  rwa [TL.numL_val] at this
theorem ndig_le {n k : Nat} (hk : 0 < k) (h : n < 10 ^ k) : ndig n ≤ k := TL.numL_len hk h
theorem ndig_lt {n k : Nat} (h : 10 ^ k ≤ n) : k < ndig n := by
  rcases Nat.lt_or_ge k (ndig n) with h1 | h1
  · exact h1
  · have := Nat.pow_le_pow_right (by decide : 0 < 10) h1
    have := lt_ndig n
    omega
theorem ndig_eq {n k : Nat} (h0 : 10 ^ k ≤ n) (h1 : n < 10 ^ (k + 1)) : ndig n = k + 1 := by
  have := ndig_lt h0
  have := ndig_le (Nat.succ_pos k) h1
  omega
theorem ndig_cut {n k : Nat} (h : 10 ^ k ≤ n) : ndig n = k + ndig (n / 10 ^ k) := by
  have hp : 0 < 10 ^ k := Nat.pow_pos (by decide)
  have hx : 1 ≤ n / 10 ^ k := (Nat.le_div_iff_mul_le hp).mpr (by omega)
  have a1 := lt_ndig (n / 10 ^ k)
  have a2 : n < 10 ^ (k + ndig (n / 10 ^ k)) := by
    rw [Nat.pow_add, Nat.mul_comm]
    exact (Nat.div_lt_iff_lt_mul hp).mp a1
  have b1 := ndig_le (by have := ndig_pos (n / 10 ^ k); omega) a2
  have c1 := ndig_lt h
  have c2 : n / 10 ^ k < 10 ^ (ndig n - k) := by
    rw [Nat.div_lt_iff_lt_mul hp, ← Nat.pow_add]
    rw [show ndig n - k + k = ndig n by omega]
    exact lt_ndig n
  have c3 := ndig_le (by omega) c2
  omega
end AL
set_option Elab.async false
set_option maxRecDepth 100000
set_option exponentiation.threshold 3000
/-! Data that stay, and that can be shown. -/
namespace AL
open PySem L2
mutual
theorem dp_mono {K : PySem.W.Frag} {H H' : Hp} (kl : ∀ a xs, SqL K H a xs → SqL K H' a xs) (kt : ∀ a xs, SqT K H a xs → SqT K H' a xs) : ∀ (d : PyData) (v : V), Dp K H v d → Dp K H' v d
  | .none, _, h => by cases h; exact .non
  | .bool b, _, h => by cases h; exact .bl b
  | .int i, _, h => by cases h; exact .int i
  | .str x, _, h => by cases h; exact .str x
  | .list ds, _, h => by
    cases h with
    | lst hs ha => exact .lst (kl _ _ hs) (dpAll_mono kl kt ds _ ha)
  | .tuple ds, _, h => by
    cases h with
    | tup hs ha => exact .tup (kt _ _ hs) (dpAll_mono kl kt ds _ ha)
  | .dict _, _, h => by cases h
theorem dpAll_mono {K : PySem.W.Frag} {H H' : Hp} (kl : ∀ a xs, SqL K H a xs → SqL K H' a xs) (kt : ∀ a xs, SqT K H a xs → SqT K H' a xs) : ∀ (ds : List PyData) (vs : List V), DpAll K H vs ds → DpAll K H' vs ds
  | [], _, h => by cases h; exact .nil
  | d :: ds, _, h => by
    cases h with
    | cons h1 h2 => exact .cons (dp_mono kl kt d _ h1) (dpAll_mono kl kt ds _ h2)
end
theorem same_seqT {K : PySem.W.Frag} {H H' : Hp} {a : Addr} {xs : List V} (e : Same H H') (h : SqT K H a xs) : SqT K H' a xs := by
  rcases h with (h | ⟨o, h⟩) | h
  · exact .inl (.inl (e _ _ h))
  · exact .inl (.inr ⟨o, e _ _ h⟩)
  · exact .inr h
theorem dp_same {K : PySem.W.Frag} {H H' : Hp} {v : V} {d : PyData} (s : Same H H') (h : Dp K H v d) : Dp K H' v d := dp_mono (fun _ _ z => Same.seq s z) (fun _ _ z => same_seqT s z) d v h
theorem dp_keep {K : PySem.W.Frag} {H H' : Hp} {p c : Addr} {m : Nat} {v : V} {d : PyData} (k : Keep p H H') (P : Pen H p c m) (h : Dp K H v d) : Dp K H' v d := dp_mono (fun _ _ z => k.seqL P z) (fun _ _ z => k.seqT P z) d v h
/-- can be shown, by few signs -/
structure OkD (d : PyData) : Prop where
  sh : d.showable = true
  nd : d.hasDict = false
  dp : d.depth ≤ 10
  ln : d.shown.length ≤ 1000
/-- some data that can be shown -/
def Datum (K : PySem.W.Frag) (H : Hp) (v : V) : Prop := ∃ d, Dp K H v d ∧ OkD d
theorem Datum.same {K : PySem.W.Frag} {H H' : Hp} {v : V} (h : Datum K H v) (s : Same H H') : Datum K H' v := by
  obtain ⟨d, h1, h2⟩ := h
  exact ⟨d, dp_same s h1, h2⟩
theorem Datum.keep {K : PySem.W.Frag} {H H' : Hp} {p c : Addr} {m : Nat} {v : V} (h : Datum K H v) (k : Keep p H H') (P : Pen H p c m) : Datum K H' v := by
  obtain ⟨d, h1, h2⟩ := h
  exact ⟨d, dp_keep k P h1, h2⟩
theorem datum_non {K : PySem.W.Frag} {H : Hp} : Datum K H .non := ⟨.none, .non, by decide +kernel, by decide +kernel, by decide +kernel, by decide +kernel⟩
theorem datum_bl {K : PySem.W.Frag} {H : Hp} (b : Bool) : Datum K H (.bl b) := by
  refine ⟨.bool b, .bl b, rfl, rfl, by show 0 ≤ 10; decide, ?_⟩
  cases b <;> decide +kernel
theorem okD_int {i : Int} (h : i.natAbs < 10 ^ 400) : OkD (.int i) := by
  have h2 : i.natAbs < 2 ^ 1920 := Nat.lt_trans (Nat.lt_of_lt_of_le h (Nat.pow_le_pow_right (by decide) (by decide : 400 ≤ 402))) pow402
  refine ⟨decide_eq_true (log2_small (by decide) h2), rfl, by show 0 ≤ 10; decide, ?_⟩
  show (Str.ofString (toString i)).length ≤ 1000
  have e : (Str.ofString (toString i)).length = (toString i).length := by
    rw [Str.ofString_eq_toList]
    show (((toString i).toList.map Char.toNat).toArray).size = _
    rw [List.size_toArray, List.length_map, String.length_toList]
  rw [e]
  have := int_text_length_le10 (by decide) h
  omega
theorem datum_int {K : PySem.W.Frag} {H : Hp} {i : Int} (h : i.natAbs < 10 ^ 400) : Datum K H (.int i) := ⟨.int i, .int i, okD_int h⟩
theorem datum_str {K : PySem.W.Frag} {H : Hp} {z : Str} (h : z.length ≤ 90) (hc : ∀ c ∈ z.cps.toList, c < 128) : Datum K H (.str z) := by
  refine ⟨.str z, .str z, rfl, rfl, by show 0 ≤ 10; decide, ?_⟩
  show (reprText z).length ≤ 1000
  have := StrLaws.reprText_len z (fun c hcc => Nat.lt_trans (hc c hcc) (by decide))
  omega
theorem okD_tup : ∀ (ds : List PyData), ds.length ≤ 3 → (∀ d ∈ ds, OkD d) → (PyData.tuple ds).showable = true ∧ (PyData.tuple ds).hasDict = false ∧ (PyData.tuple ds).depth ≤ 60 ∧ (PyData.tuple ds).shown.length ≤ sizeLine := by
  intro ds hl h
  have all : ∀ (ds : List PyData), (∀ d ∈ ds, OkD d) → PyData.showableAll ds = true ∧ PyData.hasDictAll ds = false ∧ PyData.depthAll ds ≤ 10 ∧ ((PyData.shownAll ds).map (·.length)).sum ≤ 1000 * ds.length ∧ (PyData.shownAll ds).length = ds.length := by
    intro ds
    induction ds with
    | nil => intro _; exact ⟨rfl, rfl, by decide, by decide, rfl⟩
    | cons d ds ih =>
      intro h
      obtain ⟨a1, a2, a3, a4, a5⟩ := ih fun x hx => h x (List.mem_cons_of_mem _ hx)
      have o := h d List.mem_cons_self
      have o1 := o.sh
      have o2 := o.nd
      have o3 := o.dp
      have o4 := o.ln
      refine ⟨?_, ?_, ?_, ?_, ?_⟩
      · simp only [PyData.showableAll, o1, a1, Bool.and_self]
      · simp only [PyData.hasDictAll, o2, a2, Bool.or_self]
      · simp only [PyData.depthAll]; omega
      · simp only [PyData.shownAll, List.map_cons, List.sum_cons, List.length_cons]; omega
      · simp only [PyData.shownAll, List.length_cons, a5]
  obtain ⟨a1, a2, a3, a4, a5⟩ := all ds h
  refine ⟨?_, ?_, ?_, ?_⟩
  · simpa only [PyData.showable] using a1
  · simpa only [PyData.hasDict] using a2
  · simp only [PyData.depth]; omega
  · simp only [PyData.shown]
    have := tupleText_len_le (PyData.shownAll ds)
    rw [a5] at this
    refine Nat.le_trans this ?_
    refine Nat.le_trans (show _ ≤ 10000 by omega) (by decide)
theorem dpAll_bl {K : PySem.W.Frag} {H : Hp} : ∀ l : List Bool, DpAll K H (l.map V.bl) (l.map PyData.bool)
  | [] => .nil
  | b :: l => .cons (.bl b) (dpAll_bl l)
theorem shaped_bl (l : List Bool) : SeqAt.shaped (.list (l.map PyData.bool)) = true := by
  have h1 : ∀ l : List Bool, PyData.canLayAll0 (l.map PyData.bool) = true ∧ PyData.depthAll (l.map PyData.bool) = 0 := by
    intro l
    induction l with
    | nil => exact ⟨rfl, rfl⟩
    | cons b l ih => exact ⟨by simp [PyData.canLayAll0, PyData.canLay0, ih.1], by simp [PyData.depthAll, PyData.depth, ih.2]⟩
  unfold SeqAt.shaped
  rw [show PyData.canLay0 (.list (l.map PyData.bool)) = true by simpa [PyData.canLay0] using (h1 l).1]
  simp [PyData.depth, (h1 l).2]
end AL
set_option Elab.async false
set_option maxRecDepth 100000
set_option exponentiation.threshold 70000
set_option maxHeartbeats 1000000
namespace AL
open PySem L2

/-- one sign, a digit -/
def oneD (m : List Nat) : Bool := match m with | [c] => isD c | _ => false
theorem in_dig (m : List Nat) : inV (.str (S m)) (([48, 49, 50, 51, 52, 53, 54, 55, 56, 57] : List Nat).map fun c => V.str (S [c])) = oneD m := by
  unfold inV
  have e : ∀ c, eqV (.str (S [c])) (.str (S m)) = decide ([c] = m) := fun c => by
    show decide (S [c] = S m) = decide ([c] = m)
    exact decide_eq_decide.mpr S_inj
  simp only [List.map_cons, List.map_nil, List.any_cons, List.any_nil, e]
  match m with
  | [] => rfl
  | [d] =>
    show _ = isD d
    rw [isD_mem]
    simp [eq_comm]
  | _ :: _ :: _ => simp [oneD]
theorem row_one {l : List Nat} {j : Nat} : rowAt l j (j + 1) = (l[j]?).toList := by
  unfold rowAt
  rw [List.take_add_one, List.drop_append]
  by_cases h : j ≤ l.length
  · rw [List.length_take, Nat.min_eq_left h, Nat.sub_self, List.drop_eq_nil_of_le (by rw [List.length_take]; omega), List.nil_append, List.drop_zero]
  · rw [List.getElem?_eq_none (by omega), List.drop_eq_nil_of_le (by rw [List.length_take]; omega)]
    simp

theorem fmod_nat (a b : Nat) : ((a : Int)).fmod ((b : Nat) : Int) = ((a % b : Nat) : Int) := by
  rw [Int.fmod_eq_emod_of_nonneg _ (Int.natCast_nonneg b)]
  rfl
theorem fdiv_nat (a b : Nat) : ((a : Int)).fdiv ((b : Nat) : Int) = ((a / b : Nat) : Int) := by
  rw [Int.fdiv_eq_ediv_of_nonneg _ (by omega)]
  rfl

/-- _law_gcd(a, b) -/
def spGcdL : Sp := fun vs H Q _ => ∃ (a b : Int), vs = [.int a, .int b] ∧ a.natAbs < N6 ∧ b.natAbs < N6 ∧ Q (.int ((Nat.gcd a.natAbs b.natAbs : Nat) : Int)) H
/-- _law_q(a, b) -/
def spQ : Sp := fun vs H Q _ => ∃ (a b : Nat), vs = [.int (a : Int), .int (b : Int)] ∧ a < N4 ∧ b < N4 ∧ b ≠ 0 ∧ ∀ t, H t = none → Q (.ref t) (upd H t (.tup [.int (red a b).1, .int (red a b).2]))
/-- _law_is_whole(i) -/
def spWhole : Sp := fun vs H Q _ => ∃ (i : Int), vs = [.int i] ∧ Q (.bl true) H
/-- _law_is_ratio(t) -/
def spIsRat (K : PySem.W.Frag) : Sp := fun vs H Q _ => ∃ (t : Addr) (a b : Int), vs = [.ref t] ∧ H t = some (.tup [.int a, .int b]) ∧ a.natAbs < N6 ∧ b.natAbs < N6 ∧ 0 < b ∧ Nat.gcd a.natAbs b.natAbs = 1 ∧ Q (.bl true) H
/-- _law_digits_end(text, at) -/
def spEndL : Sp := fun vs H Q _ => ∃ (l : List Nat) (i : Nat), vs = [.str (S l), .int (i : Int)] ∧ i ≤ l.length ∧ l.length ≤ 20000 ∧ ∀ H', Same H H' → Q (.int ((dEnd l i : Nat) : Int)) H'
/-- digits_end(text, start) -/
def spEnd : Sp := fun vs H Q _ => ∃ (l : List Nat) (i : Nat), vs = [.str (S l), .int (i : Int)] ∧ i ≤ l.length ∧ l.length ≤ 20000 ∧ Q (.int ((dEnd l i : Nat) : Int)) H
/-- wrong_column(text) -/
def spCol : Sp := fun vs H Q _ => ∃ (l : List Nat), vs = [.str (S l)] ∧ l.length ≤ 20000 ∧ Q (.int ((wcol l : Nat) : Int)) H
/-- lowest(top, bottom) -/
def spLow : Sp := fun vs H Q _ => ∃ (a : Int) (b : Nat), vs = [.int a, .int (b : Int)] ∧ a.natAbs < N4 ∧ b < N4 ∧ b ≠ 0 ∧
  ∀ t, H t = none → Q (.ref t) (upd H t (.tup [.int (a.fdiv ((Nat.gcd a.natAbs b : Nat) : Int)), .int ((b / Nat.gcd a.natAbs b : Nat) : Int)]))


/-- ratio_of(x) -/
def spRatio (K : PySem.W.Frag) (BT TL : Addr) : Sp := fun vs H Q E => ∃ x, vs = [x] ∧
  ((∃ l, x = .str (S l) ∧ l.length ≤ 20000 ∧
    (∀ c, res l = .text c → ∀ d H1, H1 d = none → Same H H1 → E (.ref BT) (some d) (upd H1 d (.xd [("column", .int (c : Int)), ("line", .int 1)]))) ∧
    (∀ n, res l = .large n → ∀ d H1, H1 d = none → Same H H1 → E (.ref TL) (some d) (upd H1 d (.xd [("limit", .int 4000), ("number", .int (n : Int)), ("what", .str "digits")]))) ∧
    (∀ p r, res l = .ratio p r → ∀ t H1, H1 t = none → Same H H1 → Q (.ref t) (upd H1 t (.tup [.int p, .int r])))) ∨
   (∃ u, TyX K H x u ∧ PySem.W.kitOne K u (.type "str") = some false ∧ ∀ d H1, H1 d = none → Same H H1 → E (.ref BT) (some d) (upd H1 d (.xd [("column", .int 0), ("line", .int 0)]))))
theorem one4 : 1 < N4 := by unfold N4; decide +kernel
theorem none_of_same {H H' : Hp} {a : Addr} (s : Same H H') (h : H' a = none) : H a = none := by
  cases e : H a with
  | none => rfl
  | some o => rw [s _ _ e] at h; cases h
theorem Same.updn {H H' : Hp} {a : Addr} {o : HO} (s : Same H H') (h : H a = none) : Same H (upd H' a o) := fun b u e => by
  rw [upd_ne (fun z => by rw [z, h] at e; cases e)]; exact s _ _ e
/-- what a text is told to be -/
def resD : Res → PyData
  | .text c => .tuple [.str "text", .int (c : Int)]
  | .large n => .tuple [.str "large", .int (n : Int)]
  | .ratio p r => .tuple [.str "ratio", .tuple [.int p, .int r]]
/-- _law_due(text) -/
def spDue (K : PySem.W.Frag) : Sp := fun vs H Q _ => ∃ (l : List Nat), vs = [.str (S l)] ∧ l.length ≤ 20000 ∧ ∀ t H', Same H H' → Dp K H' (.ref t) (resD (res l)) → Q (.ref t) H'


theorem res_ratio {l : List Nat} {p r : Int} (h : res l = .ratio p r) : p.natAbs < N6 ∧ r.natAbs < N6 ∧ 0 < r ∧ Nat.gcd p.natAbs r.natAbs = 1 := by
  have hw : wcol l = 0 := by
    rcases Nat.eq_zero_or_pos (wcol l) with z | z
    · exact z
    · rw [res_bad z] at h; cases h
  rw [res_ok hw] at h
  have red_ok : ∀ a b : Nat, a < N4 → b < N4 → b ≠ 0 → (sgn l (red a b).1).natAbs < N6 ∧ (red a b).2.natAbs < N6 ∧ 0 < (red a b).2 ∧ Nat.gcd (sgn l (red a b).1).natAbs (red a b).2.natAbs = 1 := by
    intro a b ha hb h0
    have hg : 0 < Nat.gcd a b := Nat.gcd_pos_of_pos_right a (Nat.pos_of_ne_zero h0)
    have e1 : (sgn l (red a b).1).natAbs = a / Nat.gcd a b := sgn_abs l _
    have e2 : (red a b).2.natAbs = b / Nat.gcd a b := Int.natAbs_natCast _
    have p46 := pow46
    refine ⟨?_, ?_, ?_, ?_⟩
    · rw [e1]; exact Nat.lt_of_le_of_lt (Nat.div_le_self _ _) (by omega)
    · rw [e2]; exact Nat.lt_of_le_of_lt (Nat.div_le_self _ _) (by omega)
    · have : 0 < b / Nat.gcd a b := Nat.div_pos (Nat.le_of_dvd (Nat.pos_of_ne_zero h0) (Nat.gcd_dvd_right a b)) hg
      show (0 : Int) < ((b / Nat.gcd a b : Nat) : Int)
      omega
    · rw [e1, e2, Nat.gcd_div (Nat.gcd_dvd_left a b) (Nat.gcd_dvd_right a b), Nat.div_self hg]
  by_cases h1 : 4000 < mid0 l - fst0 l
  · rw [if_pos h1] at h; cases h
  · rw [if_neg h1] at h
    have ht := topV_lt (l := l) (by omega)
    by_cases h2 : slash0 l = true
    · rw [if_pos h2] at h
      by_cases h3 : 4000 < end0 l - (mid0 l + 1)
      · rw [if_pos h3] at h; cases h
      · rw [if_neg h3] at h
        by_cases h4 : botV l = 0
        · rw [if_pos h4] at h; cases h
        · rw [if_neg h4] at h
          injection h with e1 e2
          subst e1 e2
          exact red_ok _ _ ht (botV_lt h2 (by omega)) h4
    · rw [if_neg h2] at h
      injection h with e1 e2
      subst e1 e2
      have := red_ok (topV l) 1 ht one4 (by decide)
      unfold red at this
      rw [Nat.gcd_one_right, Nat.div_one] at this
      exact this
/-- _law_read(text) -/
def spRead (K : PySem.W.Frag) : Sp := fun vs H Q _ => ∃ (l : List Nat), vs = [.str (S l)] ∧ l.length ≤ 20000 ∧ ∀ t H', Same H H' → Dp K H' (.ref t) (resD (res l)) → Q (.ref t) H'
theorem cut_from (l : List Nat) (i : Nat) : cutS (S l) (some (i : Int)) none = S (l.drop i) := by
  have e := cut_mid l i l.length
  rw [List.take_length] at e
  rw [← e]
  unfold cutS
  have h1 : HT.sIx (S l).length (S l).length none = HT.sIx (S l).length (S l).length (some ((l.length : Nat) : Int)) := by
    rw [HT.sIx_nat, HT.sIx_none, S_len, Nat.min_self]
  rw [h1]
theorem str_len {n k : Nat} (hk : 0 < k) (h : n < 10 ^ k) : (Str.ofString (toString ((n : Nat) : Int))).length ≤ k := by
  rw [show (Str.ofString (toString ((n : Nat) : Int))).length = (TL.numL n).length by rw [TL.len_tl]; exact congrArg List.length (TL.tl_num n)]
  exact TL.numL_len hk h
/-- _law_begin(pen) -/
def spBegin : Sp := fun vs H Q _ => ∃ (p c : Addr) (m : Nat), vs = [.ref p] ∧ Pen H p c m ∧ m < 800000000 ∧ ∀ (l : List Nat) H', l.length ≤ 15000 → Pen H' p c (m + 1000) → Q (.str (S l)) H'
/-- _law_bent(pen, text) -/
def spBent : Sp := fun vs H Q _ => ∃ (p c : Addr) (m : Nat) (l : List Nat), vs = [.ref p, .str (S l)] ∧ Pen H p c m ∧ m < 800000000 ∧ l.length ≤ 19000 ∧ ∀ (l' : List Nat) H', l'.length ≤ l.length + 1 → Pen H' p c (m + 10) → Q (.str (S l')) H'

/-- law's: a list of at most 63 ints is handed in, True comes out -/
def spLaw (K : PySem.W.Frag) : Sp := fun vs H Q _ => ∃ (a : Addr) (ns : List Int), vs = [.ref a] ∧ SqL K H a (ns.map V.int) ∧ ns.length ≤ 63 ∧ ∀ H', Q (.bl true) H'
theorem resD_ok (r : Res) : SeqAt.shaped (resD r) = true := by
  have h1 : PyData.strOk (Str.ofString "text") = true := by decide +kernel
  have h2 : PyData.strOk (Str.ofString "large") = true := by decide +kernel
  have h3 : PyData.strOk (Str.ofString "ratio") = true := by decide +kernel
  cases r <;> simp [h1, h2, h3, SeqAt.shaped, resD, PyData.canLay0, PyData.canLayAll0, PyData.depth, PyData.depthAll]

end AL
set_option Elab.async false
set_option maxRecDepth 100000
set_option exponentiation.threshold 70000
set_option maxHeartbeats 1000000
namespace AL
open PySem PySem.Spec PyProof.Rows L2 RZ
def top (i : Nat) : Stmt := PySem.Challenge.pw_allscales_k51_whole_kinds_of_letters.main.body.getD i (.Pass ⟨0, 0, 0, 0⟩)
section
variable {P : Program} {w : World} {K : PySem.W.Frag} {mg : Str → Option Value} {base : Heap}
abbrev st_law_pen : Stmt := top 33
theorem sc_law_pen : FnScope ["_law_script", "_law_fold", "_law_cell"] ["_law_script"] (defScope st_law_pen) := ⟨rfl, rfl, rfl, by decide +kernel, rfl, by decide +kernel, by decide +kernel⟩
theorem ok_law_pen (B : Blt mg)  {f_law_pen : Addr} {fd_law_pen : FuncData} (D_law_pen : DefAt K mg "_law_pen" st_law_pen ["_law_script"] f_law_pen fd_law_pen) : FnOk P w K mg base CX0 1 f_law_pen fd_law_pen ["_law_script"] (spPen K) := by
  refine D_law_pen.F.ok sc_law_pen (fun vs H Q E h => ?_) (fun cdv A outer s H vs Q E hr h => ?_)
  · obtain ⟨a, ns, rfl, _⟩ := h; rfl
  · have hu := hu_of hr
    refine ⟨_, (pss_cons (ps_set (i := 1) sc_law_pen.nd rfl (Or.inl rfl) pe_int)
    (pss_cons (ps_for PassesOwn.never rfl (pi_list (pv 0)) (pg_name (i := 2) sc_law_pen.nd rfl (Or.inl rfl))
      (pss_one (ps_set (i := 1) sc_law_pen.nd rfl (Or.inl rfl) (pe_op op_modN (pe_callTy call_int1 (by rfl) B.int_ (by decide +kernel) (pa_cons (pe_op op_add (pe_op op_mul (pv 1) pe_int) (pv 2)) pa_nil)) pe_int))))
    (pss_one (ps_ret (pe_disp (pps_cons pe_str (pe_callTy call_list_of (by rfl) B.list_ (by decide +kernel) (pa_cons (pv 0) pa_nil)) (pps_cons pe_str pe_int (pps_cons pe_str pe_int (pps_cons pe_str pe_int (pps_cons pe_str (pv 1) pps_nil))))) (by rfl) (by rfl) (fun z => by cases z) (by decide)))))), ?_⟩
    obtain ⟨a, ns, rfl, hS, k⟩ := h
    refine ⟨_, rfl, a, rfl, ⟨_, hS⟩, for_list (K := K) (a := a) (xs := ns.map V.int) (fun i σ H' => ∃ (f : Int) (v : Option V), σ = [some (.ref a), some (.int f), v] ∧ H' = H ∧ 0 ≤ f ∧ f < 2147483648) ⟨0, none, rfl, rfl, by decide, by decide⟩ (fun i σ H' _ ⟨_, _, _, e, _⟩ => by rw [e]; exact hS) ?_ ?_⟩
    · rintro i y σ H' hi ⟨f, v, rfl, rfl, h0, h1⟩
      obtain ⟨z, hz, rfl⟩ := map_int hi
      refine ⟨_, rfl, _, _, rfl, rfl, .inr ⟨by decide, by decide⟩, _, rfl, _, _, rfl, rfl, .inl ⟨_, rfl, _, _, rfl, rfl, (by show (1000000007 : Int) ≠ 0; decide), ?_⟩⟩
      have hb := fmod_in (a := f * 41 + z) (b := 1000000007) (by decide)
      exact ⟨_, _, rfl, rfl, hb.1, by omega⟩
    · rintro σ H' ⟨f, v, rfl, rfl, h0, h1⟩
      intro p hp
      refine ⟨_, rfl, a, _, rfl, .inl (Same.seq (AL.Same.new hp) hS), fun l hl => ?_⟩
      have hlp : p ≠ l := fun e => by rw [e, upd_same] at hl; cases hl
      have hl0 : H' l = none := by rw [upd_ne hlp.symm] at hl; exact hl
      refine ⟨_, rfl, Eq.trans (upd_ne hlp) upd_same, penK l 0 0 0 f, rfl, (by show 5 ≤ 15; decide), ?_⟩
      refine k p l _ hp hl0 hlp ⟨ns, 0, 0, 0, f, Eq.trans upd_same (by kernel_rfl), ?_, by decide, by decide, by decide, by decide, h0, h1⟩ fun b o e => ?_
      · rw [upd_ne hlp.symm, upd_same]
      · rw [upd_ne (ne_of_none e hp), upd_ne (ne_of_none e hl0), upd_ne (ne_of_none e hp)]; exact e
abbrev st_law_draw : Stmt := top 34
theorem sc_law_draw : FnScope ["_law_pen_here", "_law_many", "_law_cell", "_law_digit", "_law_blend"] ["_law_pen_here", "_law_many"] (defScope st_law_draw) := ⟨rfl, rfl, rfl, by decide +kernel, rfl, by decide +kernel, by decide +kernel⟩
theorem ok_law_draw (B : Blt mg)  {f_law_draw : Addr} {fd_law_draw : FuncData} (D_law_draw : DefAt K mg "_law_draw" st_law_draw ["_law_pen_here", "_law_many"] f_law_draw fd_law_draw) : FnOk P w K mg base CX0 1 f_law_draw fd_law_draw ["_law_pen_here", "_law_many"] spDraw := by
  refine D_law_draw.F.ok sc_law_draw (fun vs H Q E h => ?_) (fun cdv A outer s H vs Q E hr h => ?_)
  · obtain ⟨p, c, m, k, rfl, _⟩ := h; rfl
  · have hu := hu_of hr
    refine ⟨_, (pss_cons (ps_dput hu (pv 0) pe_str (pe_op op_add (pe_dget hu (pv 0) pe_str (fun _ _ => rfl)) pe_int) rfl)
    (Evl.pss_cut (ps_if (PW.pt (pw_and (pt_cmpR op_eq (pe_dget hu (pv 0) pe_str (fun _ _ => rfl)) pe_int (nomark _)) (pw_and1 (pt_cmpR op_lt (pe_dget hu (pv 0) pe_str (fun _ _ => rfl)) (pe_callB call_len_seq (by rfl) B.len_ (by decide +kernel) (pa_cons (pe_dget hu (pv 0) pe_str (fun _ _ => rfl)) pa_nil)) (nomark _))))) (pss_cons (ps_set (i := 2) sc_law_draw.nd rfl (Or.inl rfl) (pe_ix ix_seq (pe_dget hu (pv 0) pe_str (fun _ _ => rfl)) (pe_dget hu (pv 0) pe_str (fun _ _ => rfl)) (fun _ _ => rfl)))
    (pss_cons (ps_dput hu (pv 0) pe_str (pe_op op_add (pe_dget hu (pv 0) pe_str (fun _ _ => rfl)) pe_int) rfl)
    (pss_one (ps_if (pt_cmpR op_ge (pv 2) (pe_op op_pow pe_int pe_int) (nomark _)) (pss_one (ps_dput hu (pv 0) pe_str (pe_op op_sub (pv 2) (pe_op op_pow pe_int pe_int)) rfl)) (pss_one (ps_dput hu (pv 0) pe_str (pe_op op_modN (pe_callTy call_int1 (by rfl) B.int_ (by decide +kernel) (pa_cons (pe_op op_add (pe_op op_mul (pe_dget hu (pv 0) pe_str (fun _ _ => rfl)) pe_int) (pv 2)) pa_nil)) pe_int) rfl)))))) pss_nil)
    (pss_cons (ps_if (pt_cmpR op_gt (pe_dget hu (pv 0) pe_str (fun _ _ => rfl)) pe_int (nomark _)) (pss_cons (ps_set (i := 3) sc_law_draw.nd rfl (Or.inl rfl) (pe_op op_modN (pe_callTy call_int1 (by rfl) B.int_ (by decide +kernel) (pa_cons (pe_dget hu (pv 0) pe_str (fun _ _ => rfl)) pa_nil)) (pv 1)))
    (pss_cons (ps_dput hu (pv 0) pe_str (pe_op op_fdivN (pe_dget hu (pv 0) pe_str (fun _ _ => rfl)) (pv 1)) rfl)
    (pss_one (ps_ret (pv 3))))) pss_nil)
    (pss_cons (ps_set (i := 4) sc_law_draw.nd rfl (Or.inl rfl) (pe_op op_add (pe_op op_add (pe_dget hu (pv 0) pe_str (fun _ _ => rfl)) (pe_op op_mul (pe_dget hu (pv 0) pe_str (fun _ _ => rfl)) pe_int)) pe_int))
    (pss_one (ps_ret (pe_op op_modN (pe_op op_fdivN (pe_callTy call_int1 (by rfl) B.int_ (by decide +kernel) (pa_cons (pe_op op_modN (pe_op op_pow (pv 4) pe_int) pe_int) pa_nil)) pe_int) (pv 1)))))))), ?_⟩
    obtain ⟨p, c, m, k, rfl, P, hm, hk0, hk1, q⟩ := h
    obtain ⟨ns, i, d, n, f, hp, hc, hi, hd, hn, hnm, hf0, hf1⟩ := P.ex
    have hcp : c ≠ p := fun e => by rw [e, hp] at hc; cases hc
    have s5 : (5 : Nat) < sizeLine := by decide
    -- count
    refine ⟨_, rfl, p, _, rfl, dget (k := Sum.inr "count") hp pen_count, _, _, rfl, rfl, _, rfl, p, _, rfl, dput (k := Sum.inr "count") hp s5 put_count, ?_⟩
    refine ⟨fun σ' H' => ∃ (i' d' f' : Int) (v : Option V), σ' = [some (.ref p), some (.int k), v, none, none] ∧ H' p = some (.dK (penK c i' d' (n + 1) f')) ∧ 0 ≤ i' ∧ 0 ≤ d' ∧ 0 ≤ f' ∧ f' < 2147483648 ∧ Keep p H H', ?_, ?_⟩
    · -- digits == 0 and at < len(cells)
      have n1 : ∀ {o}, upd H p o c = some (.lst (ns.map V.int)) := fun {o} => by rw [upd_ne hcp]; exact hc
      refine ⟨_, rfl, p, _, rfl, dget (k := Sum.inr "digits") upd_same pen_digits, rfl, _, rfl, ?_⟩
      refine ite2 (fun hd0 => ?_) (fun hd0 => ?_)
      · refine ⟨_, rfl, p, _, rfl, dget (k := Sum.inr "at") upd_same pen_at, _, rfl, p, _, rfl, dget (k := Sum.inr "cells") upd_same pen_cells, c, _, rfl, .inl (SqL.of n1), _, _, rfl, rfl, _, rfl, ?_⟩
        refine ite2 (fun hlt => ?_) (fun hlt => ?_)
        · have hlt' := of_decide_eq_true hlt
          rw [List.length_map] at hlt'
          obtain ⟨j, rfl⟩ := Int.eq_ofNat_of_zero_le hi
          have hj : j < ns.length := by omega
          -- cell, at
          refine ⟨_, rfl, p, _, rfl, dget (k := Sum.inr "cells") upd_same pen_cells, _, rfl, p, _, rfl, dget (k := Sum.inr "at") upd_same pen_at, .inl ⟨c, _, _, .int ns[j], rfl, rfl, SqL.of n1, at_of rfl (by rw [List.getElem?_map, List.getElem?_eq_getElem hj]; rfl), ?_⟩⟩
          refine ⟨_, rfl, p, _, rfl, dget (k := Sum.inr "at") upd_same pen_at, _, _, rfl, rfl, _, rfl, p, _, rfl, dput (k := Sum.inr "at") upd_same s5 put_at, ?_⟩
          refine ⟨_, rfl, _, _, rfl, rfl, ⟨by decide, by decide, by decide⟩, _, _, rfl, rfl, _, rfl, ?_⟩
          refine ite2 (fun hc18 => ?_) (fun hc18 => ?_)
          · have hc18' := of_decide_eq_true hc18
            refine ⟨_, rfl, _, _, rfl, rfl, ⟨by decide, by decide, by decide⟩, _, _, rfl, rfl, _, rfl, p, _, rfl, dput (k := Sum.inr "digits") upd_same s5 put_digits, ?_⟩
            refine ⟨_, _, _, _, rfl, upd_same, by omega, by omega, hf0, hf1, fun b o nb e => ?_⟩
            rw [upd_ne nb, upd_ne nb, upd_ne nb]; exact e
          · refine ⟨_, rfl, p, _, rfl, dget (k := Sum.inr "fold") upd_same pen_fold, _, _, rfl, rfl, .inr ⟨by decide, by decide⟩, _, rfl, _, _, rfl, rfl, .inl ⟨_, rfl, _, _, rfl, rfl, (by show (2147483587 : Int) ≠ 0; decide), _, rfl, p, _, rfl, dput (k := Sum.inr "fold") upd_same s5 put_fold, ?_⟩⟩
            have hb := fmod_in (a := f * 69069 + ns[j]) (b := 2147483587) (by decide)
            refine ⟨_, _, _, _, rfl, upd_same, by omega, hd, hb.1, by omega, fun b o nb e => ?_⟩
            rw [upd_ne nb, upd_ne nb, upd_ne nb]; exact e
        · exact ⟨_, _, _, _, rfl, upd_same, hi, hd, hf0, hf1, Keep.upd⟩
      · exact iteF ⟨_, _, _, _, rfl, upd_same, hi, hd, hf0, hf1, Keep.upd⟩
    · rintro σ H1 ⟨i1, d1, f1, v, rfl, hp1, hi1, hd1, hf01, hf11, kp⟩
      have pen' : ∀ {H2 : Hp} {i2 d2 f2 : Int}, H2 p = some (.dK (penK c i2 d2 (n + 1) f2)) → 0 ≤ i2 → 0 ≤ d2 → 0 ≤ f2 → f2 < 2147483648 → Keep p H H2 → Pen H2 p c (m + 1) := fun {H2 i2 d2 f2} e a1 a2 a3 a4 kk =>
        ⟨ns, i2, d2, n + 1, f2, e, kk c _ hcp hc, a1, a2, by omega, by omega, a3, a4⟩
      refine ⟨_, rfl, p, _, rfl, dget (k := Sum.inr "digits") hp1 pen_digits, _, _, rfl, rfl, _, rfl, ?_⟩
      refine ite2 (fun hpos => ?_) (fun hpos => ?_)
      · have hpos' := of_decide_eq_true hpos
        refine ⟨_, rfl, p, _, rfl, dget (k := Sum.inr "digits") hp1 pen_digits, .inl ⟨_, rfl, _, rfl, _, _, rfl, rfl, by show k ≠ 0; omega, ?_⟩⟩
        refine ⟨_, rfl, p, _, rfl, dget (k := Sum.inr "digits") hp1 pen_digits, _, rfl, _, _, rfl, rfl, ⟨by show k ≠ 0; omega, by show k.natAbs < 1073741824; omega⟩, _, rfl, p, _, rfl, dput (k := Sum.inr "digits") hp1 s5 put_digits, _, rfl, ?_⟩
        have hb := fmod_in (a := d1) (b := k) hk0
        have kk : Keep p H (upd H1 p (.dK (penK c i1 (d1.fdiv k) (n + 1) f1))) := kp.trans Keep.upd
        exact q _ _ hb.1 hb.2 (pen' upd_same hi1 (fdiv_nn hd1 hk0) hf01 hf11 kk) kk
      · refine ⟨_, rfl, p, _, rfl, dget (k := Sum.inr "fold") hp1 pen_fold, _, rfl, p, _, rfl, dget (k := Sum.inr "count") hp1 pen_count, _, _, rfl, rfl, .inr ⟨by decide, by decide⟩, _, _, rfl, rfl, _, _, rfl, rfl, ?_⟩
        refine ⟨_, rfl, _, _, rfl, rfl, ⟨by decide, by decide, by show (f1 + (n + 1) * 7907 + 37).natAbs < 2 ^ 64; omega⟩, _, _, rfl, rfl, (by show (2305843009213693951 : Int) ≠ 0; decide), .inl ⟨_, rfl, _, _, rfl, rfl, ⟨by decide, by decide⟩, _, rfl, _, _, rfl, rfl, by show k ≠ 0; omega, ?_⟩⟩
        have hb := fmod_in (a := (((f1 + (n + 1) * 7907 + 37) ^ ((17 : Int)).toNat).fmod 2305843009213693951).fdiv 128) (b := k) hk0
        exact q _ _ hb.1 hb.2 (pen' hp1 hi1 hd1 hf01 hf11 kp) kp
abbrev st_law_pick : Stmt := top 35
theorem sc_law_pick : FnScope ["_law_pen_here", "_law_some"] ["_law_pen_here", "_law_some"] (defScope st_law_pick) := ⟨rfl, rfl, rfl, by decide +kernel, rfl, by decide +kernel, by decide +kernel⟩
theorem ok_law_pick (B : Blt mg)  {f_law_draw : Addr} {fd_law_draw : FuncData} (D_law_draw : DefAt K mg "_law_draw" st_law_draw ["_law_pen_here", "_law_many"] f_law_draw fd_law_draw) {f_law_pick : Addr} {fd_law_pick : FuncData} (D_law_pick : DefAt K mg "_law_pick" st_law_pick ["_law_pen_here", "_law_some"] f_law_pick fd_law_pick) : FnOk P w K mg base CX0 2 f_law_pick fd_law_pick ["_law_pen_here", "_law_some"] (spPick K) := by
  have OK_law_draw : FnOk P w K mg base CX0 1 f_law_draw fd_law_draw ["_law_pen_here", "_law_many"] spDraw := ok_law_draw B  D_law_draw
  refine D_law_pick.F.ok sc_law_pick (fun vs H Q E h => ?_) (fun cdv A outer s H vs Q E hr h => ?_)
  · obtain ⟨p, c, a, m, xs, rfl, _⟩ := h; rfl
  · have hu := hu_of hr
    refine ⟨_, (pss_one (ps_ret (pe_ix ix_list (pv 1) (pe_call OK_law_draw (hr.mono (by decide)) rfl D_law_draw.m D_law_draw.F.kp D_law_draw.b .nil pass0 (pa_cons (pv 0) (pa_cons (pe_callB call_len_seq (by rfl) B.len_ (by decide +kernel) (pa_cons (pv 1) pa_nil)) pa_nil))) (fun _ _ => rfl)))), ?_⟩
    obtain ⟨p, c, a, m, xs, rfl, P, hm, hS, hl0, hl1, q⟩ := h
    refine ⟨_, rfl, _, rfl, _, rfl, a, xs, rfl, .inl hS, p, c, m, _, rfl, P, hm, by omega, by omega, fun r H' h0 h1 P' kp => ?_⟩
    obtain ⟨j, rfl⟩ := Int.eq_ofNat_of_zero_le h0
    have hj : j < xs.length := by omega
    exact ⟨a, xs, _, xs[j], rfl, rfl, kp.seqL P hS, at_of rfl (List.getElem?_eq_getElem hj), q j _ H' (List.getElem?_eq_getElem hj) P' kp⟩
end
end AL
set_option Elab.async false
set_option maxRecDepth 100000
set_option exponentiation.threshold 70000
set_option maxHeartbeats 1000000
/-! math.lcm of two ints below 2 ^ 13000. -/
namespace AL
open PySem PySem.Spec PyProof.Rows L2 PySem.W PySem.Calls
theorem lcm_lt {x y : Nat} (hx : x < 2 ^ 13000) (hy : y < 2 ^ 13000) : x.lcm y < 2 ^ 26000 := by
  have h1 : x.lcm y ≤ x * y := by
    unfold Nat.lcm
    exact Nat.div_le_self _ _
  have h2 : x * y < 2 ^ 13000 * 2 ^ 13000 := Nat.mul_lt_mul_of_lt_of_lt hx hy
  rw [← Nat.pow_add] at h2
  exact Nat.lt_of_le_of_lt h1 h2
section
variable {X : Cx}
theorem cr_lcm : CallR X (.builtin "math.lcm") (fun vs H Q => ∃ a b : Int, vs = [.int a, .int b] ∧ a.natAbs < 2 ^ 13000 ∧ b.natAbs < 2 ^ 13000 ∧ Q (.int ((Nat.lcm a.natAbs b.natAbs : Nat) : Int)) H) := by
  intro pins s σ H vs us Q I r h
  obtain ⟨a, b, rfl, ha, hb, q⟩ := h
  obtain ⟨t, u, rfl⟩ := Vals.int2 r
  have k : ∀ n : Nat, n < 2 ^ 13000 → ¬ n.log2 / 30 + 1 > 450 := fun n hn => by
    have := log2_small (k := 13000) (by decide) hn
    omega
  have e1 : Nat.lcm 1 a.natAbs = a.natAbs := Nat.lcm_one_left _
  have one : (1 : Nat) < 2 ^ 13000 := Nat.one_lt_two_pow (by decide)
  have sz : (((a.natAbs.lcm b.natAbs : Nat) : Int)).natAbs.log2 < bitsLine := by
    rw [Int.natAbs_natCast]
    exact Nat.lt_of_lt_of_le (log2_small (k := 26000) (by decide) (lcm_lt ha hb)) (by decide +kernel)
  have g := mg_run_lcm a t b u (k _ (Nat.max_lt.mpr ⟨one, ha⟩)) (k _ (Nat.max_lt.mpr ⟨ha, hb⟩)) (by rw [e1]; exact sz)
  rw [e1] at g
  exact call_function_meets MGF.kind_lcm MGF.plain_lcm MGF.entry_lcm (MGF.args_lcm _ _) g.meets ⟨.int _, H, I.tok _, ⟨_, rfl⟩, q⟩
end
end AL
set_option Elab.async false
set_option maxRecDepth 100000
set_option maxHeartbeats 2000000
/-! Operators that a class of the program writes itself; repr of any datum. -/
namespace AL
open PySem PySem.Spec PyProof.Rows L2
/-- repr(x), x any datum -/
def rReprV (K : PySem.W.Frag) : List V → Hp → VK → Prop := fun vs H Q => ∃ (v : V) (d : PyData), vs = [v] ∧ Dp K H v d ∧ d.showable = true ∧ d.hasDict = false ∧ d.depth ≤ 60 ∧ d.shown.length ≤ sizeLine ∧ Q (.str d.shown) H
theorem call_reprV {X : Cx} (gd : X.A.guards = some []) (hu : X.A.units + 64 < cLine) : CallR X (.builtin "repr") (rReprV X.K) := by
  intro pins s σ H vs us Q I r h
  obtain ⟨v, d, rfl, hd, h1, h2, h3, h4, q⟩ := h
  obtain ⟨u, rfl, ru⟩ := vals1 r
  have big : ∀ a : Addr, v = .ref a → wpAny (model X.prog X.w) X.A (call (.builtin "repr") [u]) (EP X pins σ Q) X.xe s := by
    intro a e
    subst e
    obtain rfl : u = Value.ref a := ru
    obtain ⟨as, rd⟩ := Dp.reads I d (.ref a) (.ref a) hd rfl
    exact repr_of_reads' rd h1 (PyData.noDict_hsm h2) gd (by omega) (fun _ _ z => z) (fun h' u tk kk => ⟨.str d.shown, H, I.kept (t' := tk) kk, ⟨u, rfl⟩, q⟩) h4
  cases hd with
  | non =>
    obtain rfl : u = Value.none := ru
    exact PySem.P.repr_of_none ⟨.str _, H, I.tok _, ⟨_, rfl⟩, q⟩
  | bl b =>
    obtain rfl : u = Value.bool b := ru
    refine PySem.P.repr_of_bool ⟨.str _, H, I.tok _, ⟨_, rfl⟩, ?_⟩
    cases b <;> exact q
  | int i =>
    obtain ⟨t, rfl⟩ := (show ∃ t, u = Value.int i t from ru)
    exact PySem.P.repr_of_int (by simpa [PyData.showable] using h1) ⟨.str _, H, I.tok _, ⟨_, rfl⟩, q⟩
  | str x =>
    obtain ⟨t, rfl⟩ := (show ∃ t, u = Value.str x t from ru)
    exact PySem.P.repr_of_str ⟨.str _, H, I.tok _, ⟨_, rfl⟩, q⟩ h4
  | lst hs ha => exact big _ rfl
  | tup hs ha => exact big _ rfl
/-- an instance -/
def InsAt (H : Hp) (a C : Addr) : Prop := ∃ dx fs, H a = some (.ins C dx fs)
/-- values that an own operator may hand back -/
def Told (v : V) : Prop := (∃ a, v = .ref a) ∨ ∃ b, v = .bl b
theorem cmpBack {Q : VK} {X : Cx} {pins : List (Addr × Obj)} {σ : L2.St} {u : Value} {s : Shared} (h : EP X pins σ (fun v H' => Told v ∧ Q v H') u s) : PySem.W.CmpBack (EP X pins σ Q) u s := by
  obtain ⟨v, H', I, r, t, q⟩ := h
  rcases t with ⟨a, rfl⟩ | ⟨b, rfl⟩
  · cases (show u = Value.ref a from r)
    exact ⟨.ref a, H', I, rfl, q⟩
  · cases (show u = Value.bool b from r)
    exact ⟨.bl b, H', I, rfl, q⟩
section
variable {X : Cx} {CX : CXT} {k : Nat} {f C : Addr} {fd : FuncData} {ps : List Str} {sp : Sp} {E : XK}
/-- x op y, both of the class at C, by its own method -/
def rOwn2 (C : Addr) (sp : Sp) (E : XK) : R2 := fun x y H Q => ∃ a b, x = .ref a ∧ y = .ref b ∧ InsAt H a C ∧ InsAt H b C ∧ sp [.ref a, .ref b] H (fun v H' => Told v ∧ Q v H') E
theorem op_own2 {op : Operator} (sf : PySem.W.selfFirst X.K C = true) (M : Meth X.K C (PySem.dunder op.info.2) f) (F : FnOk X.prog X.w X.K X.mg X.base CX k f fd ps sp) (hr : Room k X.A) (hb : Binds X.K fd ps []) (hx : Passes CX X E) : OpR X (binaryOp op) (rOwn2 C sp E) := by
  intro pins s σ H x y v u Q I rx ry h
  obtain ⟨a, b, rfl, rfl, ⟨dx, fs, ha⟩, ⟨dy, gs, hb'⟩, q⟩ := h
  cases rx
  cases ry
  obtain ⟨mA, J, _⟩ := ins_get I.hok ha
  obtain ⟨mB, J', _⟩ := ins_get I.hok hb'
  obtain ⟨od, J, _⟩ := J.look
  obtain ⟨od', J', _⟩ := J'.look
  obtain ⟨m, hF⟩ := I.fr
  refine PySem.W.binop_K (op := op) hF I.ok.mod.kin J J'.type sf M.at_ M.fn ?_
  exact wpAny_mono (run_fn F hr hb .nil hx I (vs := [.ref a, .ref b]) (.cons rfl (.cons rfl .nil)) q) (fun _ _ z => cmpBack z) fun _ _ z => z
/-- -x -/
def rOwn1 (C : Addr) (sp : Sp) (E : XK) : V → Hp → VK → Prop := fun x H Q => ∃ a, x = .ref a ∧ InsAt H a C ∧ sp [.ref a] H Q E
theorem un_own (M : Meth X.K C "__neg__" f) (F : FnOk X.prog X.w X.K X.mg X.base CX k f fd ps sp) (hr : Room k X.A) (hb : Binds X.K fd ps []) (hx : Passes CX X E) : UnR X (unaryOp .USub) (rOwn1 C sp E) := by
  intro pins s σ H x v Q I rx h
  obtain ⟨a, rfl, ⟨dx, fs, ha⟩, q⟩ := h
  cases rx
  obtain ⟨mA, J, _⟩ := ins_get I.hok ha
  obtain ⟨od, J, _⟩ := J.look
  unfold unaryOp
  refine wpAny_holding ?_
  show wpAny _ _ (callSpecial? (.ref a) "__neg__" >>= _) _ _ _
  refine wpAny_bind (PySem.W.special_fn I.kIn J M.at_ (beq_iff_eq.mp M.fn) ?_)
  exact wpAny_mono (run_fn F hr hb .nil hx I (vs := [.ref a]) (.cons rfl .nil) q) (fun _ _ z => wpAny_pure z) fun _ _ z => z
/-- x == y, x of the class at C -/
def rOwnE (K : PySem.W.Frag) (C : Addr) (sp : Sp) (E : XK) : R2 := fun x y H Q => ∃ a tb, x = .ref a ∧ InsAt H a C ∧ TyX K H y tb ∧ PySem.W.notFirst K C tb = true ∧ sp [.ref a, y] H (fun v H' => Told v ∧ Q v H') E
theorem op_ownE (M : Meth X.K C "__eq__" f) (F : FnOk X.prog X.w X.K X.mg X.base CX k f fd ps sp) (hr : Room k X.A) (hb : Binds X.K fd ps []) (hx : Passes CX X E) : OpR X (compareOp .Eq) (rOwnE X.K C sp E) := by
  intro pins s σ H x y v u Q I rx ry h
  obtain ⟨a, tb, rfl, ⟨dx, fs, ha⟩, ty, nf, q⟩ := h
  cases rx
  obtain ⟨mA, J, _⟩ := ins_get I.hok ha
  obtain ⟨od, J, _⟩ := J.look
  obtain ⟨m, hF⟩ := I.fr
  obtain ⟨P, Z, p, _⟩ := kit_of I ry ty
  show wpAny (model X.prog X.w) X.A (richCompare .Eq (.ref a) u) (EP X pins σ Q) X.xe s
  refine PySem.W.cmp_K (op := .Eq) (tb := tb) hr.units0 hF I.ok.mod.kin J (Z.ty _ _ I.kIn p) nf M.at_ M.fn ?_
  exact wpAny_mono (run_fn F hr hb .nil hx I (vs := [.ref a, y]) (.cons rfl (.cons ry .nil)) q) (fun _ _ z => cmpBack z) fun _ _ z => z
end
end AL
set_option Elab.async false
set_option maxRecDepth 100000
set_option exponentiation.threshold 70000
set_option maxHeartbeats 1000000
/-! Ratios as they are passed, and what the helpers of the program promise of them. -/
namespace AL
open PySem L2
def LowOk (a : Int) (b : Nat) : Prop := (a.natAbs < N4 ∧ b < N4) ∨ Nat.gcd a.natAbs b < 2 ^ 8000
/-- the pair in lowest terms -/
def nrm (a : Int) (b : Nat) : Int × Nat := (a.fdiv ((Nat.gcd a.natAbs b : Nat) : Int), b / Nat.gcd a.natAbs b)
theorem nrm_one (i : Int) : nrm i 1 = (i, 1) := by
  unfold nrm
  rw [Nat.gcd_one_right]
  show (i.fdiv ((1 : Nat) : Int), 1 / 1) = (i, 1)
  rw [Int.fdiv_eq_ediv_of_nonneg _ (by decide)]
  simp
/-- lowest(a, b) -/
def spLowC : Sp := fun vs H Q _ => ∃ (a : Int) (b : Nat), vs = [.int a, .int (b : Int)] ∧ LowOk a b ∧ b ≠ 0 ∧ ∀ t, H t = none → Q (.ref t) (upd H t (.tup [.int (nrm a b).1, .int ((nrm a b).2 : Int)]))
/-- _law_q(a, b) -/
def spQC : Sp := fun vs H Q _ => ∃ (a : Int) (b : Nat), vs = [.int a, .int (b : Int)] ∧ a.natAbs < N6 ∧ b < N6 ∧ LowOk a b ∧ b ≠ 0 ∧ ∀ t, H t = none → Q (.ref t) (upd H t (.tup [.int (nrm a b).1, .int ((nrm a b).2 : Int)]))
/-- is_whole(x), of a value of any kind -/
def spWholeV (K : PySem.W.Frag) : Sp := fun vs H Q _ => ∃ (x : V) (u : Value) (b c : Bool), vs = [x] ∧ TyX K H x u ∧ PySem.W.kitOne K u (.type "int") = some b ∧ PySem.W.kitOne K u (.type "bool") = some c ∧ Q (.bl (b && !c)) H
def flatW : V → Option Bool
  | .int _ => some true
  | .bl _ => some false
  | .non => some false
  | .str _ => some false
  | _ => none
theorem flat_ty {K : PySem.W.Frag} {H : Hp} {x : V} {w : Bool} (h : flatW x = some w) : ∃ u b c, TyX K H x u ∧ PySem.W.kitOne K u (.type "int") = some b ∧ PySem.W.kitOne K u (.type "bool") = some c ∧ (b && !c) = w := by
  cases x with
  | int i => cases h; exact ⟨_, true, false, TyX.base (.int i), rfl, rfl, rfl⟩
  | bl b => cases h; exact ⟨_, true, true, TyX.base (.bl b), rfl, rfl, rfl⟩
  | non => cases h; exact ⟨_, false, false, TyX.base .non, rfl, rfl, rfl⟩
  | str z => cases h; exact ⟨_, false, false, TyX.base (.str z), rfl, rfl, rfl⟩
  | _ => cases h
theorem flat_not {K : PySem.W.Frag} {H : Hp} {x : V} {w : Bool} (h : flatW x = some w) : ∃ u, TyX K H x u ∧ PySem.W.kitOne K u (.type "tuple") = some false := by
  cases x with
  | int i => exact ⟨_, TyX.base (.int i), rfl⟩
  | bl b => exact ⟨_, TyX.base (.bl b), rfl⟩
  | non => exact ⟨_, TyX.base .non, rfl⟩
  | str z => exact ⟨_, TyX.base (.str z), rfl⟩
  | _ => cases h
/-- are_integers(t), t a tuple of flat values -/
def spAre (K : PySem.W.Frag) : Sp := fun vs H Q _ => ∃ (t : Addr) (xs : List V) (f : V → Bool), vs = [.ref t] ∧ H t = some (.tup xs) ∧ xs.length ≤ 100 ∧ (∀ x ∈ xs, flatW x = some (f x)) ∧ ∀ H', Same H H' → Q (.bl (xs.all f)) H'
/-- what may be passed for a ratio: none where it is none -/
inductive RatV (K : PySem.W.Frag) (H : Hp) : V → Option (Int × Nat) → Prop
  | int (i : Int) : RatV K H (.int i) (some (i, 1))
  | pair {t : Addr} {p : Int} {q : Nat} (h : H t = some (.tup [.int p, .int (q : Int)])) (h0 : 0 < q) : RatV K H (.ref t) (some (p, q))
  | other {x : V} {u : Value} {b c : Bool} (h : TyX K H x u) (ht : PySem.W.kitOne K u (.type "tuple") = some false) (hb : PySem.W.kitOne K u (.type "int") = some b) (hc : PySem.W.kitOne K u (.type "bool") = some c) (no : (b && !c) = false) : RatV K H x none
  | long {t : Addr} {xs : List V} (h : H t = some (.tup xs)) (hl : xs.length ≠ 2) : RatV K H (.ref t) none
  | item {t : Addr} {x y : V} {b c : Bool} (h : H t = some (.tup [x, y])) (hx : flatW x = some b) (hy : flatW y = some c) (no : (b && c) = false) : RatV K H (.ref t) none
  | sign {t : Addr} {p q : Int} (h : H t = some (.tup [.int p, .int q])) (h0 : q ≤ 0) : RatV K H (.ref t) none
theorem RatV.same {K : PySem.W.Frag} {H H' : Hp} {x : V} {r : Option (Int × Nat)} (h : RatV K H x r) (s : Same H H') (ty : ∀ u, TyX K H x u → TyX K H' x u) : RatV K H' x r := by
  cases h with
  | int i => exact .int i
  | pair h h0 => exact .pair (s _ _ h) h0
  | other h ht hb hc no => exact .other (ty _ h) ht hb hc no
  | long h hl => exact .long (s _ _ h) hl
  | item h hx hy no => exact .item (s _ _ h) hx hy no
  | sign h h0 => exact .sign (s _ _ h) h0
/-- is_ratio(x) -/
def spIsRatV (K : PySem.W.Frag) : Sp := fun vs H Q _ => ∃ (x : V) (r : Option (Int × Nat)), vs = [x] ∧ RatV K H x r ∧ ∀ H', Same H H' → Q (.bl r.isSome) H'
/-- as_ratio(x) -/
def spAs (K : PySem.W.Frag) : Sp := fun vs H Q _ => ∃ (x : V) (p : Int) (q : Nat), vs = [x] ∧ RatV K H x (some (p, q)) ∧ LowOk p q ∧ ∀ t, H t = none → Q (.ref t) (upd H t (.tup [.int (nrm p q).1, .int ((nrm p q).2 : Int)]))
/-- whole_power(b, n) -/
def spPow : Sp := fun vs H Q _ => ∃ (b : Int) (n a : Nat), vs = [.int b, .int (n : Int)] ∧ b.natAbs < 2 ^ a ∧ 0 < a ∧ a * n ≤ 400000 ∧ a ≤ 400000 ∧ Q (.int (b ^ n)) H
/-- digits_of(i) -/
def spDig : Sp := fun vs H Q _ => ∃ (i : Int), vs = [.int i] ∧ Q (.int ((ndig i.natAbs : Nat) : Int)) H
/-- newton_step(n, j + 1, g) -/
def spStep : Sp := fun vs H Q _ => ∃ (n j g : Nat), vs = [.int (n : Int), .int ((j + 1 : Nat) : Int), .int (g : Int)] ∧ n < 2 ^ 8000 ∧ j < 1000 ∧ 0 < g ∧ g < 2 ^ 8100 ∧ g ^ j < 2 ^ 13500 ∧ Q (.int ((nstep n j g : Nat) : Int)) H
/-- floor_root(n, k) -/
def spFloor : Sp := fun vs H Q _ => ∃ (n k : Nat), vs = [.int (n : Int), .int (k : Int)] ∧ n < 2 ^ 4000 ∧ 0 < k ∧ k < 1000 ∧ ∀ g, isRoot n k g → Q (.int (g : Int)) H
/-- whole_root(n, k) -/
def spRoot : Sp := fun vs H Q _ => ∃ (n k : Nat), vs = [.int (n : Int), .int (k : Int)] ∧ n < 2 ^ 4000 ∧ 0 < k ∧ k < 1000 ∧ (∀ r, r ^ k = n → Q (.int (r : Int)) H) ∧ ((∀ r, r ^ k ≠ n) → Q .non H)
/-- ratio_root((p, q), k) -/
def spRatRoot (K : PySem.W.Frag) : Sp := fun vs H Q _ => ∃ (t : Addr) (p q k : Nat), vs = [.ref t, .int (k : Int)] ∧ H t = some (.tup [.int (p : Int), .int (q : Int)]) ∧ p < 2 ^ 4000 ∧ q < 2 ^ 4000 ∧ 0 < k ∧ k < 1000 ∧
  (∀ a b t', a ^ k = p → b ^ k = q → H t' = none → Q (.ref t') (upd H t' (.tup [.int (a : Int), .int (b : Int)]))) ∧ ((∀ a b, ¬ (a ^ k = p ∧ b ^ k = q)) → Q .non H)
end AL
set_option Elab.async false
set_option maxRecDepth 100000
set_option exponentiation.threshold 70000
set_option maxHeartbeats 1000000
/-! What ratio_text and root_of promise. -/
namespace AL
open PySem L2
def numI (a : Int) : Str := Str.ofString (toString a)
/-- the shortest text of a ratio in lowest terms -/
def txt (a : Int) (b : Nat) : Str := if b = 1 then numI a else numI a ++ "/" ++ numI (b : Int)
def many (a : Int) (b : Nat) : Nat := max (ndig a.natAbs) (ndig b)
/-- ratio_text(x) -/
def spText (K : PySem.W.Frag) (BN TL : Addr) : Sp := fun vs H Q E => ∃ (x : V) (r : Option (Int × Nat)), vs = [x] ∧ RatV K H x r ∧
  (r = none → ∀ d H1, H1 d = none → Same H H1 → E (.ref BN) (some d) (upd H1 d (.xd [("number", x), ("what", .str "ratio")]))) ∧
  (∀ p q, r = some (p, q) → LowOk p q ∧
    (4000 < many (nrm p q).1 (nrm p q).2 → ∀ d H1, H1 d = none → Same H H1 → E (.ref TL) (some d) (upd H1 d (.xd [("limit", .int 4000), ("number", .int ((many (nrm p q).1 (nrm p q).2 : Nat) : Int)), ("what", .str "digits")]))) ∧
    (many (nrm p q).1 (nrm p q).2 ≤ 4000 → ∀ H1, Same H H1 → Q (.str (txt (nrm p q).1 (nrm p q).2)) H1))
theorem RatV.someSame {K : PySem.W.Frag} {H H' : Hp} {x : V} {r : Int × Nat} (h : RatV K H x (some r)) (s : Same H H') : RatV K H' x (some r) := by
  cases h with
  | int i => exact .int i
  | pair h h0 => exact .pair (s _ _ h) h0
theorem RatV.pos {K : PySem.W.Frag} {H : Hp} {x : V} {p : Int} {q : Nat} (h : RatV K H x (some (p, q))) : 0 < q := by
  cases h with
  | int i => decide
  | pair h h0 => exact h0
/-- what may be passed for a root -/
inductive RootV (K : PySem.W.Frag) (H : Hp) : V → Option Nat → Prop
  | ok (k : Nat) (h1 : 1 ≤ k) (h2 : k ≤ 60) : RootV K H (.int (k : Int)) (some k)
  | far (i : Int) (h : i < 1 ∨ 60 < i) : RootV K H (.int i) none
  | other {x : V} {u : Value} {b c : Bool} (h : ∀ H', Same H H' → TyX K H' x u) (hb : PySem.W.kitOne K u (.type "int") = some b) (hc : PySem.W.kitOne K u (.type "bool") = some c) (no : (b && !c) = false) : RootV K H x none
/-- the ratio is none, or below 0 -/
def badRat : Option (Int × Nat) → Bool
  | none => true
  | some (p, q) => decide ((nrm p q).1 < 0)
/-- root_of(x, y) -/
def spRootOf (K : PySem.W.Frag) (BN : Addr) : Sp := fun vs H Q E => ∃ (x y : V) (r : Option (Int × Nat)) (k : Option Nat), vs = [x, y] ∧ RatV K H x r ∧ RootV K H y k ∧ (∀ p q, r = some (p, q) → LowOk p q) ∧
  (badRat r = true → ∀ d H1, H1 d = none → Same H H1 → E (.ref BN) (some d) (upd H1 d (.xd [("number", x), ("what", .str "ratio")]))) ∧
  (badRat r = false → k = none → ∀ d H1, H1 d = none → Same H H1 → E (.ref BN) (some d) (upd H1 d (.xd [("number", y), ("what", .str "root")]))) ∧
  (∀ p q n, r = some (p, q) → badRat r = false → k = some n → (nrm p q).1.natAbs < 2 ^ 4000 ∧ (nrm p q).2 < 2 ^ 4000 ∧
    (∀ u v t H1, u ^ n = (nrm p q).1.natAbs → v ^ n = (nrm p q).2 → H1 t = none → Same H H1 → Q (.ref t) (upd H1 t (.tup [.int (u : Int), .int (v : Int)]))) ∧
    ((∀ u v, ¬ (u ^ n = (nrm p q).1.natAbs ∧ v ^ n = (nrm p q).2)) → ∀ H1, Same H H1 → Q .non H1))
theorem empty_app (x : Str) : Str.empty ++ x = x := by
  cases x with
  | mk a =>
    show (⟨#[] ++ a⟩ : Str) = ⟨a⟩
    rw [Array.empty_append]
theorem numI_len {a : Int} {k : Nat} (hk : 0 < k) (h : a.natAbs < 10 ^ k) : (numI a).length ≤ k + 1 := by
  have e : (numI a).length = (toString a).length := by
    unfold numI
    rw [Str.ofString_eq_toList]
    show (((toString a).toList.map Char.toNat).toArray).size = _
    rw [List.size_toArray, List.length_map, String.length_toList]
  rw [e]
  have := int_text_length_le10 hk h
  omega
end AL
set_option Elab.async false
set_option maxRecDepth 100000
set_option exponentiation.threshold 70000
set_option maxHeartbeats 1000000
/-! What the law's own helpers promise. -/
namespace AL
open PySem L2
/-- _law_written(t) -/
def spWritten : Sp := fun vs H Q _ => ∃ (t : Addr) (a : Int) (b : Nat), vs = [.ref t] ∧ H t = some (.tup [.int a, .int (b : Int)]) ∧ many a b ≤ 4000 ∧ Q (.str (txt a b)) H
/-- _law_passed(pen, t) -/
def spPassed (K : PySem.W.Frag) : Sp := fun vs H Q _ => ∃ (p c t : Addr) (m : Nat) (a b : Nat), vs = [.ref p, .ref t] ∧ Pen H p c m ∧ m < 800000000 ∧ H t = some (.tup [.int (a : Int), .int (b : Int)]) ∧ 0 < b ∧ a < 2 ^ 4000 ∧ b < 2 ^ 4000 ∧
  ∀ (x : V) (k : Nat) H', 0 < k → k ≤ 10 → RatV K H' x (some (((a * k : Nat) : Int), b * k)) → Pen H' p c (m + 2) → Keep p H H' → Q x H'
/-- _law_power(t, n) -/
def spPower : Sp := fun vs H Q _ => ∃ (t : Addr) (a b n e : Nat), vs = [.ref t, .int (n : Int)] ∧ H t = some (.tup [.int (a : Int), .int (b : Int)]) ∧ a < 2 ^ e ∧ b < 2 ^ e ∧ 0 < e ∧ e * n ≤ 400000 ∧ e ≤ 400000 ∧ n ≤ 60 ∧
  ∀ t' H', Same H H' → H' t' = some (.tup [.int ((a ^ n : Nat) : Int), .int ((b ^ n : Nat) : Int)]) → Q (.ref t') H'
/-- _law_whole_power(a, n) -/
def spWP : Sp := fun vs H Q _ => ∃ (a n e : Nat), vs = [.int (a : Int), .int (n : Int)] ∧ a < 2 ^ e ∧ 0 < e ∧ e * n ≤ 400000 ∧ e ≤ 400000 ∧ n ≤ 60 ∧ Q (.int ((a ^ n : Nat) : Int)) H
/-- _law_is_power(n, k) -/
def spIsPow : Sp := fun vs H Q _ => ∃ (n k : Nat), vs = [.int (n : Int), .int (k : Int)] ∧ n < 2 ^ 4000 ∧ 0 < k ∧ k ≤ 60 ∧ ∀ (w : Bool) H', Same H H' → (w = true ↔ ∃ r, r ^ k = n) → Q (.bl w) H'
theorem pow_fit {a e i n : Nat} (ha : a < 2 ^ e) (he : 0 < e) (hin : i ≤ n) (hn : e * n ≤ 400000) : ((a ^ i : Nat) : Int).natAbs < 2 ^ 400001 := by
  rw [Int.natAbs_natCast]
  refine Nat.lt_of_le_of_lt (Nat.pow_le_pow_left (Nat.le_of_lt ha) i) ?_
  rw [← Nat.pow_mul]
  have := Nat.mul_le_mul_left e hin
  exact Nat.pow_lt_pow_right (by decide) (by omega)
theorem half_le {w j : Nat} (h : w ≤ 2 ^ (j + 1)) : (w + 1) / 2 ≤ 2 ^ j := by
  rw [Nat.pow_succ] at h
  omega
end AL
set_option Elab.async false
set_option maxRecDepth 100000
set_option exponentiation.threshold 70000
set_option maxHeartbeats 1000000
/-! Sums and products of ratios: both sides' promises, and what they mean. -/
namespace AL
open PySem L2
def DivOk (a b : Int) : Prop := (a.natAbs < 2 ^ 13500 ∧ b.natAbs < 2 ^ 13500) ∨ Nat.gcd a.natAbs b.natAbs < 2 ^ 8000
/-- lowest terms, the bottom of any sign -/
def shr (a b : Int) : Int := if b < 0 then -((Nat.gcd a.natAbs b.natAbs : Nat) : Int) else ((Nat.gcd a.natAbs b.natAbs : Nat) : Int)
def lowI (a b : Int) : Int × Int := (a.fdiv (shr a b), b.fdiv (shr a b))
theorem nrm_spec (a : Int) {b : Nat} (hb : 0 < b) : 0 < (nrm a b).2 ∧ Nat.gcd (nrm a b).1.natAbs (nrm a b).2 = 1 ∧ (nrm a b).1 * (b : Int) = a * ((nrm a b).2 : Int) := by
  have hg : 0 < Nat.gcd a.natAbs b := Nat.gcd_pos_of_pos_right _ hb
  have d1 : ((Nat.gcd a.natAbs b : Nat) : Int) ∣ a := Int.ofNat_dvd_left.mpr (Nat.gcd_dvd_left _ _)
  have d2 := Nat.gcd_dvd_right a.natAbs b
  have e1 : (nrm a b).1 = a / ((Nat.gcd a.natAbs b : Nat) : Int) := by
    unfold nrm
    exact Int.fdiv_eq_ediv_of_nonneg _ (by omega)
  have e2 : (nrm a b).2 = b / Nat.gcd a.natAbs b := rfl
  refine ⟨?_, ?_, ?_⟩
  · rw [e2]; exact Nat.div_pos (Nat.le_of_dvd hb d2) hg
  · rw [e1, e2, Int.natAbs_ediv_of_dvd d1, Int.natAbs_natCast, Nat.gcd_div (Nat.gcd_dvd_left _ _) d2, Nat.div_self hg]
  · rw [e1, e2]
    generalize hgg : Nat.gcd a.natAbs b = g at *
    obtain ⟨x, hx⟩ := d1
    obtain ⟨y, hy⟩ := d2
    have hg0 : (g : Int) ≠ 0 := by omega
    rw [hx, hy, Int.mul_ediv_cancel_left _ hg0, Nat.mul_div_cancel_left _ hg, Int.natCast_mul]
    rw [Int.mul_assoc, Int.mul_left_comm]
/-- two ratios in lowest terms that are the same number -/
theorem low_unique {p a : Int} {q b : Nat} (hq : 0 < q) (hb : 0 < b) (c1 : Nat.gcd p.natAbs q = 1) (c2 : Nat.gcd a.natAbs b = 1) (e : p * (b : Int) = a * (q : Int)) : p = a ∧ q = b := by
  have en : p.natAbs * b = a.natAbs * q := by
    have := congrArg Int.natAbs e
    rwa [Int.natAbs_mul, Int.natAbs_mul, Int.natAbs_natCast, Int.natAbs_natCast] at this
  have d1 : q ∣ b := (Nat.Coprime.dvd_of_dvd_mul_left (Nat.Coprime.symm c1) ⟨a.natAbs, by rw [en, Nat.mul_comm]⟩)
  have d2 : b ∣ q := (Nat.Coprime.dvd_of_dvd_mul_left (Nat.Coprime.symm c2) ⟨p.natAbs, by rw [← en, Nat.mul_comm]⟩)
  have hqb := Nat.dvd_antisymm d1 d2
  refine ⟨?_, hqb⟩
  subst hqb
  exact Int.eq_of_mul_eq_mul_right (by omega) e
theorem nrm_eq {p a : Int} {q b : Nat} (hq : 0 < q) (hb : 0 < b) (c1 : Nat.gcd p.natAbs q = 1) (e : p * (b : Int) = a * (q : Int)) : nrm a b = (p, q) := by
  obtain ⟨h1, h2, h3⟩ := nrm_spec a hb
  have e2 : p * ((nrm a b).2 : Int) = (nrm a b).1 * (q : Int) := by
    have hb0 : (b : Int) ≠ 0 := by omega
    refine Int.eq_of_mul_eq_mul_right hb0 ?_
    calc p * ((nrm a b).2 : Int) * (b : Int) = p * (b : Int) * ((nrm a b).2 : Int) := by rw [Int.mul_assoc, Int.mul_assoc, Int.mul_comm ((nrm a b).2 : Int)]
      _ = a * (q : Int) * ((nrm a b).2 : Int) := by rw [e]
      _ = a * ((nrm a b).2 : Int) * (q : Int) := by rw [Int.mul_assoc, Int.mul_assoc, Int.mul_comm (q : Int)]
      _ = (nrm a b).1 * (b : Int) * (q : Int) := by rw [← h3]
      _ = (nrm a b).1 * (q : Int) * (b : Int) := by rw [Int.mul_assoc, Int.mul_assoc, Int.mul_comm (b : Int)]
  obtain ⟨r1, r2⟩ := low_unique hq h1 c1 h2 e2
  exact Prod.ext r1.symm r2.symm
theorem lowI_pos (a : Int) (b : Nat) : lowI a (b : Int) = ((nrm a b).1, ((nrm a b).2 : Int)) := by
  have hs : shr a (b : Int) = ((Nat.gcd a.natAbs b : Nat) : Int) := by
    unfold shr
    rw [if_neg (by omega), Int.natAbs_natCast]
  unfold lowI nrm
  rw [hs, fdiv_nat]
theorem lowI_neg (a : Int) {b : Int} (h : 0 < b) : lowI a (-b) = lowI (-a) b := by
  unfold lowI shr
  rw [if_pos (by omega), if_neg (by omega), Int.natAbs_neg, Int.natAbs_neg]
  generalize ((Nat.gcd a.natAbs b.natAbs : Nat) : Int) = g
  have e : ∀ x : Int, x.fdiv (-g) = (-x).fdiv g := fun x => by
    have := Int.neg_fdiv_neg (a := -x) (b := g)
    rw [Int.neg_neg] at this
    exact this
  rw [e, e, Int.neg_neg]
/-- lowest(a, b), _law_q(a, b) -/
def spLowG : Sp := fun vs H Q _ => ∃ (a b : Int), vs = [.int a, .int b] ∧ DivOk a b ∧ b ≠ 0 ∧ ∀ t, H t = none → Q (.ref t) (upd H t (.tup [.int (lowI a b).1, .int (lowI a b).2]))
def spQG : Sp := fun vs H Q _ => ∃ (a b : Int), vs = [.int a, .int b] ∧ a.natAbs < N6 ∧ b.natAbs < N6 ∧ DivOk a b ∧ b ≠ 0 ∧ ∀ t, H t = none → Q (.ref t) (upd H t (.tup [.int (lowI a b).1, .int (lowI a b).2]))
/-- a ratio at t -/
def RatAt (H : Hp) (t : Addr) (a : Int) (b : Nat) : Prop := H t = some (.tup [.int a, .int (b : Int)])
def Mid (a : Int) (b : Nat) : Prop := 0 < b ∧ a.natAbs < 2 ^ 6000 ∧ b < 2 ^ 6000
/-- what two ratios make -/
def spTwo (f : Int → Nat → Int → Nat → Int × Nat) : Sp := fun vs H Q _ => ∃ (s t : Addr) (a c : Int) (b d : Nat), vs = [.ref s, .ref t] ∧ RatAt H s a b ∧ RatAt H t c d ∧ Mid a b ∧ Mid c d ∧ ∀ u, H u = none → Q (.ref u) (upd H u (.tup [.int (f a b c d).1, .int ((f a b c d).2 : Int)]))
def sumR (a : Int) (b : Nat) (c : Int) (d : Nat) : Int × Nat := nrm (a * (d : Int) + c * (b : Int)) (b * d)
def difR (a : Int) (b : Nat) (c : Int) (d : Nat) : Int × Nat := nrm (a * (d : Int) - c * (b : Int)) (b * d)
def mulR (a : Int) (b : Nat) (c : Int) (d : Nat) : Int × Nat := nrm (a * c) (b * d)
theorem mid_mul {x y : Int} (hx : x.natAbs < 2 ^ 6000) (hy : y.natAbs < 2 ^ 6000) : CMulW x y ∧ (x * y).natAbs < 2 ^ 12000 := by
  refine ⟨wide_mul (a := 6000) (b := 6000) hx hy (by decide) (by decide) (by decide), ?_⟩
  rw [Int.natAbs_mul, show (2 : Nat) ^ 12000 = 2 ^ 6000 * 2 ^ 6000 by rw [← Nat.pow_add]]
  exact Nat.mul_lt_mul_of_lt_of_lt hx hy
theorem mid_div {x y : Int} (hx : x.natAbs < 2 ^ 12001) (hy : y.natAbs < 2 ^ 12001) : DivOk x y ∧ x.natAbs < N6 ∧ y.natAbs < N6 := by
  have h1 : (2 : Nat) ^ 12001 ≤ 2 ^ 13500 := Nat.pow_le_pow_right (by decide) (by decide)
  have h2 : (2 : Nat) ^ 12001 ≤ N6 := by unfold N6; decide +kernel
  exact ⟨.inl ⟨Nat.lt_of_lt_of_le hx h1, Nat.lt_of_lt_of_le hy h1⟩, Nat.lt_of_lt_of_le hx h2, Nat.lt_of_lt_of_le hy h2⟩
theorem up12 {x : Nat} (h : x < 2 ^ 12000) : x < 2 ^ 12001 := Nat.lt_trans h (Nat.pow_lt_pow_right (by decide) (by decide))
theorem add12 {x y : Int} (hx : x.natAbs < 2 ^ 12000) (hy : y.natAbs < 2 ^ 12000) : (x + y).natAbs < 2 ^ 12001 ∧ (x - y).natAbs < 2 ^ 12001 := by
  have e : (2 : Nat) ^ 12001 = 2 ^ 12000 + 2 ^ 12000 := by rw [show 12001 = 12000 + 1 from rfl, Nat.pow_succ, Nat.mul_two]
  rw [e]
  generalize (2 : Nat) ^ 12000 = z at hx hy ⊢
  omega
end AL
set_option Elab.async false
set_option maxRecDepth 100000
set_option exponentiation.threshold 70000
set_option maxHeartbeats 1000000
/-! Amounts: what stands in the heap, what each method promises, and the arithmetic of both sides. -/
namespace AL
open PySem L2
/-! ### ratios in lowest terms -/
def Low (p : Int) (q : Nat) : Prop := 0 < q ∧ Nat.gcd p.natAbs q = 1
theorem nrm_low {p : Int} {q : Nat} (h : Low p q) : nrm p q = (p, q) := nrm_eq h.1 h.1 h.2 rfl
theorem low_nrm (a : Int) {b : Nat} (hb : 0 < b) : Low (nrm a b).1 (nrm a b).2 := by
  obtain ⟨h1, h2, _⟩ := nrm_spec a hb
  exact ⟨h1, h2⟩
theorem nrm_le (a : Int) (b : Nat) : (nrm a b).1.natAbs ≤ a.natAbs ∧ (nrm a b).2 ≤ b := by
  unfold nrm
  refine ⟨?_, Nat.div_le_self _ _⟩
  rw [Int.fdiv_eq_ediv_of_nonneg _ (by omega), Int.natAbs_ediv_of_dvd (Int.ofNat_dvd_left.mpr (Nat.gcd_dvd_left _ _)), Int.natAbs_natCast]
  exact Nat.div_le_self _ _
theorem low_neg {p : Int} {q : Nat} (h : Low p q) : Low (-p) q := ⟨h.1, by rw [Int.natAbs_neg]; exact h.2⟩
theorem low_one (i : Int) : Low i 1 := ⟨by decide, Nat.gcd_one_right _⟩
def Sm (p : Int) (q : Nat) : Prop := p.natAbs < 2 ^ 1000 ∧ q < 2 ^ 1000
theorem sm_mid {p : Int} {q : Nat} (h : Sm p q) (l : 0 < q) : Mid p q :=
  ⟨l, Nat.lt_of_lt_of_le h.1 (Nat.pow_le_pow_right (by decide) (by decide)), Nat.lt_of_lt_of_le h.2 (Nat.pow_le_pow_right (by decide) (by decide))⟩
/-- what a quotient of two ratios is -/
def ovR (p : Int) (q : Nat) (c : Int) (d : Nat) : Int × Nat := if c < 0 then nrm (-(p * d)) (q * c.natAbs) else nrm (p * d) (q * c.natAbs)
theorem ovR_eq (p : Int) (q : Nat) (c : Int) (d : Nat) (hq : 0 < q) (hc : c ≠ 0) : lowI (p * d) ((q : Int) * c) = ((ovR p q c d).1, ((ovR p q c d).2 : Int)) := by
  unfold ovR
  by_cases h : c < 0
  · rw [if_pos h]
    have e : (q : Int) * c = -(((q * c.natAbs : Nat) : Int)) := by
      rw [Int.natCast_mul, show ((c.natAbs : Nat) : Int) = -c by omega, Int.mul_neg, Int.neg_neg]
    have pos : (0 : Int) < ((q * c.natAbs : Nat) : Int) := by
      have : 0 < q * c.natAbs := Nat.mul_pos hq (Int.natAbs_pos.mpr hc)
      omega
    rw [e, lowI_neg _ pos, lowI_pos]
  · rw [if_neg h]
    have e : (q : Int) * c = (((q * c.natAbs : Nat) : Int)) := by
      rw [Int.natCast_mul, show ((c.natAbs : Nat) : Int) = c by omega]
    rw [e, lowI_pos]
theorem ovR_low (p : Int) (q : Nat) (c : Int) (d : Nat) (hq : 0 < q) (hc : c ≠ 0) : Low (ovR p q c d).1 (ovR p q c d).2 := by
  have pos : 0 < q * c.natAbs := Nat.mul_pos hq (Int.natAbs_pos.mpr hc)
  unfold ovR
  split
  · exact low_nrm _ pos
  · exact low_nrm _ pos
theorem mul2 {x y : Nat} (a b : Nat) (hx : x < 2 ^ a) (hy : y < 2 ^ b) : x * y < 2 ^ (a + b) := by
  rw [Nat.pow_add]
  exact Nat.mul_lt_mul_of_lt_of_lt hx hy
theorem up6 {x a : Nat} (h : x < 2 ^ a) (ha : a ≤ 6000) : x < 2 ^ 6000 := Nat.lt_of_lt_of_le h (Nat.pow_le_pow_right (by decide) ha)
theorem nrm_mid {a : Int} {b : Nat} (hb : 0 < b) (h1 : a.natAbs < 2 ^ 6000) (h2 : b < 2 ^ 6000) : Mid (nrm a b).1 (nrm a b).2 :=
  ⟨(low_nrm a hb).1, Nat.lt_of_le_of_lt (nrm_le a b).1 h1, Nat.lt_of_le_of_lt (nrm_le a b).2 h2⟩
theorem sm_prod {a : Int} {b : Nat} (h1 : a.natAbs < 2 ^ 1000) (h2 : b < 2 ^ 1000) : (a * (b : Int)).natAbs < 2 ^ 2000 := by
  rw [Int.natAbs_mul, Int.natAbs_natCast]
  exact mul2 1000 1000 h1 h2
theorem sum_ok {p c : Int} {q d : Nat} (s : Sm p q) (t : Sm c d) (hq : 0 < q) (hd : 0 < d) : Low (sumR p q c d).1 (sumR p q c d).2 ∧ Mid (sumR p q c d).1 (sumR p q c d).2 := by
  have pos := Nat.mul_pos hq hd
  have n1 := sm_prod s.1 t.2
  have n2 := sm_prod t.1 s.2
  have e : (2 : Nat) ^ 2001 = 2 ^ 2000 + 2 ^ 2000 := by rw [show 2001 = 2000 + 1 from rfl, Nat.pow_succ, Nat.mul_two]
  have n3 : (p * (d : Int) + c * (q : Int)).natAbs < 2 ^ 2001 := by
    rw [e]; generalize (2 : Nat) ^ 2000 = z at n1 n2 ⊢; omega
  exact ⟨low_nrm _ pos, nrm_mid pos (up6 n3 (by decide)) (up6 (mul2 1000 1000 s.2 t.2) (by decide))⟩
theorem dif_eq (p : Int) (q : Nat) (c : Int) (d : Nat) : difR p q c d = sumR p q (-c) d := by
  unfold difR sumR
  rw [Int.neg_mul, Int.sub_eq_add_neg]
theorem sm_neg {p : Int} {q : Nat} (h : Sm p q) : Sm (-p) q := ⟨by rw [Int.natAbs_neg]; exact h.1, h.2⟩
theorem mul_ok {p c : Int} {q d : Nat} (s : Sm p q) (t : Sm c d) (hq : 0 < q) (hd : 0 < d) : Low (mulR p q c d).1 (mulR p q c d).2 ∧ Mid (mulR p q c d).1 (mulR p q c d).2 := by
  have pos := Nat.mul_pos hq hd
  refine ⟨low_nrm _ pos, nrm_mid pos ?_ (up6 (mul2 1000 1000 s.2 t.2) (by decide))⟩
  rw [Int.natAbs_mul]
  exact up6 (mul2 1000 1000 s.1 t.1) (by decide)
theorem ov_ok {p c : Int} {q d : Nat} (s : Sm p q) (t : Sm c d) (hq : 0 < q) (hc : c ≠ 0) : Low (ovR p q c d).1 (ovR p q c d).2 ∧ Mid (ovR p q c d).1 (ovR p q c d).2 := by
  have pos : 0 < q * c.natAbs := Nat.mul_pos hq (Int.natAbs_pos.mpr hc)
  have h1 : (p * (d : Int)).natAbs < 2 ^ 6000 := up6 (sm_prod s.1 t.2) (by decide)
  have h2 : q * c.natAbs < 2 ^ 6000 := up6 (mul2 1000 1000 s.2 t.1) (by decide)
  refine ⟨ovR_low p q c d hq hc, ?_⟩
  unfold ovR
  split
  · exact nrm_mid pos (by rw [Int.natAbs_neg]; exact h1) h2
  · exact nrm_mid pos h1 h2
/-- the power n -/
def pwR (p : Int) (q : Nat) (n : Int) : Int × Nat := if n < 0 then ovR ((q ^ n.natAbs : Nat) : Int) 1 (p ^ n.natAbs) 1 else (p ^ n.natAbs, q ^ n.natAbs)
theorem pow6 {x n : Nat} (h : x < 2 ^ 1000) (hn : n ≤ 6) : x ^ n < 2 ^ 6000 := by
  rcases Nat.eq_zero_or_pos n with rfl | h0
  · exact Nat.one_lt_two_pow (by decide)
  · refine Nat.lt_of_lt_of_le (Nat.pow_lt_pow_left h (by omega)) ?_
    rw [← Nat.pow_mul]
    exact Nat.pow_le_pow_right (by decide) (by omega)
theorem pw_ok {p : Int} {q : Nat} {n : Int} (s : Sm p q) (l : Low p q) (hn : n.natAbs ≤ 6) (h0 : ¬ (n < 0 ∧ p = 0)) : Low (pwR p q n).1 (pwR p q n).2 ∧ Mid (pwR p q n).1 (pwR p q n).2 := by
  have hp : (p ^ n.natAbs).natAbs < 2 ^ 6000 := by rw [Int.natAbs_pow]; exact pow6 s.1 hn
  have hq := pow6 s.2 hn
  unfold pwR
  by_cases h : n < 0
  · rw [if_pos h]
    have hp0 : p ≠ 0 := fun z => h0 ⟨h, z⟩
    have e0 : p ^ n.natAbs ≠ 0 := Int.pow_ne_zero hp0
    have pos : 0 < 1 * (p ^ n.natAbs).natAbs := by rw [Nat.one_mul]; exact Int.natAbs_pos.mpr e0
    refine ⟨ovR_low _ _ _ _ (by decide) e0, ?_⟩
    have h1 : (((q ^ n.natAbs : Nat) : Int) * ((1 : Nat) : Int)).natAbs < 2 ^ 6000 := by rw [Int.natCast_one, Int.mul_one, Int.natAbs_natCast]; exact hq
    have h2 : 1 * (p ^ n.natAbs).natAbs < 2 ^ 6000 := by rw [Nat.one_mul]; exact hp
    unfold ovR
    split
    · exact nrm_mid pos (by rw [Int.natAbs_neg]; exact h1) h2
    · exact nrm_mid pos h1 h2
  · rw [if_neg h]
    have hq0 : 0 < q ^ n.natAbs := Nat.pow_pos l.1
    refine ⟨⟨hq0, ?_⟩, hq0, hp, hq⟩
    show Nat.gcd (p ^ n.natAbs).natAbs (q ^ n.natAbs) = 1
    rw [Int.natAbs_pow]
    exact Nat.Coprime.pow _ _ l.2
/-! ### the heap -/
/-- all but dicts stays -/
def KeepP (H H' : Hp) : Prop := ∀ b o, H b = some o → (∀ l, o ≠ .dK l) → H' b = some o
/-- all but dicts and tables stays -/
def KeepD (H H' : Hp) : Prop := ∀ b o, H b = some o → (∀ l, o ≠ .dK l) → (∀ ps, o ≠ .tbl ps) → H' b = some o
theorem KeepD.refl (H : Hp) : KeepD H H := fun _ _ h _ _ => h
theorem KeepP.refl (H : Hp) : KeepP H H := fun _ _ h _ => h
theorem KeepD.trans {H H1 H2 : Hp} (a : KeepD H H1) (b : KeepD H1 H2) : KeepD H H2 := fun c o h n t => b c o (a c o h n t) n t
theorem KeepP.trans {H H1 H2 : Hp} (a : KeepP H H1) (b : KeepP H1 H2) : KeepP H H2 := fun c o h n => b c o (a c o h n) n
theorem KeepP.d {H H1 : Hp} (a : KeepP H H1) : KeepD H H1 := fun c o h n _ => a c o h n
theorem Same.p {H H' : Hp} (s : Same H H') : KeepP H H' := fun b o h _ => s b o h
theorem Same.d {H H' : Hp} (s : Same H H') : KeepD H H' := (Same.p s).d
theorem Keep.p {p c : Addr} {m : Nat} {H H' : Hp} (k : Keep p H H') (P : Pen H p c m) : KeepP H H' := fun _ _ h n => k.at P h n
theorem ext_d {H H' : Hp} (e : LamX.ExtN H H') : KeepD H H' := fun b o h _ t => e b o h t
theorem pen_ext {H H' : Hp} {p c : Addr} {m : Nat} (P : Pen H p c m) (e : LamX.ExtN H H') : Pen H' p c m :=
  P.keep (fun o h => by
    obtain ⟨l, z⟩ := P.dict
    rw [z] at h; cases h
    exact e _ _ z (fun ps w => by cases w)) (fun o h => by
    obtain ⟨ns, i, d, n, f, h1, h2, _⟩ := P.ex
    rw [h2] at h; cases h
    exact e _ _ h2 (fun ps w => by cases w))
theorem tabs_p {T : List (Addr × Str)} {H H' : Hp} (t : LamX.Tabs T H) (k : KeepP H H') : LamX.Tabs T H' := fun p hp => by
  obtain ⟨ps, h1, h2, h3⟩ := t p hp
  refine ⟨ps, k _ _ h1 (fun l z => by cases z), h2, fun pos cv hc => ?_⟩
  obtain ⟨c, e1, e2⟩ := h3 pos cv hc
  exact ⟨c, e1, k _ _ e2 (fun l z => by unfold LamX.CodeO at z; cases z)⟩
theorem KeepD.tup {H H' : Hp} (k : KeepD H H') {a : Addr} {xs : List V} (h : H a = some (.tup xs)) : H' a = some (.tup xs) := k a _ h (fun l z => by cases z) (fun l z => by cases z)
theorem KeepD.lst {H H' : Hp} (k : KeepD H H') {a : Addr} {xs : List V} (h : H a = some (.lst xs)) : H' a = some (.lst xs) := k a _ h (fun l z => by cases z) (fun l z => by cases z)
theorem kEN : ¬ (("exponents" : Str) = "number") := by decide +kernel
def flA (t r : Addr) : List (Str × V) := putF "number" (.ref r) (putF "exponents" (.ref t) [])
theorem flA_e (t r : Addr) : (flA t r).lookup ("exponents" : Str) = some (.ref t) := by
  unfold flA
  rw [lookup_putF, if_neg kEN, lookup_putF, if_pos rfl]
theorem flA_n (t r : Addr) : (flA t r).lookup ("number" : Str) = some (.ref r) := by
  unfold flA
  rw [lookup_putF, if_pos rfl]
theorem flA_no (t r : Addr) {m : Str} (h1 : ¬ m = "number") (h2 : ¬ m = "exponents") : (flA t r).lookup m = none := by
  unfold flA
  rw [lookup_putF, if_neg h1, lookup_putF, if_neg h2]
  all_goals rfl
def TupI (H : Hp) (t : Addr) (es : List Int) : Prop := H t = some (.tup (es.map V.int))
/-- an amount stands at x -/
structure Amt (CA : Addr) (H : Hp) (x : Addr) (es : List Int) (p : Int) (q : Nat) : Prop where
  ex : ∃ dx t r, H x = some (.ins CA dx (flA t r)) ∧ TupI H t es ∧ RatAt H r p q
  ne : es ≠ []
  le : es.length ≤ 60
  low : Low p q
  mid : Mid p q
theorem Amt.keep {CA x : Addr} {H H' : Hp} {es : List Int} {p : Int} {q : Nat} (h : Amt CA H x es p q) (k : KeepD H H') : Amt CA H' x es p q := by
  obtain ⟨dx, t, r, h1, h2, h3⟩ := h.ex
  exact ⟨⟨dx, t, r, k x _ h1 (fun l z => by cases z) (fun l z => by cases z), k.tup h2, k.tup h3⟩, h.ne, h.le, h.low, h.mid⟩
theorem Amt.ins {CA x : Addr} {H : Hp} {es : List Int} {p : Int} {q : Nat} (h : Amt CA H x es p q) : InsAt H x CA := by
  obtain ⟨dx, t, r, h1, _⟩ := h.ex
  exact ⟨dx, _, h1⟩
theorem dpAll_int {K : PySem.W.Frag} {H : Hp} : ∀ l : List Int, DpAll K H (l.map V.int) (l.map PyData.int)
  | [] => .nil
  | i :: l => .cons (.int i) (dpAll_int l)
theorem dp_ints {K : PySem.W.Frag} {H : Hp} {t : Addr} {es : List Int} (h : TupI H t es) : Dp K H (.ref t) (.tuple (es.map PyData.int)) := .tup (SqT.of h) (dpAll_int es)
theorem can_ints (l : List Int) : PyData.canLayAll0 (l.map PyData.int) = true ∧ PyData.depthAll (l.map PyData.int) = 0 := by
  induction l with
  | nil => exact ⟨rfl, rfl⟩
  | cons b l ih => exact ⟨by simp [PyData.canLayAll0, PyData.canLay0, ih.1], by simp [PyData.depthAll, PyData.depth, ih.2]⟩
theorem shaped_ints (l : List Int) : SeqAt.shaped (.tuple (l.map PyData.int)) = true := by
  unfold SeqAt.shaped
  rw [show PyData.canLay0 (.tuple (l.map PyData.int)) = true by simpa [PyData.canLay0] using (can_ints l).1]
  simp [PyData.depth, (can_ints l).2]
theorem eqv_ints (a b : List Int) : PyData.eqv (.tuple (a.map PyData.int)) (.tuple (b.map PyData.int)) = decide (a = b) := by
  rw [PyData.eqv]
  exact PySem.W.ked_eqvAll a b
theorem rat_ints {H : Hp} {r : Addr} {p : Int} {q : Nat} (h : RatAt H r p q) : TupI H r [p, (q : Int)] := h
/-! ### what may be passed for exponents -/
inductive BadExp (K : PySem.W.Frag) (H : Hp) : V → Prop
  | other {x : V} {u : Value} (h : TyX K H x u) (ht : PySem.W.kitOne K u (.type "tuple") = some false) : BadExp K H x
  | empty {t : Addr} (h : H t = some (.tup [])) : BadExp K H (.ref t)
  | item {t : Addr} {xs : List V} (f : V → Bool) (h : H t = some (.tup xs)) (ne : xs ≠ []) (hl : xs.length ≤ 100)
      (hf : ∀ H', Same H H' → ∀ x ∈ xs, ∃ u b c, TyX K H' x u ∧ PySem.W.kitOne K u (.type "int") = some b ∧ PySem.W.kitOne K u (.type "bool") = some c ∧ (b && !c) = f x) (no : xs.all f = false) : BadExp K H (.ref t)
/-- are_integers(t) -/
def spAreG (K : PySem.W.Frag) : Sp := fun vs H Q _ => ∃ (t : Addr) (xs : List V) (f : V → Bool), vs = [.ref t] ∧ H t = some (.tup xs) ∧ xs.length ≤ 100 ∧
  (∀ H', Same H H' → ∀ x ∈ xs, ∃ u b c, TyX K H' x u ∧ PySem.W.kitOne K u (.type "int") = some b ∧ PySem.W.kitOne K u (.type "bool") = some c ∧ (b && !c) = f x) ∧ ∀ H', Same H H' → Q (.bl (xs.all f)) H'
theorem flat_all {K : PySem.W.Frag} {H : Hp} {xs : List V} {f : V → Bool} (h : ∀ x ∈ xs, flatW x = some (f x)) : ∀ H', Same H H' → ∀ x ∈ xs, ∃ u b c, TyX K H' x u ∧ PySem.W.kitOne K u (.type "int") = some b ∧ PySem.W.kitOne K u (.type "bool") = some c ∧ (b && !c) = f x :=
  fun _ _ x hx => flat_ty (h x hx)
theorem ints_all {K : PySem.W.Frag} {H : Hp} (es : List Int) : ∀ H', Same H H' → ∀ x ∈ es.map V.int, ∃ u b c, TyX K H' x u ∧ PySem.W.kitOne K u (.type "int") = some b ∧ PySem.W.kitOne K u (.type "bool") = some c ∧ (b && !c) = (fun _ => true) x :=
  flat_all (K := K) (H := H) (f := fun _ => true) fun x hx => by
    obtain ⟨i, _, rfl⟩ := List.mem_map.mp hx
    rfl
/-! ### the methods' promises -/
def errN (what : Str) (v : V) : HO := .xd [("number", v), ("what", .str what)]
def errU (t u : Addr) : HO := .xd [("other", .ref u), ("one", .ref t), ("place", .int 0)]
def errZ : HO := .xd [("place", .int 0)]
/-- the error of unlike exponents, at H -/
def ThrowU (UL : Addr) (H : Hp) (es fs : List Int) (E : XK) : Prop := ∀ t u d H1, TupI H1 t es → TupI H1 u fs → H1 d = none → Same H H1 → E (.ref UL) (some d) (upd H1 d (errU t u))
def spLike (CA UL : Addr) : Sp := fun vs H Q E => ∃ x y es fs p q c d, vs = [.ref x, .ref y] ∧ Amt CA H x es p q ∧ Amt CA H y fs c d ∧ (es = fs → Q .non H) ∧ (es ≠ fs → ThrowU UL H es fs E)
/-- Amount.__init__(self, exponents, number) -/
def spIniA (K : PySem.W.Frag) (CA BN : Addr) : Sp := fun vs H Q E => ∃ (x dx : Addr) (e n : V), vs = [.ref x, e, n] ∧ H x = some (.ins CA dx []) ∧
  ((BadExp K H e ∧ ∀ d H1, H1 d = none → Same H H1 → E (.ref BN) (some d) (upd H1 d (errN "exponents" e))) ∨
   (∃ t es, e = .ref t ∧ TupI H t es ∧ es ≠ [] ∧ es.length ≤ 60 ∧
     ((RatV K H n none ∧ ∀ d H1, H1 d = none → Same H H1 → E (.ref BN) (some d) (upd H1 d (errN "number" n))) ∨
      ∃ p q, RatV K H n (some (p, q)) ∧ Mid p q ∧
        ∀ r H', (∀ b o, b ≠ x → H b = some o → H' b = some o) → H' x = some (.ins CA dx (flA t r)) → RatAt H' r (nrm p q).1 (nrm p q).2 → Q .non H')))
/-- x + y, x - y -/
def spSumA (CA UL : Addr) (f : Int → Nat → Int → Nat → Int × Nat) : Sp := fun vs H Q E => ∃ x y es fs p q c d, vs = [.ref x, .ref y] ∧ Amt CA H x es p q ∧ Amt CA H y fs c d ∧ Sm p q ∧ Sm c d ∧
  (es = fs → ∀ z H', Same H H' → Amt CA H' z es (f p q c d).1 (f p q c d).2 → Q (.ref z) H') ∧ (es ≠ fs → ThrowU UL H es fs E)
def spLessA (CA UL : Addr) : Sp := fun vs H Q E => ∃ x y es fs p q c d, vs = [.ref x, .ref y] ∧ Amt CA H x es p q ∧ Amt CA H y fs c d ∧ (es = fs → Q (.bl (decide (p * (d : Int) < c * (q : Int)))) H) ∧ (es ≠ fs → ThrowU UL H es fs E)
def spMulA (CA : Addr) : Sp := fun vs H Q _ => ∃ x y es fs p q c d, vs = [.ref x, .ref y] ∧ Amt CA H x es p q ∧ Amt CA H y fs c d ∧ Sm p q ∧ Sm c d ∧ es.length = fs.length ∧
  ∀ z H', Same H H' → Amt CA H' z (List.zipWith (· + ·) es fs) (mulR p q c d).1 (mulR p q c d).2 → Q (.ref z) H'
def spNegA (CA : Addr) : Sp := fun vs H Q _ => ∃ x es p q, vs = [.ref x] ∧ Amt CA H x es p q ∧ ∀ z H', Same H H' → Amt CA H' z es (-p) q → Q (.ref z) H'
def spOverA (CA BZ : Addr) : Sp := fun vs H Q E => ∃ x y es fs p q c d, vs = [.ref x, .ref y] ∧ Amt CA H x es p q ∧ Amt CA H y fs c d ∧ Sm p q ∧ Sm c d ∧ es.length = fs.length ∧
  (c = 0 → ∀ dd, H dd = none → E (.ref BZ) (some dd) (upd H dd errZ)) ∧
  (c ≠ 0 → ∀ z H', Same H H' → Amt CA H' z (List.zipWith (· - ·) es fs) (ovR p q c d).1 (ovR p q c d).2 → Q (.ref z) H')
def spPowA (K : PySem.W.Frag) (CA BN BZ : Addr) : Sp := fun vs H Q E => ∃ x v es p q, vs = [.ref x, v] ∧ Amt CA H x es p q ∧ Sm p q ∧
  ((∃ u b c, TyX K H v u ∧ PySem.W.kitOne K u (.type "int") = some b ∧ PySem.W.kitOne K u (.type "bool") = some c ∧ (b && !c) = false ∧ ∀ dd, H dd = none → E (.ref BN) (some dd) (upd H dd (errN "power" v))) ∨
   ∃ n : Int, v = .int n ∧ n.natAbs ≤ 6 ∧ ((n < 0 ∧ p = 0) → ∀ dd, H dd = none → E (.ref BZ) (some dd) (upd H dd errZ)) ∧
     (¬ (n < 0 ∧ p = 0) → ∀ z H', Same H H' → Amt CA H' z (es.map (n * ·)) (pwR p q n).1 (pwR p q n).2 → Q (.ref z) H'))
def spEqA (K : PySem.W.Frag) (CA : Addr) : Sp := fun vs H Q _ => ∃ x v es p q, vs = [.ref x, v] ∧ Amt CA H x es p q ∧
  ((∃ y fs c d, v = .ref y ∧ Amt CA H y fs c d ∧ Q (.bl (decide (es = fs) && decide (p = c ∧ q = d))) H) ∨ (∃ tb, TyX K H v tb ∧ PySem.W.kitOne K tb (.ref CA) = some false ∧ Q (.bl false) H))
end AL
set_option Elab.async false
set_option maxRecDepth 100000
set_option exponentiation.threshold 70000
set_option maxHeartbeats 1000000
/-! Sums and products of ratios in lowest terms, with small divisors. -/
namespace AL
open PySem L2
theorem tyx_same {K : PySem.W.Frag} {H H' : Hp} (s : Same H H') {x : V} {u : Value} (h : TyX K H x u) : TyX K H' x u := by
  cases h with
  | base b =>
    refine .base ?_
    cases b with
    | non => exact .non
    | bl x => exact .bl x
    | int i => exact .int i
    | str x => exact .str x
    | flt x => exact .flt x
    | lst e => exact .lst (s _ _ e)
    | frz e => exact .frz (s _ _ e)
    | tup e => exact .tup (s _ _ e)
    | dK e => exact .dK (s _ _ e)
    | dT e => exact .dT (s _ _ e)
    | ins e cl ha hn htk hm => exact .ins (s _ _ e) cl ha hn htk hm
  | byt b => exact .byt b
  | set e => exact .set (s _ _ e)
  | kList e c => exact .kList e c
  | kTuple e c => exact .kTuple e c
  | kDict e c => exact .kDict e c
  | fTuple e => exact .fTuple (s _ _ e)
  | fDict e => exact .fDict (s _ _ e)
theorem ratV_same {K : PySem.W.Frag} {H H' : Hp} {x : V} {r : Option (Int × Nat)} (h : RatV K H x r) (s : Same H H') : RatV K H' x r := h.same s fun _ z => tyx_same s z
theorem cop_mul {x y z : Nat} (h1 : Nat.gcd x y = 1) (h2 : Nat.gcd x z = 1) : Nat.gcd x (y * z) = 1 := Nat.Coprime.mul_right h1 h2
/-- the sum's parts -/
def shG (b d : Nat) : Nat := Nat.gcd b d
def totS (a : Int) (b : Nat) (c : Int) (d : Nat) : Int := a * ((d / Nat.gcd b d : Nat) : Int) + c * ((b / Nat.gcd b d : Nat) : Int)
def lefS (a : Int) (b : Nat) (c : Int) (d : Nat) : Nat := Nat.gcd (totS a b c d).natAbs (Nat.gcd b d)
theorem sum_short {a c : Int} {b d : Nat} (h : Low a b) (k : Low c d) : sumR a b c d = ((totS a b c d).fdiv ((lefS a b c d : Nat) : Int), b / lefS a b c d * (d / Nat.gcd b d)) := by
  have g0 : 0 < Nat.gcd b d := Nat.gcd_pos_of_pos_left _ h.1
  have l0 : 0 < lefS a b c d := Nat.gcd_pos_of_pos_right _ g0
  have co' : Nat.gcd (b / Nat.gcd b d) (d / Nat.gcd b d) = 1 := Nat.coprime_div_gcd_div_gcd g0
  have eb : b / Nat.gcd b d * Nat.gcd b d = b := Nat.div_mul_cancel (Nat.gcd_dvd_left _ _)
  have ed : d / Nat.gcd b d * Nat.gcd b d = d := Nat.div_mul_cancel (Nat.gcd_dvd_right _ _)
  have lt : lefS a b c d ∣ (totS a b c d).natAbs := Nat.gcd_dvd_left _ _
  have lg : lefS a b c d ∣ Nat.gcd b d := Nat.gcd_dvd_right _ _
  have eg : Nat.gcd b d / lefS a b c d * lefS a b c d = Nat.gcd b d := Nat.div_mul_cancel lg
  have cg : Nat.gcd ((totS a b c d).natAbs / lefS a b c d) (Nat.gcd b d / lefS a b c d) = 1 := Nat.coprime_div_gcd_div_gcd l0
  have lI : ((lefS a b c d : Nat) : Int) ∣ totS a b c d := Int.ofNat_dvd_left.mpr lt
  have eT : (totS a b c d).fdiv ((lefS a b c d : Nat) : Int) * ((lefS a b c d : Nat) : Int) = totS a b c d := by
    rw [Int.fdiv_eq_ediv_of_nonneg _ (by omega)]
    exact Int.ediv_mul_cancel lI
  have aT : ((totS a b c d).fdiv ((lefS a b c d : Nat) : Int)).natAbs = (totS a b c d).natAbs / lefS a b c d := by
    rw [Int.fdiv_eq_ediv_of_nonneg _ (by omega), Int.natAbs_ediv_of_dvd lI, Int.natAbs_natCast]
  have defT : totS a b c d = a * ((d / Nat.gcd b d : Nat) : Int) + c * ((b / Nat.gcd b d : Nat) : Int) := rfl
  generalize lefS a b c d = l at *
  generalize totS a b c d = T at *
  generalize hg : Nat.gcd b d = g at *
  generalize hb' : b / g = b' at *
  generalize hd' : d / g = d' at *
  generalize hg' : g / l = g' at *
  have hbl : b / l = b' * g' := by
    rw [← eb, ← eg, ← Nat.mul_assoc, Nat.mul_div_cancel _ l0]
  have hT0 : (T.fdiv (l : Int)).natAbs * l = T.natAbs := by rw [aT]; exact Nat.div_mul_cancel lt
  have dT : (T.fdiv (l : Int)).natAbs ∣ T.natAbs := ⟨l, hT0.symm⟩
  -- no divisor with b', none with d'
  have key : ∀ {x : Int} {y z w : Nat}, Nat.gcd x.natAbs (y * g) = 1 → Nat.gcd y z = 1 → (∀ e : Nat, e ∣ y → e ∣ T.natAbs → e ∣ (x * (z : Int)).natAbs) → Nat.gcd (T.fdiv (l : Int)).natAbs y = 1 := by
    intro x y z w h1 h2 h3
    have e1 := Nat.gcd_dvd_left (T.fdiv (l : Int)).natAbs y
    have e2 := Nat.gcd_dvd_right (T.fdiv (l : Int)).natAbs y
    generalize Nat.gcd (T.fdiv (l : Int)).natAbs y = e at e1 e2 ⊢
    have e3 := h3 e e2 (Nat.dvd_trans e1 dT)
    rw [Int.natAbs_mul, Int.natAbs_natCast] at e3
    have ce : Nat.gcd e z = 1 := Nat.Coprime.coprime_dvd_left e2 h2
    have e4 : e ∣ x.natAbs := Nat.Coprime.dvd_of_dvd_mul_right ce e3
    have e5 : e ∣ y * g := Nat.dvd_trans e2 (Nat.dvd_mul_right _ _)
    have e6 : e ∣ Nat.gcd x.natAbs (y * g) := Nat.dvd_gcd e4 e5
    rw [h1] at e6
    exact Nat.dvd_one.mp e6
  have dvd_sub : ∀ {e : Nat} {x y : Int}, e ∣ (x + y).natAbs → e ∣ y.natAbs → e ∣ x.natAbs := by
    intro e x y h1 h2
    have i1 := Int.ofNat_dvd_left.mpr h1
    have i2 := Int.ofNat_dvd_left.mpr h2
    have i3 := Int.dvd_sub i1 i2
    rw [Int.add_sub_cancel] at i3
    exact Int.ofNat_dvd_left.mp i3
  have k1 : Nat.gcd (T.fdiv (l : Int)).natAbs b' = 1 := by
    refine key (x := a) (z := d') (w := 0) (by rw [eb]; exact h.2) co' fun e he ht => ?_
    rw [defT] at ht
    refine dvd_sub ht ?_
    rw [Int.natAbs_mul, Int.natAbs_natCast]
    exact Nat.dvd_trans he (Nat.dvd_mul_left _ _)
  have k2 : Nat.gcd (T.fdiv (l : Int)).natAbs d' = 1 := by
    refine key (x := c) (z := b') (w := 0) (by rw [ed]; exact k.2) (by rw [Nat.gcd_comm]; exact co') fun e he ht => ?_
    rw [defT, Int.add_comm] at ht
    refine dvd_sub ht ?_
    rw [Int.natAbs_mul, Int.natAbs_natCast]
    exact Nat.dvd_trans he (Nat.dvd_mul_left _ _)
  have k3 : Nat.gcd (T.fdiv (l : Int)).natAbs g' = 1 := by rw [aT]; exact cg
  have b'0 : 0 < b' := Nat.pos_of_ne_zero fun z => by rw [z, Nat.zero_mul] at eb; have := h.1; omega
  have d'0 : 0 < d' := Nat.pos_of_ne_zero fun z => by rw [z, Nat.zero_mul] at ed; have := k.1; omega
  have g'0 : 0 < g' := Nat.pos_of_ne_zero fun z => by rw [z, Nat.zero_mul] at eg; omega
  unfold sumR
  refine nrm_eq ?_ (Nat.mul_pos h.1 k.1) ?_ ?_
  · rw [hbl]; exact Nat.mul_pos (Nat.mul_pos b'0 g'0) d'0
  · rw [hbl]; exact cop_mul (cop_mul k1 k3) k2
  · rw [hbl]
    have eb2 : (b : Int) = (b' : Int) * (g' : Int) * (l : Int) := by rw [← eb, ← eg]; push_cast; rw [Int.mul_assoc]
    have ed2 : (d : Int) = (d' : Int) * (g' : Int) * (l : Int) := by rw [← ed, ← eg]; push_cast; rw [Int.mul_assoc]
    have eS : a * (d : Int) + c * (b : Int) = T * ((g' : Int) * (l : Int)) := by
      rw [defT, eb2, ed2, Int.add_mul]
      congr 1
      · simp only [Int.mul_assoc]
      · simp only [Int.mul_assoc]
    rw [eS, Int.natCast_mul, Int.natCast_mul, Int.natCast_mul]
    have e3 : T * ((g' : Int) * (l : Int)) = T.fdiv (l : Int) * (l : Int) * ((g' : Int) * (l : Int)) := by rw [eT]
    rw [e3, eb2, ed2]
    generalize T.fdiv (l : Int) = t
    simp only [Int.mul_assoc, Int.mul_comm, Int.mul_left_comm]
theorem mul_short {a c : Int} {b d : Nat} (h : Low a b) (k : Low c d) : mulR a b c d = (a.fdiv ((Nat.gcd a.natAbs d : Nat) : Int) * c.fdiv ((Nat.gcd c.natAbs b : Nat) : Int), b / Nat.gcd c.natAbs b * (d / Nat.gcd a.natAbs d)) := by
  have f0 : 0 < Nat.gcd a.natAbs d := Nat.gcd_pos_of_pos_right _ k.1
  have s0 : 0 < Nat.gcd c.natAbs b := Nat.gcd_pos_of_pos_right _ h.1
  have part : ∀ {x : Int} {y : Nat}, 0 < Nat.gcd x.natAbs y → x.fdiv ((Nat.gcd x.natAbs y : Nat) : Int) * ((Nat.gcd x.natAbs y : Nat) : Int) = x ∧ (x.fdiv ((Nat.gcd x.natAbs y : Nat) : Int)).natAbs = x.natAbs / Nat.gcd x.natAbs y ∧ Nat.gcd (x.natAbs / Nat.gcd x.natAbs y) (y / Nat.gcd x.natAbs y) = 1 ∧ y / Nat.gcd x.natAbs y * Nat.gcd x.natAbs y = y := by
    intro x y g0
    have dI : ((Nat.gcd x.natAbs y : Nat) : Int) ∣ x := Int.ofNat_dvd_left.mpr (Nat.gcd_dvd_left _ _)
    refine ⟨?_, ?_, Nat.coprime_div_gcd_div_gcd g0, Nat.div_mul_cancel (Nat.gcd_dvd_right _ _)⟩
    · rw [Int.fdiv_eq_ediv_of_nonneg _ (by omega)]
      exact Int.ediv_mul_cancel dI
    · rw [Int.fdiv_eq_ediv_of_nonneg _ (by omega), Int.natAbs_ediv_of_dvd dI, Int.natAbs_natCast]
  obtain ⟨a1, a2, a3, a4⟩ := part f0
  obtain ⟨c1, c2, c3, c4⟩ := part s0
  have da : a.natAbs / Nat.gcd a.natAbs d ∣ a.natAbs := Nat.div_dvd_of_dvd (Nat.gcd_dvd_left _ _)
  have dc : c.natAbs / Nat.gcd c.natAbs b ∣ c.natAbs := Nat.div_dvd_of_dvd (Nat.gcd_dvd_left _ _)
  have db : b / Nat.gcd c.natAbs b ∣ b := Nat.div_dvd_of_dvd (Nat.gcd_dvd_right _ _)
  have dd : d / Nat.gcd a.natAbs d ∣ d := Nat.div_dvd_of_dvd (Nat.gcd_dvd_right _ _)
  have x1 : Nat.gcd (a.natAbs / Nat.gcd a.natAbs d) (b / Nat.gcd c.natAbs b) = 1 := Nat.Coprime.coprime_dvd_left da (Nat.Coprime.coprime_dvd_right db h.2)
  have x2 : Nat.gcd (c.natAbs / Nat.gcd c.natAbs b) (d / Nat.gcd a.natAbs d) = 1 := Nat.Coprime.coprime_dvd_left dc (Nat.Coprime.coprime_dvd_right dd k.2)
  have b0 : 0 < b / Nat.gcd c.natAbs b := Nat.div_pos (Nat.le_of_dvd h.1 (Nat.gcd_dvd_right _ _)) s0
  have d0 : 0 < d / Nat.gcd a.natAbs d := Nat.div_pos (Nat.le_of_dvd k.1 (Nat.gcd_dvd_right _ _)) f0
  unfold mulR
  refine nrm_eq (Nat.mul_pos b0 d0) (Nat.mul_pos h.1 k.1) ?_ ?_
  · rw [Int.natAbs_mul, a2, c2]
    exact Nat.Coprime.mul_left (cop_mul x1 a3) (cop_mul c3 x2)
  · generalize Nat.gcd a.natAbs d = f at *
    generalize Nat.gcd c.natAbs b = s at *
    have eb2 : (b : Int) = ((b / s : Nat) : Int) * (s : Int) := by rw [← Int.natCast_mul, c4]
    have ed2 : (d : Int) = ((d / f : Nat) : Int) * (f : Int) := by rw [← Int.natCast_mul, a4]
    have e1 : a * c = a.fdiv (f : Int) * (f : Int) * (c.fdiv (s : Int) * (s : Int)) := by rw [a1, c1]
    rw [e1, Int.natCast_mul, Int.natCast_mul, eb2, ed2]
    generalize a.fdiv (f : Int) = x
    generalize c.fdiv (s : Int) = y
    generalize ((b / s : Nat) : Int) = u
    generalize ((d / f : Nat) : Int) = v
    simp only [Int.mul_assoc, Int.mul_comm, Int.mul_left_comm]
/-- what two ratios in lowest terms make -/
def spTwoL (f : Int → Nat → Int → Nat → Int × Nat) : Sp := fun vs H Q _ => ∃ (s t : Addr) (a c : Int) (b d : Nat), vs = [.ref s, .ref t] ∧ RatAt H s a b ∧ RatAt H t c d ∧ Mid a b ∧ Mid c d ∧ Low a b ∧ Low c d ∧ ∀ u, H u = none → Q (.ref u) (upd H u (.tup [.int (f a b c d).1, .int ((f a b c d).2 : Int)]))
/-- the same, where more than the answer may be new -/
def spTwoS (f : Int → Nat → Int → Nat → Int × Nat) : Sp := fun vs H Q _ => ∃ (s t : Addr) (a c : Int) (b d : Nat), vs = [.ref s, .ref t] ∧ RatAt H s a b ∧ RatAt H t c d ∧ Mid a b ∧ Mid c d ∧ Low a b ∧ Low c d ∧ ∀ u H', Same H H' → RatAt H' u (f a b c d).1 (f a b c d).2 → Q (.ref u) H'
/-- over -/
def spTwoO : Sp := fun vs H Q _ => ∃ (s t : Addr) (a c : Int) (b d : Nat), vs = [.ref s, .ref t] ∧ RatAt H s a b ∧ RatAt H t c d ∧ Mid a b ∧ Mid c d ∧ c ≠ 0 ∧ ∀ u, H u = none → Q (.ref u) (upd H u (.tup [.int (ovR a b c d).1, .int ((ovR a b c d).2 : Int)]))
def spLessL : Sp := fun vs H Q _ => ∃ (s t : Addr) (a c : Int) (b d : Nat), vs = [.ref s, .ref t] ∧ RatAt H s a b ∧ RatAt H t c d ∧ Mid a b ∧ Mid c d ∧ Q (.bl (decide (a * (d : Int) < c * (b : Int)))) H
def spPowR : Sp := fun vs H Q _ => ∃ (s : Addr) (a : Int) (b : Nat) (n : Int), vs = [.ref s, .int n] ∧ RatAt H s a b ∧ Sm a b ∧ Low a b ∧ n.natAbs ≤ 6 ∧ ¬ (n < 0 ∧ a = 0) ∧ ∀ u, H u = none → Q (.ref u) (upd H u (.tup [.int (pwR a b n).1, .int ((pwR a b n).2 : Int)]))
/-- the law's own power -/
def spPowL : Sp := fun vs H Q _ => ∃ (s : Addr) (a : Int) (b : Nat) (n : Int), vs = [.ref s, .int n] ∧ RatAt H s a b ∧ Sm a b ∧ Low a b ∧ n.natAbs ≤ 6 ∧ ¬ (n < 0 ∧ a = 0) ∧ ∀ u H', Same H H' → RatAt H' u (pwR a b n).1 (pwR a b n).2 → Q (.ref u) H'
def spAsG (K : PySem.W.Frag) : Sp := fun vs H Q _ => ∃ (x : V) (p : Int) (q : Nat), vs = [x] ∧ RatV K H x (some (p, q)) ∧ Mid p q ∧ ∀ t, H t = none → Q (.ref t) (upd H t (.tup [.int (nrm p q).1, .int ((nrm p q).2 : Int)]))
end AL
set_option Elab.async false
set_option linter.all false
set_option maxRecDepth 100000
/-! sorted(d.items()) for dicts whose keys are tuples of so many ints. -/
namespace AL
open PySem PySem.W PySem.Spec PyProof.Rows L2
theorem lex_code {B : Int} : ∀ (k : Nat) (ns ms : List Int) (i : Nat), ns.length = i + k → ms.length = i + k → TS.Bd B ns → TS.Bd B ms →
    Ob.lexAt (fun j => decide (ns.getD j 0 = ms.getD j 0)) (fun j => decide (ns.getD j 0 < ms.getD j 0)) false i k = decide (TS.code B (ns.drop i) < TS.code B (ms.drop i))
  | 0, ns, ms, i, l1, l2, _, _ => by
    rw [Ob.lexAt_zero, List.drop_eq_nil_of_le (by omega), List.drop_eq_nil_of_le (by omega)]
    exact (decide_eq_false (Int.lt_irrefl _)).symm
  | k + 1, ns, ms, i, l1, l2, b1, b2 => by
    have i1 : i < ns.length := by omega
    have i2 : i < ms.length := by omega
    have ih := lex_code k ns ms (i + 1) (by omega) (by omega) b1 b2
    have dl : (ns.drop (i + 1)).length = (ms.drop (i + 1)).length := by rw [List.length_drop, List.length_drop]; omega
    have c1 : TS.Bd B (ns.drop (i + 1)) := fun m hm => b1 m (List.mem_of_mem_drop hm)
    have c2 : TS.Bd B (ms.drop (i + 1)) := fun m hm => b2 m (List.mem_of_mem_drop hm)
    rw [Ob.lexAt_succ, List.drop_eq_getElem_cons i1, List.drop_eq_getElem_cons i2]
    have g1 : ns.getD i 0 = ns[i] := by simp [List.getD, i1]
    have g2 : ms.getD i 0 = ms[i] := by simp [List.getD, i2]
    rw [g1, g2]
    generalize ns[i] = x
    generalize ms[i] = y
    by_cases e : x = y
    · rw [decide_eq_true e, if_pos rfl, ih, e]
      exact (decide_eq_decide.mpr (TS.code_same dl)).symm
    · rw [decide_eq_false e, if_neg (by decide)]
      refine decide_eq_decide.mpr ⟨fun z => TS.code_lt dl c1 c2 z, fun z => ?_⟩
      rcases Int.lt_trichotomy x y with w1 | w1 | w1
      · exact w1
      · exact absurd w1 e
      · have := TS.code_lt dl.symm c2 c1 w1
        omega
theorem inl_inj : ∀ u v : List Int, (u.map Sum.inl : List L2.Key) = v.map Sum.inl → u = v
  | [], [], _ => rfl
  | [], _ :: _, t => nomatch t
  | _ :: _, [], t => nomatch t
  | a :: u, b :: v, t => by
    injection t with t1 t2
    injection t1 with t1
    rw [t1, inl_inj u v t2]
section
variable {prog : Program} {w : World} {A : Around} {E : Value → Shared → Prop} {s : Shared}
theorem lt_ints {B : Int} {l b : Addr} {xs ys : Array Value} {ns ms : List Int} {Q : Value → Shared → Prop} (hl : IsTup s.heap l xs) (hb : IsTup s.heap b ys) (ix : IntsAre xs.toList ns) (iy : IntsAre ys.toList ms)
    (len : ns.length = ms.length) (b1 : TS.Bd B ns) (b2 : TS.Bd B ms) (hu : A.units < cLine) (h : Q (.bool (decide (TS.code B ns < TS.code B ms))) s) :
    wpAny (model prog w) A (compareOp .Lt (.ref l) (.ref b)) Q E s := by
  have e1 : xs.size = ns.length := by rw [← Array.length_toList]; exact ix.length
  have e2 : ys.size = ms.length := by rw [← Array.length_toList]; exact iy.length
  have at1 : ∀ j (z : j < xs.size), ∃ t, xs[j] = .int (ns.getD j 0) t := fun j z => IntsAre.int_at ix _ _ (by rw [Array.getElem?_toList]; exact Array.getElem?_eq_getElem z)
  have at2 : ∀ j (z : j < ys.size), ∃ t, ys[j] = .int (ms.getD j 0) t := fun j z => IntsAre.int_at iy _ _ (by rw [Array.getElem?_toList]; exact Array.getElem?_eq_getElem z)
  have R := Ob.RcOp.tuples_lt (A := A) (s := s) (e := fun j => decide (ns.getD j 0 = ms.getD j 0)) (r := fun j => decide (ns.getD j 0 < ms.getD j 0)) hl hb hu
    (fun j z1 z2 => by
      obtain ⟨t, et⟩ := at1 j z1
      obtain ⟨t', et'⟩ := at2 j z2
      rw [et, et', show decide (ns.getD j 0 = ms.getD j 0) = (ns.getD j 0 == ms.getD j 0) from rfl]
      exact SeqAt.EqAt.int_int _ _ _ _)
    (fun j z1 z2 _ => by
      obtain ⟨t, et⟩ := at1 j z1
      obtain ⟨t', et'⟩ := at2 j z2
      rw [et, et']
      exact Ob.RcOp.lt_int _ _ _ _)
  have hs : decide (xs.size < ys.size) = false := decide_eq_false (by omega)
  rw [hs, show min xs.size ys.size = ns.length by omega, lex_code (B := B) ns.length ns ms 0 (by omega) (by omega) b1 b2, List.drop_zero, List.drop_zero] at R
  exact R prog w E Q h
/-- v: a pair of a tuple of the ints y and a tuple of m -/
def PrD (prog : Program) (w : World) (h : Heap) (v : Value) (y : List Int) (m : List L2.Key) : Prop :=
  ∃ (a k b : Addr) (xs : Array Value), v = .ref a ∧ IsTup h a #[.ref k, .ref b] ∧ IsTup h k xs ∧ IntsAre xs.toList y ∧ IsTupleKey (L2.mixKind prog w) h (y.map Sum.inl) k ∧ IsTupleKey (L2.mixKind prog w) h m b
def keyD (h : Heap) (v : Value) : List Int := TS.intsOf h (.ref (DT.refOf (DT.seqAt0 h (DT.refOf (some v)))))
theorem PrD.key {h : Heap} {v : Value} {y : List Int} {m : List L2.Key} (x : PrD prog w h v y m) : keyD h v = y := by
  obtain ⟨a, k, b, xs, rfl, h1, h2, h3, _⟩ := x
  have e : DT.refOf (DT.seqAt0 h (DT.refOf (some (Value.ref a)))) = k := by
    show DT.refOf (DT.seqAt0 h a) = k
    rw [DT.seqAt0_of h1]
    rfl
  unfold keyD
  rw [e]
  exact TS.TupInts.ints ⟨k, xs, rfl, h2, h3⟩
theorem heads {h : Heap} {M : List Int → List L2.Key} : ∀ vs : List Value, (∀ v ∈ vs, ∃ y, PrD prog w h v y (M y)) →
    ∃ fs : List Value, KatTups h vs fs ∧ fs.length = vs.length ∧ ∀ f ∈ fs, ∃ (q : Addr) (o : Obj), f = Value.ref q ∧ h.get? q = some o ∧ o.cls = .type "tuple" := by
  intro vs
  induction vs with
  | nil => exact fun _ => ⟨[], .nil, rfl, fun f z => absurd z List.not_mem_nil⟩
  | cons v r ih =>
    intro x
    obtain ⟨fs, c1, c2, c3⟩ := ih fun u z => x u (.tail _ z)
    obtain ⟨y, a, k, b, xs, rfl, ⟨o, o1, o2, n, o3⟩, ⟨p, p1, p2, _⟩, _⟩ := x v (.head _)
    refine ⟨.ref k :: fs, .cons o1 o2 o3 rfl c1, congrArg Nat.succ c2, fun f z => ?_⟩
    cases z with
    | head => exact ⟨k, p, rfl, p1, p2⟩
    | tail _ z => exact c3 f z
theorem kindD {B : Int} {d : Nat} {vs : List Value} {M : List Int → List L2.Key} (few : 2 ≤ vs.length) (hu : A.units < cLine) (x : ∀ v ∈ vs, ∃ y, PrD prog w s.heap v y (M y) ∧ y.length = d ∧ TS.Bd B y) (Q : SortKind → Shared → Prop)
    (h : ∀ κ, TS.Cmp prog w A s κ (pairsOf vs) (fun v => TS.code B (keyD s.heap v)) → Q κ s) : wpAny (model prog w) A (keyKind' vs.toArray) Q E s := by
  obtain ⟨fs, c1, c2, c3⟩ := heads (M := M) vs fun v z => let ⟨y, p, _⟩ := x v z; ⟨y, p⟩
  refine kat_kind (T := Value.type "tuple") c1 (by omega) (fun f z => ?_) rfl (h _ ?_)
  · obtain ⟨q, o, rfl, o1, o2⟩ := c3 f z
    exact o2 ▸ (PySem.W.Looks.ld o1).andThen .now
  · have nb : (Value.type "tuple" != Value.type "tuple") = false := by first | rfl | decide | simp
    rw [nb]
    intro p q hp hq Q2 E2 z2
    rw [pairsOf_toList] at hp hq
    obtain ⟨y, py, ly, by_⟩ := x _ (mem_zip_self hp).2
    obtain ⟨z, pz, lz, bz⟩ := x _ (mem_zip_self hq).2
    have z3 : Q2 (decide (TS.code B y < TS.code B z)) s := by
      have z4 : Q2 (decide (TS.code B (keyD s.heap p.1) < TS.code B (keyD s.heap q.1))) s := z2
      rwa [py.key, pz.key] at z4
    obtain ⟨a, k, b, xs, e1, ⟨o, o1, o2, n, o3⟩, k1, k2, k3, k4⟩ := py
    obtain ⟨a', k', b', xs', e1', ⟨o', o1', o2', n', o3'⟩, k1', k2', k3', k4'⟩ := pz
    rw [e1, e1']
    refine kat_lt o1 o3 o1' o3' (kat_cons ?_)
    refine wpAny_eqBool_tuple hu k3 k3' ?_
    by_cases e : y = z
    · subst e
      rw [decide_eq_true rfl]
      rw [decide_eq_false (Int.lt_irrefl _)] at z3
      refine kat_yes (kat_cons (wpAny_eqBool_tuple hu k4 k4' ?_))
      rw [decide_eq_true rfl]
      exact kat_yes (kat_nil z3)
    · have ne : (y.map Sum.inl : List L2.Key) ≠ z.map Sum.inl := fun t => e (inl_inj _ _ t)
      rw [decide_eq_false ne]
      refine kat_no ?_
      show wpAny _ _ (oneLt' false _ _) _ _ _
      exact kat_one _ _ (lt_ints k1 k1' k2 k2' (by omega) by_ bz hu z3)
end
section
variable {X : Cx} {pins : List (Addr × Obj)} {σ : L2.St} {H : Hp} {s : Shared}
abbrev KDT (X : Cx) : HeapKind X.prog X.w (List L2.Key) := tupleKind (mixKind X.prog X.w)
/-- what the j-th pair that was made holds -/
theorem made_pair {kvs : List (List L2.Key × V)} {xs : List (List L2.Key × Addr × Value)} {es : Array DictEntry} {lo : Addr} {h' : Heap} {as : List Addr} (rel : KT H kvs xs) (hes : es.toList = xs.map (entryOfKey (KDT X))) (g : DT.Made es lo h' as)
    {j : Nat} {b : Addr} (hj : as[j]? = some b) : ∃ (e : List L2.Key × V) (kq : Addr) (v : Value), kvs[j]? = some e ∧ H kq = some (.tup (e.1.map kV)) ∧ RelV e.2 v ∧ h'.get? b = some { cls := .type "tuple", data := .seq #[Value.ref kq, v] } := by
  obtain ⟨en, ee, hb⟩ := g.pairs j b hj
  have z := entry_at hes j
  rw [ee] at z
  cases q : xs[j]? with
  | none => rw [q] at z; exact nomatch z
  | some x =>
    rw [q] at z
    cases Option.some.inj z
    obtain ⟨e, r0, r1, r2, r3⟩ := DX.pget rel q
    exact ⟨e, x.2.1, x.2.2, r0, r2, r3, hb⟩
/-- the pairs and the list of them are tracked -/
theorem track_pairs (I : Inv X pins σ H s) {kvs : List (List L2.Key × V)} {as rs : List Addr} {L : Addr} {hF : Heap} {tk c : Nat} {acc : Array Value} (nd : as.Nodup) (up : ∀ b ∈ as, s.heap.objs.size ≤ b ∧ b ≠ L) (uL : s.heap.objs.size ≤ L)
    (kS : ∀ b o, s.heap.get? b = some o → hF.get? b = some o) (hL : hF.get? L = some { cls := .type "list", dict := none, data := .seq acc c, slots := #[] }) (ea : acc.toList = rs.map Value.ref) (sz : rs.length ≤ sizeLine)
    (pr : ∀ (j : Nat) (b : Addr), as[j]? = some b → ∃ (e : List L2.Key × V) (kq : Addr) (v : Value), kvs[j]? = some e ∧ H kq = some (.tup (e.1.map kV)) ∧ RelV e.2 v ∧ hF.get? b = some { cls := .type "tuple", data := .seq #[Value.ref kq, v] }) :
    ∃ H2 : Hp, Inv X pins σ H2 { s with heap := hF, toks := tk } ∧ Gw H H2 ∧ H2 L = some (.lst (rs.map V.ref)) ∧
      ∀ (j : Nat) (b : Addr), as[j]? = some b → ∃ (e : List L2.Key × V) (kq : Addr), kvs[j]? = some e ∧ H kq = some (.tup (e.1.map kV)) ∧ H2 b = some (.tup [.ref kq, e.2]) := by
  have nL : H L = none := I.hok.fresh uL
  have I1 : Inv X pins σ H { s with heap := hF, toks := tk } := I.kept (t' := tk) kS
  have I2 : Inv X pins σ (upd H L (.lst (rs.map V.ref))) { s with heap := hF, toks := tk } :=
    I1.take (h' := hF) (t' := tk) (fun _ _ _ r => r) (I.fpOk uL nL) ⟨by rw [List.length_map]; exact sz, acc.toList, c, by rw [ea]; exact vals_refs rs, by rw [Array.toArray_toList]; exact hL⟩
  obtain ⟨H2, I3, w1, w2⟩ := DX.takeT (P := fun b vs => ∃ (j : Nat) (e : List L2.Key × V) (kq : Addr), as[j]? = some b ∧ kvs[j]? = some e ∧ H kq = some (.tup (e.1.map kV)) ∧ vs = [.ref kq, e.2]) I as _ I2 nd fun b hb => by
    obtain ⟨j, hj⟩ := List.mem_iff_getElem?.mp hb
    obtain ⟨e, kq, v, c1, c2, c3, c4⟩ := pr j b hj
    obtain ⟨u1, u2⟩ := up b hb
    refine ⟨u1, by rw [upd_ne u2]; exact I.hok.fresh u1, [.ref kq, e.2], ⟨j, e, kq, hj, c1, c2, rfl⟩, fun _ => ⟨by rw [sizeLine_eq]; exact (by decide : 2 ≤ 16777216), [Value.ref kq, v], .cons rfl (.cons c3 .nil), ⟨_, c4, rfl, 0, rfl⟩⟩⟩
  refine ⟨H2, I3, fun b o z => w1 b o (by rw [upd_ne (ne_of_none z nL)]; exact z), w1 _ _ upd_same, fun j b hj => ?_⟩
  obtain ⟨vs, ⟨i, e, kq, d1, d2, d3, rfl⟩, d4⟩ := w2 b (List.mem_of_getElem? hj)
  cases (List.getElem?_inj (List.getElem?_eq_some_iff.mp hj).1 nd).mp (hj.trans d1.symm)
  exact ⟨e, kq, d2, d3, d4⟩
theorem made_nodup {es : Array DictEntry} {lo : Addr} {h : Heap} {as : List Addr} (g : DT.Made es lo h as) : as.Nodup := g.rise.imp fun z => Nat.ne_of_lt z
/-- list(v), v the view d.items() -/
def rListD : List V → Hp → VK → Prop := fun vs H Q => ∃ (p a : Addr) (kvs : List (List L2.Key × V)), vs = [.ref p] ∧ H p = some (DX.itemsO p a) ∧ H a = some (.dT kvs) ∧
  ∀ (H' : Hp) (l : Addr) (ts : List Addr), Gw H H' → H' l = some (.lst (ts.map V.ref)) → ts.length = kvs.length → H l = none →
    (∀ (j : Nat) (b : Addr), ts[j]? = some b → ∃ (e : List L2.Key × V) (kq : Addr), kvs[j]? = some e ∧ H kq = some (.tup (e.1.map kV)) ∧ H' b = some (.tup [.ref kq, e.2])) → Q (.ref l) H'
abbrev entI (e : List Int × Addr) : List L2.Key × V := (e.1.map Sum.inl, V.ref e.2)
/-- sorted(v), v the view d.items(): keys tuples of d ints in [0, B), values tuples, M of the key -/
def rSortD (B : Int) : List V → Hp → VK → Prop := fun vs H Q => ∃ (p a : Addr) (ks : List (List Int × Addr)) (d : Nat) (M : List Int → List L2.Key), vs = [.ref p] ∧ H p = some (DX.itemsO p a) ∧ H a = some (.dT (ks.map entI)) ∧ ks.length < 64 ∧
  (∀ e ∈ ks, H e.2 = some (.tup ((M e.1).map kV)) ∧ e.1.length = d ∧ TS.Bd B e.1) ∧
  ∀ (H' : Hp) (l : Addr) (ps : List (Addr × List Int × Addr)), Gw H H' → H l = none → (ps.map (·.2)).Perm ks → (ps.map (·.2)).Pairwise (fun e f => TS.code B e.1 ≤ TS.code B f.1) → H' l = some (.lst (ps.map fun z => V.ref z.1)) →
    (∀ z ∈ ps, ∃ q, H' z.1 = some (.tup [.ref q, .ref z.2.2]) ∧ H' q = some (.tup (z.2.1.map V.int))) → Q (.ref l) H'
theorem kV_ints (y : List Int) : (y.map Sum.inl : List L2.Key).map kV = y.map V.int := by rw [List.map_map]; rfl
theorem cr_sortD {B : Int} (hc : X.calm = true) (hu : X.A.units + 64 < cLine) : CallR X (.builtin "sorted") (rSortD B) := by
  intro pins s σ H xs us Q I r h
  obtain ⟨p, a, ks, d, M, rfl, hp, ha, few, hv, q⟩ := h
  obtain rfl := Vals.ref1 r
  have view : s.heap.IsItemsView p a := (show ObjOk X.prog X.w H s.heap p (DX.itemsO p a) from I.hok p _ hp).1
  obtain ⟨z, hd, xs', rel, o, es, ep, ho, hx, hdat, hes, his, hn⟩ := dt_of I.hok ha
  have n1 : ks.length = xs'.length := (List.length_map (f := entI) (as := ks)).symm.trans (Paired.length rel)
  have n2 : es.size = xs'.length := size_of_entries hes
  refine DT.sortedI (es := es) (ep := ep) (I.ok.hd hc) view ⟨o, ho, hx, hdat⟩ (by rw [sizeLine_eq]; omega) fun h' tk as hk hlt hl hG => ?_
  have nd := made_nodup hG
  have lk : as.length = ks.length := by omega
  have mp := fun (j : Nat) (b : Addr) (hj : as[j]? = some b) => made_pair (X := X) rel hes hG hj
  have new : ∀ b u, h'.get? b = some u → b ≠ h'.objs.size := fun b u w1 => Nat.ne_of_lt (Heap.lt_size w1)
  have atL : (h'.push { cls := .type "list", data := .seq (as.map Value.ref).toArray }).get? h'.objs.size = some (seqObj "list" (as.map Value.ref).toArray 0) := Heap.get?_push_size _ rfl
  have old : ∀ b u, h'.get? b = some u → (h'.push { cls := .type "list", data := .seq (as.map Value.ref).toArray }).get? b = some u := fun b u w1 => Heap.get?_push_of_some _ w1
  generalize h'.push { cls := .type "list", data := .seq (as.map Value.ref).toArray } = hS at atL old ⊢
  -- each pair in the heap of the comparisons
  have cmp : ∀ (j : Nat) (b : Addr), as[j]? = some b → ∃ e : List Int × Addr, ks[j]? = some e ∧ PrD X.prog X.w (TS.midHeap hS h'.objs.size (as.map Value.ref)) (.ref b) e.1 (M e.1) := by
    intro j b hj
    obtain ⟨e0, kq, v, c1, c2, c3, c4⟩ := mp j b hj
    rw [List.getElem?_map] at c1
    cases ej : ks[j]? with
    | none => rw [ej] at c1; exact nomatch c1
    | some e =>
      rw [ej] at c1
      cases Option.some.inj c1
      cases (show v = Value.ref e.2 from c3)
      have mid : ∀ b u, h'.get? b = some u → (TS.midHeap hS h'.objs.size (as.map Value.ref)).get? b = some u := fun b u w1 => TS.midHeap_old (new b u w1) (old b u w1)
      have c2' : H kq = some (.tup (e.1.map V.int)) := by rw [← kV_ints]; exact c2
      obtain ⟨_, its, rv, ot, t1, t2, nt, t3⟩ := (show ObjOk X.prog X.w H s.heap kq (.tup (e.1.map V.int)) from I.hok kq _ c2')
      obtain ⟨ok, ik, nk, k1, k2, k3, k4⟩ := (show IsTupleKey (mixKind X.prog X.w) s.heap (e.1.map Sum.inl) kq from key_of I.hok c2)
      obtain ⟨ov, iv, nv, v1, v2, v3, v4⟩ := (show IsTupleKey (mixKind X.prog X.w) s.heap (M e.1) e.2 from key_of I.hok (hv e (List.mem_of_getElem? ej)).1)
      exact ⟨e, rfl, b, kq, e.2, its.toArray, rfl, ⟨_, mid _ _ c4, rfl, 0, rfl⟩, ⟨ot, mid _ _ (hk _ _ t1), t2, nt, t3⟩, Vals.ints rv, ⟨ok, ik, nk, mid _ _ (hk _ _ k1), k2, k3, k4⟩, ⟨ov, iv, nv, mid _ _ (hk _ _ v1), v2, v3, v4⟩⟩
  have rk : ∀ (j : Nat) (b : Addr) (e : List Int × Addr), as[j]? = some b → ks[j]? = some e → keyD (TS.midHeap hS h'.objs.size (as.map Value.ref)) (.ref b) = e.1 := fun j b e hj he => by
    obtain ⟨f, f1, f2⟩ := cmp j b hj
    cases Option.some.inj (he.symm.trans f1)
    exact f2.key
  refine wpAny_call_entry slot_list_sort ⟨_, atL, rfl⟩ entry_list_sort
    (SK.plain_sort (s := { s with heap := hS, toks := tk }) (r := fun v => TS.code B (keyD (TS.midHeap hS h'.objs.size (as.map Value.ref)) v)) atL (by rw [List.length_map]; omega) (fun two Qk hQk => ?_) fun ps out o1 o2 o3 => ⟨.none, rfl, ?_⟩) (args_list_sort _)
  · refine kindD (s := { s with heap := TS.midHeap hS h'.objs.size (as.map Value.ref), toks := tk }) (d := d) (M := M) two (by show X.A.units + 1 + 1 < cLine; omega) (fun v w1 => ?_) Qk hQk
    obtain ⟨b, hb, rfl⟩ := List.mem_map.mp w1
    obtain ⟨j, hj⟩ := List.mem_iff_getElem?.mp hb
    obtain ⟨e, f1, f2⟩ := cmp j b hj
    exact ⟨e.1, f2, (hv e (List.mem_of_getElem? f1)).2⟩
  · show EP X pins σ Q (.ref h'.objs.size) { s with heap := sortedHeap hS h'.objs.size (as.map Value.ref) out, toks := tk }
    obtain ⟨zs, pz, ez⟩ := perm_lift (fun z : Addr × List Int × Addr => (Value.ref z.1, Value.ref z.1)) o2 (as.zip ks) (DX.zip_self Value.ref as ks lk)
    have idx : ∀ z ∈ zs, ∃ j : Nat, as[j]? = some z.1 ∧ ks[j]? = some z.2 := fun z hz => by
      obtain ⟨j, hj⟩ := List.mem_iff_getElem?.mp (pz.mem_iff.mp hz)
      exact ⟨j, List.getElem?_zip_eq_some.mp hj⟩
    have outs : out.toList = (zs.map (·.1)).map Value.ref := by
      rw [o1, ← ez, List.map_map, List.map_map]
      rfl
    have perm : (zs.map (·.2)).Perm ks := by
      have w1 := pz.map (fun z : Addr × List Int × Addr => z.2)
      rwa [List.map_snd_zip (by omega)] at w1
    have asc : (zs.map (·.2)).Pairwise (fun e f => TS.code B e.1 ≤ TS.code B f.1) := by
      rw [← ez, List.pairwise_map] at o3
      rw [List.pairwise_map]
      refine o3.imp_of_mem fun {x y} m1 m2 w1 => ?_
      obtain ⟨j, j1, j2⟩ := idx x m1
      obtain ⟨i, i1, i2⟩ := idx y m2
      have w2 : TS.code B (keyD (TS.midHeap hS h'.objs.size (as.map Value.ref)) (.ref x.1)) ≤ TS.code B (keyD (TS.midHeap hS h'.objs.size (as.map Value.ref)) (.ref y.1)) := w1
      rwa [rk j _ _ j1 j2, rk i _ _ i1 i2] at w2
    obtain ⟨eF, heF⟩ := sortedHeap_at (vs := as.map Value.ref) (out := out) atL
    have kF : ∀ b u, h'.get? b = some u → (sortedHeap hS h'.objs.size (as.map Value.ref) out).get? b = some u := fun b u w1 => (sortedHeap_old (new b u w1) (Heap.lt_size (old b u w1))).trans (old b u w1)
    have len : zs.length = ks.length := by rw [← perm.length_eq, List.length_map]
    obtain ⟨H2, I3, g1, g2, g3⟩ := track_pairs (tk := tk) (rs := zs.map (·.1)) I nd (fun b hb => ⟨Nat.le_of_lt (hG.above b hb), Nat.ne_of_lt (hG.there hb)⟩) (Nat.le_of_lt hlt) (fun b u w1 => kF b u (hk b u w1)) (by rw [← Array.toArray_toList (xs := out)]; exact heF) outs (by rw [List.length_map, sizeLine_eq]; omega)
      fun j b hj => by
        obtain ⟨e, kq, v, c1, c2, c3, c4⟩ := mp j b hj
        exact ⟨e, kq, v, c1, c2, c3, kF _ _ c4⟩
    refine ⟨.ref h'.objs.size, H2, I3, rfl, q H2 h'.objs.size zs g1 (I.hok.fresh (Nat.le_of_lt hlt)) perm asc (by rw [g2, List.map_map]; rfl) fun z hz => ?_⟩
    obtain ⟨j, j1, j2⟩ := idx z hz
    obtain ⟨e, kq, d1, d2, d3⟩ := g3 j z.1 j1
    rw [List.getElem?_map, j2] at d1
    cases Option.some.inj d1
    exact ⟨kq, d3, by rw [← kV_ints]; exact g1 _ _ d2⟩
end
section
variable {prog : Program} {w : World} {A : Around} {E : Value → Shared → Prop} {s : Shared} {r d : Addr} {es : Array DictEntry} {ep : Nat}
/-- list() of a view d.items() -/
theorem list_view {Q : Value → Shared → Prop} (hh : A.handled = none) (hv : s.heap.IsItemsView r d) (hm : DT.Raw s.heap d es ep) (hn : es.size ≤ sizeLine)
    (q : ∀ h' tk acc c as, (∀ b o, s.heap.get? b = some o → h'.get? b = some o) → h'.get? s.heap.objs.size = some { cls := .type "list", dict := none, data := .seq acc c, slots := #[] } → as.length = es.size → DT.Made es s.heap.objs.size h' as →
      acc.toList = as.map Value.ref → Q (.ref s.heap.objs.size) { s with heap := h', toks := tk }) :
    wpAny (model prog w) A (call (.type "list") [.ref r]) Q E s := by
  have lr : r < s.heap.objs.size := let ⟨_, z, _⟩ := hv; Heap.lt_size z
  have ld := hm.lt
  refine PySem.callType_codes (Q₁ := fun x t => x = .ref s.heap.objs.size ∧ t = { s with heap := s.heap.push { cls := .type "list", data := .seq #[] } }) F.called_list (F.typeCall_list_1 _) F.entry_list_init (code_list_new _ ⟨rfl, rfl⟩) fun x t e => ?_
  obtain ⟨rfl, rfl⟩ := e
  have top : (s.heap.push { cls := .type "list", data := .seq #[] }).get? s.heap.objs.size = some { cls := .type "list", data := .seq #[] } := Heap.get?_push_size _ rfl
  refine ⟨⟨_, top, rfl⟩, F.args_list_init_2 _ _, ?_⟩
  show wpAny _ _ (Builtin.List.listItems (.ref s.heap.objs.size) >>= fun was => Builtin.List.listUpdate (.ref s.heap.objs.size) (fun _ => #[]) >>= fun _ => letGo was.toList.reverse >>= fun _ => Builtin.List.listExtendWith (.ref s.heap.objs.size) (.ref r) .none) _ _ _
  unfold Builtin.List.listItems
  refine wpAny_bind (wpAny_bind (wpAny_seqItems top rfl (wpAny_pure ?_)))
  show wpAny _ _ (updateSeq s.heap.objs.size (fun _ => #[]) >>= fun _ => letGo (#[] : Array Value).toList.reverse >>= fun _ => Builtin.List.listExtendWith (.ref s.heap.objs.size) (.ref r) .none) _ _ _
  refine wpAny_bind (wpAny_updateSeq top rfl ?_)
  have top2 := Heap.get?_update_self (Obj.mapSeq (fun _ => (#[] : Array Value))) top rfl
  have keep : ∀ b o, b ≠ s.heap.objs.size → s.heap.get? b = some o → ((s.heap.push { cls := .type "list", data := .seq #[] }).update s.heap.objs.size (Obj.mapSeq (fun _ => (#[] : Array Value)))).get? b = some o := fun b o nb z =>
    (Heap.get?_update_other _ _ (Ne.symm nb)).trans (Heap.get?_push_of_some _ z)
  show wpAny _ _ (Builtin.List.listExtendWith (.ref s.heap.objs.size) (.ref r) .none) _ _ _
  refine DT.extI (A := A.in1) (s := { s with heap := (s.heap.push { cls := .type "list", data := .seq #[] }).update s.heap.objs.size (Obj.mapSeq (fun _ => (#[] : Array Value))) }) (es := es) (ep := ep) hh (let ⟨o, z, zz⟩ := hv; ⟨o, keep r o (Nat.ne_of_lt lr) z, zz⟩) (hm.at' fun o z => keep d o (Nat.ne_of_lt ld) z) s.heap.objs.size (Nat.ne_of_gt lr) (Nat.ne_of_lt ld) .none _ top2 (fun h' tk acc c as kp tp l1 g l2 => ?_) hn
  exact ⟨rfl, q h' tk acc c as (fun b o z => kp b o (Nat.ne_of_lt (Heap.lt_size z)) (keep b o (Nat.ne_of_lt (Heap.lt_size z)) z)) tp l1 (g.low (Nat.le_of_lt (Heap.lt_size top2))) l2⟩
end
section
variable {X : Cx}
theorem cr_listD (hc : X.calm = true) : CallR X (.type "list") rListD := by
  intro pins s σ H xs us Q I r h
  obtain ⟨p, a, kvs, rfl, hp, ha, q⟩ := h
  obtain rfl := Vals.ref1 r
  have view : s.heap.IsItemsView p a := (show ObjOk X.prog X.w H s.heap p (DX.itemsO p a) from I.hok p _ hp).1
  obtain ⟨z, hd, xs', rel, o, es, ep, ho, hx, hdat, hes, his, hn⟩ := dt_of I.hok ha
  have n1 : kvs.length = xs'.length := Paired.length rel
  have n2 : es.size = xs'.length := size_of_entries hes
  refine list_view (es := es) (ep := ep) (I.ok.hd hc) view ⟨o, ho, hx, hdat⟩ (by omega) fun h' tk acc c as hk hL hl g e => ?_
  obtain ⟨H2, I3, g1, g2, g3⟩ := track_pairs (tk := tk) (rs := as) I (made_nodup g) (fun b hb => ⟨Nat.le_of_lt (g.above b hb), Nat.ne_of_gt (g.above b hb)⟩) (Nat.le_refl _) hk hL e (by omega) fun j b hj => made_pair (X := X) rel hes g hj
  exact ⟨.ref s.heap.objs.size, H2, I3, rfl, q H2 _ as g1 g2 (by omega) (I.hok.fresh (Nat.le_refl _)) g3⟩
end
end AL
set_option Elab.async false
set_option maxRecDepth 100000
set_option exponentiation.threshold 70000
/-! Polynomials as lists of terms; ratios as Rat. -/
namespace AL
open PySem L2
def RQ (H : Hp) (t : Addr) (x : Rat) : Prop := RatAt H t x.num x.den
theorem low_rat (x : Rat) : Low x.num x.den := ⟨Nat.pos_of_ne_zero x.den_nz, x.reduced⟩
theorem nrm_rat (a : Int) {b : Nat} (hb : 0 < b) : nrm a b = ((mkRat a b).num, (mkRat a b).den) := by
  have e : mkRat (mkRat a b).num (mkRat a b).den = mkRat a b := Rat.mkRat_self _
  exact nrm_eq (low_rat _).1 hb (low_rat _).2 ((Rat.mkRat_eq_iff (mkRat a b).den_nz (by omega)).mp e)
theorem sum_rat (x y : Rat) : sumR x.num x.den y.num y.den = ((x + y).num, (x + y).den) := by
  unfold sumR
  rw [nrm_rat _ (Nat.mul_pos (low_rat x).1 (low_rat y).1), ← Rat.mkRat_add_mkRat _ _ x.den_nz y.den_nz, Rat.mkRat_self, Rat.mkRat_self]
theorem mul_rat (x y : Rat) : mulR x.num x.den y.num y.den = ((x * y).num, (x * y).den) := by
  unfold mulR
  rw [nrm_rat _ (Nat.mul_pos (low_rat x).1 (low_rat y).1), ← Rat.mkRat_mul_mkRat, Rat.mkRat_self, Rat.mkRat_self]
theorem dif_rat (x y : Rat) : difR x.num x.den y.num y.den = ((x - y).num, (x - y).den) := by
  have e := sum_rat x (-y)
  rw [Rat.neg_num, Rat.neg_den, ← Rat.sub_eq_add_neg] at e
  rw [← e]
  unfold difR sumR
  rw [Int.neg_mul, ← Int.sub_eq_add_neg]
/-- x is X / D, |X| at most B * D -/
def Sz (D B : Nat) (x : Rat) : Prop := 0 < D ∧ ∃ X : Int, X.natAbs ≤ B * D ∧ x = mkRat X D
theorem Sz.le {D B : Nat} {x : Rat} (h : Sz D B x) : x.num.natAbs ≤ B * D ∧ x.den ≤ D := by
  obtain ⟨h0, X, hX, e⟩ := h
  obtain ⟨n, d, z, c⟩ := x
  obtain ⟨m, m0, e1, e2⟩ := Rat.mkRat_num_den (by omega) e.symm
  refine ⟨Nat.le_trans ?_ hX, ?_⟩
  · rw [e1, Int.natAbs_mul, Int.natAbs_natCast]
    exact Nat.le_mul_of_pos_right _ (by omega)
  · rw [e2]
    exact Nat.le_mul_of_pos_right _ (by omega)
theorem Sz.mid {D B : Nat} {x : Rat} (h : Sz D B x) (h1 : B * D < 2 ^ 6000) (h2 : D < 2 ^ 6000) : Mid x.num x.den :=
  ⟨(low_rat x).1, Nat.lt_of_le_of_lt h.le.1 h1, Nat.lt_of_le_of_lt h.le.2 h2⟩
theorem Sz.mono {D B C : Nat} {x : Rat} (h : Sz D B x) (hb : B ≤ C) : Sz D C x := let ⟨h0, X, hX, e⟩ := h; ⟨h0, X, Nat.le_trans hX (Nat.mul_le_mul_right _ hb), e⟩
theorem Sz.up {D B : Nat} {x : Rat} (h : Sz D B x) {E : Nat} (hE : 0 < E) : Sz (D * E) B x := by
  obtain ⟨h0, X, hX, e⟩ := h
  refine ⟨Nat.mul_pos h0 hE, X * (E : Int), ?_, ?_⟩
  · rw [Int.natAbs_mul, Int.natAbs_natCast, ← Nat.mul_assoc]
    exact Nat.mul_le_mul_right _ hX
  · rw [e]
    refine (Rat.mkRat_eq_iff (by omega) (Nat.ne_of_gt (Nat.mul_pos h0 hE))).mpr ?_
    rw [Int.natCast_mul, Int.mul_assoc, Int.mul_comm (D : Int)]
theorem Sz.add {D B C : Nat} {x y : Rat} (h : Sz D B x) (k : Sz D C y) : Sz D (B + C) (x + y) := by
  obtain ⟨h0, X, hX, e⟩ := h
  obtain ⟨_, Y, hY, f⟩ := k
  refine ⟨h0, X + Y, ?_, ?_⟩
  · rw [Nat.add_mul]
    exact Nat.le_trans (Int.natAbs_add_le _ _) (Nat.add_le_add hX hY)
  · rw [e, f, Rat.mkRat_add_mkRat _ _ (by omega) (by omega)]
    refine (Rat.mkRat_eq_iff (Nat.ne_of_gt (Nat.mul_pos h0 h0)) (by omega)).mpr ?_
    rw [Int.natCast_mul, ← Int.add_mul, Int.mul_assoc]
theorem Sz.neg {D B : Nat} {x : Rat} (h : Sz D B x) : Sz D B (-x) := by
  obtain ⟨h0, X, hX, e⟩ := h
  exact ⟨h0, -X, by rw [Int.natAbs_neg]; exact hX, by rw [e, Rat.neg_mkRat]⟩
theorem Sz.mul {D B E C : Nat} {x y : Rat} (h : Sz D B x) (k : Sz E C y) : Sz (D * E) (B * C) (x * y) := by
  obtain ⟨h0, X, hX, e⟩ := h
  obtain ⟨k0, Y, hY, f⟩ := k
  refine ⟨Nat.mul_pos h0 k0, X * Y, ?_, ?_⟩
  · rw [Int.natAbs_mul, Nat.mul_mul_mul_comm]
    exact Nat.mul_le_mul hX hY
  · rw [e, f, Rat.mkRat_mul_mkRat]
theorem Sz.frac {a : Int} {b D B : Nat} (hb : 0 < b) (hd : b ∣ D) (h0 : 0 < D) (ha : a.natAbs ≤ B) : Sz D B (mkRat a b) := by
  obtain ⟨E, rfl⟩ := hd
  have hE : 0 < E := Nat.pos_of_ne_zero fun z => by rw [z] at h0; omega
  refine Sz.up (D := b) ⟨hb, a, Nat.le_trans ha (Nat.le_mul_of_pos_right _ hb), rfl⟩ hE
theorem Sz.int {D B : Nat} (i : Int) (h0 : 0 < D) (h : i.natAbs ≤ B) : Sz D B (mkRat i 1) := Sz.frac (by decide) (Nat.one_dvd _) h0 h

/-! ### terms -/
abbrev Ex := List Nat
abbrev PM := List (Ex × Rat)
def ki (e : Ex) : List Int := e.map fun k : Nat => (k : Int)
theorem ki_inj : ∀ {a b : Ex}, ki a = ki b → a = b
  | [], [], _ => rfl
  | [], _ :: _, h => nomatch h
  | _ :: _, [], h => nomatch h
  | a :: r, b :: s, h => by
    have h' : (a : Int) :: ki r = (b : Int) :: ki s := h
    injection h' with h1 h2
    rw [ki_inj h2, show a = b by omega]
def lin (φ : Ex → Rat) : PM → Rat
  | [] => 0
  | p :: r => p.2 * φ p.1 + lin φ r
theorem lin_append (φ : Ex → Rat) : ∀ a b : PM, lin φ (a ++ b) = lin φ a + lin φ b
  | [], b => by rw [List.nil_append]; exact (Rat.zero_add _).symm
  | p :: r, b => by
    show p.2 * φ p.1 + lin φ (r ++ b) = p.2 * φ p.1 + lin φ r + lin φ b
    rw [lin_append φ r b, Rat.add_assoc]
theorem lin_congr {φ ψ : Ex → Rat} : ∀ {m : PM}, (∀ p ∈ m, φ p.1 = ψ p.1) → lin φ m = lin ψ m
  | [], _ => rfl
  | p :: r, h => by
    show p.2 * φ p.1 + lin φ r = p.2 * ψ p.1 + lin ψ r
    rw [h p (List.mem_cons_self ..), lin_congr fun q hq => h q (List.mem_cons_of_mem _ hq)]
theorem lin_zero : ∀ (m : PM), lin (fun _ => 0) m = 0
  | [] => rfl
  | p :: r => by
    show p.2 * 0 + lin _ r = 0
    rw [lin_zero r, Rat.mul_zero, Rat.zero_add]
theorem lin_mulr (φ : Ex → Rat) (c : Rat) : ∀ m : PM, lin (fun e => φ e * c) m = lin φ m * c
  | [] => by show (0 : Rat) = 0 * c; grind
  | p :: r => by
    show p.2 * (φ p.1 * c) + lin _ r = (p.2 * φ p.1 + lin φ r) * c
    rw [lin_mulr φ c r]
    grind
theorem lin_perm (φ : Ex → Rat) {a b : PM} (h : a.Perm b) : lin φ a = lin φ b := by
  induction h with
  | nil => rfl
  | cons x _ ih => show _ + lin φ _ = _ + lin φ _; rw [ih]
  | swap x y l =>
    show y.2 * φ y.1 + (x.2 * φ x.1 + lin φ l) = x.2 * φ x.1 + (y.2 * φ y.1 + lin φ l)
    grind
  | trans _ _ i1 i2 => exact i1.trans i2
/-- the same polynomial -/
def Eqp (a b : PM) : Prop := ∀ φ : Ex → Rat, lin φ a = lin φ b
theorem Eqp.rfl' {a : PM} : Eqp a a := fun _ => rfl
theorem Eqp.symm {a b : PM} (h : Eqp a b) : Eqp b a := fun φ => (h φ).symm
theorem Eqp.trans {a b c : PM} (h : Eqp a b) (k : Eqp b c) : Eqp a c := fun φ => (h φ).trans (k φ)
theorem Eqp.append {a b c d : PM} (h : Eqp a b) (k : Eqp c d) : Eqp (a ++ c) (b ++ d) := fun φ => by rw [lin_append, lin_append, h φ, k φ]
def nzM (m : PM) : PM := m.filter fun p => decide (p.2 ≠ 0)
theorem nz_eqp : ∀ m : PM, Eqp (nzM m) m
  | [], _ => rfl
  | p :: r, φ => by
    have ih := nz_eqp r φ
    unfold nzM at ih ⊢
    by_cases h : p.2 = 0
    · rw [List.filter_cons_of_neg (by simp [h]), ih]
      show lin φ r = p.2 * φ p.1 + lin φ r
      rw [h]; grind
    · rw [List.filter_cons_of_pos (by simp [h])]
      show p.2 * φ p.1 + lin φ _ = _
      rw [ih]; rfl
def getM (m : PM) (e : Ex) : Option Rat := (m.find? fun p => decide (p.1 = e)).map (·.2)
def hasM (m : PM) (e : Ex) : Bool := m.any fun p => decide (p.1 = e)
def putM (m : PM) (e : Ex) (v : Rat) : PM := if hasM m e = true then m.map (fun p => if p.1 = e then (p.1, v) else p) else m ++ [(e, v)]
theorem has_get (e : Ex) : ∀ m : PM, hasM m e = (getM m e).isSome
  | [] => rfl
  | p :: r => by
    have ih := has_get e r
    unfold hasM getM at ih ⊢
    rw [List.any_cons, List.find?_cons]
    by_cases h : p.1 = e
    · simp [h]
    · rw [decide_eq_false h, Bool.false_or]; exact ih
theorem put_keys (m : PM) (e : Ex) (v : Rat) : (putM m e v).map (·.1) = if hasM m e = true then m.map (·.1) else m.map (·.1) ++ [e] := by
  unfold putM
  split
  · rw [List.map_map]
    refine List.map_congr_left fun p _ => ?_
    show (if p.1 = e then (p.1, v) else p).1 = p.1
    split <;> rfl
  · rw [List.map_append]; rfl
theorem has_mem {m : PM} {e : Ex} : hasM m e = true ↔ e ∈ m.map (·.1) := by
  unfold hasM
  rw [List.any_eq_true, List.mem_map]
  exact ⟨fun ⟨p, h1, h2⟩ => ⟨p, h1, of_decide_eq_true h2⟩, fun ⟨p, h1, h2⟩ => ⟨p, h1, decide_eq_true h2⟩⟩
theorem put_nodup {m : PM} (nd : (m.map (·.1)).Nodup) (e : Ex) (v : Rat) : ((putM m e v).map (·.1)).Nodup := by
  rw [put_keys]
  split
  · exact nd
  · rename_i h
    rw [List.nodup_append]
    refine ⟨nd, by simp, fun a ha b hb z => h (has_mem.mpr ?_)⟩
    rw [List.mem_singleton] at hb
    rw [← hb, ← z]; exact ha
theorem put_len (m : PM) (e : Ex) (v : Rat) : (putM m e v).length ≤ m.length + 1 := by
  unfold putM
  split
  · rw [List.length_map]; omega
  · rw [List.length_append]; exact Nat.le_refl _
theorem lin_put (φ : Ex → Rat) (e : Ex) (v : Rat) : ∀ m : PM, (m.map (·.1)).Nodup → lin φ (putM m e v) = lin φ m + (v - (getM m e).getD 0) * φ e
  | [], _ => by
    show v * φ e + 0 = 0 + (v - 0) * φ e
    grind
  | p :: r, nd => by
    rw [List.map_cons, List.nodup_cons] at nd
    have ih := lin_put φ e v r nd.2
    by_cases h : p.1 = e
    · have h1 : hasM (p :: r) e = true := by unfold hasM; rw [List.any_cons, decide_eq_true h, Bool.true_or]
      have h2 : getM (p :: r) e = some p.2 := by unfold getM; rw [List.find?_cons, decide_eq_true h]; rfl
      have h3 : r.map (fun p => if p.1 = e then (p.1, v) else p) = r := by
        refine (List.map_congr_left fun q hq => ?_).trans (List.map_id r)
        rw [if_neg fun z => nd.1 (List.mem_map.mpr ⟨q, hq, by rw [z, h]⟩)]; rfl
      unfold putM
      rw [if_pos h1, h2, List.map_cons, if_pos h, h3]
      show v * φ p.1 + lin φ r = p.2 * φ p.1 + lin φ r + (v - p.2) * φ e
      rw [h]; grind
    · have h1 : hasM (p :: r) e = hasM r e := by unfold hasM; rw [List.any_cons, decide_eq_false h, Bool.false_or]
      have h2 : getM (p :: r) e = getM r e := by unfold getM; rw [List.find?_cons, decide_eq_false h]
      have h3 : putM (p :: r) e v = p :: putM r e v := by
        unfold putM
        rw [h1]
        split
        · rw [List.map_cons, if_neg h]
        · rfl
      rw [h3, h2]
      show p.2 * φ p.1 + lin φ (putM r e v) = p.2 * φ p.1 + lin φ r + _
      rw [ih]; grind
def addM (m : PM) (e : Ex) (v : Rat) : PM := putM m e ((getM m e).getD 0 + v)
def joinM (m l : PM) : PM := l.foldl (fun a p => addM a p.1 p.2) m
theorem join_take {m l : PM} {i : Nat} {p : Ex × Rat} (h : l[i]? = some p) : joinM m (l.take (i + 1)) = addM (joinM m (l.take i)) p.1 p.2 := by
  unfold joinM
  rw [List.take_add_one, h, List.foldl_append]; rfl
theorem join_lin (φ : Ex → Rat) : ∀ (l m : PM), (m.map (·.1)).Nodup → lin φ (joinM m l) = lin φ m + lin φ l ∧ ((joinM m l).map (·.1)).Nodup
  | [], m, nd => ⟨(Rat.add_zero _).symm, nd⟩
  | p :: r, m, nd => by
    have nd2 := put_nodup nd p.1 ((getM m p.1).getD 0 + p.2)
    obtain ⟨h1, h2⟩ := join_lin φ r (addM m p.1 p.2) nd2
    refine ⟨?_, h2⟩
    show lin φ (joinM (addM m p.1 p.2) r) = lin φ m + (p.2 * φ p.1 + lin φ r)
    rw [h1]
    unfold addM
    rw [lin_put φ _ _ _ nd]
    grind
theorem join_eqp (l : PM) : Eqp (joinM [] l) l := fun φ => by rw [(join_lin φ l [] List.nodup_nil).1]; exact Rat.zero_add _
theorem join_nodup (l : PM) : ((joinM [] l).map (·.1)).Nodup := (join_lin (fun _ => 0) l [] List.nodup_nil).2
/-- keys of n numbers up to E, ratios within D and B -/
def PB (n E D B : Nat) (m : PM) : Prop := ∀ p ∈ m, p.1.length = n ∧ (∀ k ∈ p.1, k ≤ E) ∧ Sz D B p.2
theorem PB.mono {n E D B C F : Nat} {m : PM} (h : PB n E D B m) (h1 : B ≤ C) (h2 : E ≤ F) : PB n F D C m := fun p hp => let ⟨a, b, c⟩ := h p hp; ⟨a, fun k hk => Nat.le_trans (b k hk) h2, c.mono h1⟩
theorem PB.up {n E D B F : Nat} {m : PM} (h : PB n E D B m) (hF : 0 < F) : PB n E (D * F) B m := fun p hp => let ⟨a, b, c⟩ := h p hp; ⟨a, b, c.up hF⟩
theorem PB.append {n E D B : Nat} {m l : PM} (h : PB n E D B m) (k : PB n E D B l) : PB n E D B (m ++ l) := fun p hp => (List.mem_append.mp hp).elim (h p) (k p)
theorem PB.sub {n E D B : Nat} {m l : PM} (h : PB n E D B m) (k : ∀ p ∈ l, p ∈ m) : PB n E D B l := fun p hp => h p (k p hp)
theorem PB.nz {n E D B : Nat} {m : PM} (h : PB n E D B m) : PB n E D B (nzM m) := h.sub fun _ hp => (List.mem_filter.mp hp).1
theorem get_mem {m : PM} {e : Ex} {v : Rat} (h : getM m e = some v) : (e, v) ∈ m := by
  unfold getM at h
  rw [Option.map_eq_some_iff] at h
  obtain ⟨p, h1, h2⟩ := h
  have h3 : p.1 = e := by have z := List.find?_some h1; exact of_decide_eq_true z
  have h4 := List.mem_of_find?_eq_some h1
  rw [← h3, ← h2]; exact h4
theorem PB.add {n E D B C : Nat} {m : PM} (h : PB n E D B m) {e : Ex} {v : Rat} (hl : e.length = n) (he : ∀ k ∈ e, k ≤ E) (hv : Sz D C v) : PB n E D (B + C) (addM m e v) := by
  have hg : Sz D (B + C) ((getM m e).getD 0 + v) := by
    cases z : getM m e with
    | none =>
      rw [Option.getD_none, Rat.zero_add]
      exact hv.mono (by omega)
    | some x => exact (h _ (get_mem z)).2.2.add hv
  intro p hp
  unfold addM putM at hp
  split at hp
  · obtain ⟨q, hq, rfl⟩ := List.mem_map.mp hp
    split
    · exact ⟨(h q hq).1, (h q hq).2.1, hg⟩
    · exact ⟨(h q hq).1, (h q hq).2.1, (h q hq).2.2.mono (by omega)⟩
  · rcases List.mem_append.mp hp with hp | hp
    · exact ⟨(h p hp).1, (h p hp).2.1, (h p hp).2.2.mono (by omega)⟩
    · rw [List.mem_singleton] at hp
      rw [hp]; exact ⟨hl, he, hg⟩
theorem PB.join {n E D C : Nat} : ∀ {l m : PM} {B : Nat}, PB n E D B m → PB n E D C l → PB n E D (B + C * l.length) (joinM m l)
  | [], m, B, h, _ => by rw [List.length_nil, Nat.mul_zero]; exact h
  | p :: r, m, B, h, k => by
    have k1 := k p (List.mem_cons_self ..)
    have z := PB.join (l := r) (h.add k1.1 k1.2.1 k1.2.2) fun q hq => k q (List.mem_cons_of_mem _ hq)
    refine PB.mono z ?_ (Nat.le_refl _)
    rw [List.length_cons, Nat.mul_add]; omega
theorem join_len : ∀ (l m : PM), (joinM m l).length ≤ m.length + l.length
  | [], m => Nat.le_refl _
  | p :: r, m => by
    have h := join_len r (addM m p.1 p.2)
    have h2 := put_len m p.1 ((getM m p.1).getD 0 + p.2)
    unfold addM at h
    show (joinM (addM m p.1 p.2) r).length ≤ m.length + (r.length + 1)
    unfold addM
    omega
/-! ### in their order -/
def cd (e : Ex) : Int := TS.code 128 (ki e)
def Asc (m : PM) : Prop := m.Pairwise fun p q => cd p.1 < cd q.1
def NZ (m : PM) : Prop := ∀ p ∈ m, p.2 ≠ 0
def ind (e : Ex) : Ex → Rat := fun f => if f = e then 1 else 0
theorem ind_none {e : Ex} : ∀ {m : PM}, (∀ p ∈ m, p.1 ≠ e) → lin (ind e) m = 0
  | [], _ => rfl
  | p :: r, h => by
    have ih := ind_none fun q hq => h q (List.mem_cons_of_mem _ hq)
    show p.2 * (if p.1 = e then 1 else 0) + lin (ind e) r = 0
    rw [if_neg (h p (List.mem_cons_self ..)), ih]
    grind
theorem ind_head {p : Ex × Rat} {r : PM} (h : Asc (p :: r)) : lin (ind p.1) (p :: r) = p.2 := by
  have h2 := (List.pairwise_cons.mp h).1
  show p.2 * (if p.1 = p.1 then 1 else 0) + lin (ind p.1) r = p.2
  rw [if_pos rfl, ind_none fun q hq z => by have := h2 q hq; rw [z] at this; omega]
  grind
theorem uniq : ∀ {a b : PM}, Asc a → Asc b → NZ a → NZ b → Eqp a b → a = b
  | [], [], _, _, _, _, _ => rfl
  | [], q :: s, _, hb, _, nb, h => by
    have z := h (ind q.1)
    rw [ind_head hb] at z
    exact absurd z.symm (nb q (List.mem_cons_self ..))
  | p :: r, [], ha, _, na, _, h => by
    have z := h (ind p.1)
    rw [ind_head ha] at z
    exact absurd z (na p (List.mem_cons_self ..))
  | p :: r, q :: s, ha, hb, na, nb, h => by
    obtain ⟨a1, a2⟩ := List.pairwise_cons.mp ha
    obtain ⟨b1, b2⟩ := List.pairwise_cons.mp hb
    have z1 := h (ind p.1)
    have z2 := h (ind q.1)
    rw [ind_head ha] at z1
    rw [ind_head hb] at z2
    have m1 : ∃ x ∈ q :: s, x.1 = p.1 := by
      refine Classical.byContradiction fun w => na p (List.mem_cons_self ..) ?_
      rw [z1, ind_none fun x hx z => w ⟨x, hx, z⟩]
    have m2 : ∃ x ∈ p :: r, x.1 = q.1 := by
      refine Classical.byContradiction fun w => nb q (List.mem_cons_self ..) ?_
      rw [← z2, ind_none fun x hx z => w ⟨x, hx, z⟩]
    obtain ⟨x, hx, ex⟩ := m1
    obtain ⟨y, hy, ey⟩ := m2
    have ek : p.1 = q.1 := by
      rcases List.mem_cons.mp hx with rfl | hx
      · exact ex.symm
      · rcases List.mem_cons.mp hy with rfl | hy
        · exact ey
        · have w1 := b1 x hx
          have w2 := a1 y hy
          rw [ex] at w1
          rw [ey] at w2
          omega
    have ev : p.2 = q.2 := by
      rw [z1, ek, ind_head hb]
    have e : p = q := Prod.ext ek ev
    subst e
    rw [uniq a2 b2 (fun x hx => na x (List.mem_cons_of_mem _ hx)) (fun x hx => nb x (List.mem_cons_of_mem _ hx)) fun φ => Rat.add_left_cancel _ (h φ)]
theorem code_inj : ∀ {a b : List Int}, a.length = b.length → TS.Bd 128 a → TS.Bd 128 b → TS.code 128 a = TS.code 128 b → a = b
  | [], [], _, _, _, _ => rfl
  | [], _ :: _, h, _, _, _ => nomatch h
  | _ :: _, [], h, _, _, _ => nomatch h
  | x :: r, y :: s, h, ha, hb, e => by
    have h' : r.length = s.length := by simpa using h
    rcases Int.lt_trichotomy x y with w | w | w
    · have := TS.code_lt (B := 128) h' ha.tail hb.tail w
      omega
    · subst w
      have e2 : TS.code 128 r = TS.code 128 s := by
        have e' : x * 128 ^ r.length + TS.code 128 r = x * 128 ^ s.length + TS.code 128 s := e
        rw [h'] at e'
        omega
      rw [code_inj h' ha.tail hb.tail e2]
    · have := TS.code_lt (B := 128) h'.symm hb.tail ha.tail w
      omega
theorem bd_ki {e : Ex} (h : ∀ k ∈ e, k ≤ 80) : TS.Bd 128 (ki e) := fun m hm => by
  obtain ⟨k, hk, rfl⟩ := List.mem_map.mp hm
  have := h k hk
  omega
theorem len_ki (e : Ex) : (ki e).length = e.length := by unfold ki; exact List.length_map _
/-! ### products, values -/
def plE (e f : Ex) : Ex := List.zipWith (· + ·) e f
def mulM (a b : PM) : PM := a.flatMap fun p => b.map fun q => (plE p.1 q.1, p.2 * q.2)
theorem lin_map (φ : Ex → Rat) (p : Ex × Rat) : ∀ b : PM, lin φ (b.map fun q => (plE p.1 q.1, p.2 * q.2)) = p.2 * lin (fun f => φ (plE p.1 f)) b
  | [] => by show (0 : Rat) = p.2 * 0; grind
  | q :: s => by
    rw [List.map_cons]
    show p.2 * q.2 * φ (plE p.1 q.1) + lin φ _ = p.2 * (q.2 * φ (plE p.1 q.1) + lin _ s)
    rw [lin_map φ p s]
    grind
theorem lin_mul (φ : Ex → Rat) : ∀ a b : PM, lin φ (mulM a b) = lin (fun e => lin (fun f => φ (plE e f)) b) a
  | [], _ => rfl
  | p :: r, b => by
    have e : mulM (p :: r) b = (b.map fun q => (plE p.1 q.1, p.2 * q.2)) ++ mulM r b := List.flatMap_cons
    rw [e, lin_append, lin_map, lin_mul φ r b]
    rfl
theorem Eqp.mul {a b c d : PM} (h : Eqp a b) (k : Eqp c d) : Eqp (mulM a c) (mulM b d) := fun φ => by
  rw [lin_mul, lin_mul, h]
  exact lin_congr fun p _ => k _
def sclM (c : Rat) (a : PM) : PM := a.map fun p => (p.1, p.2 * c)
theorem lin_scl (φ : Ex → Rat) (c : Rat) : ∀ a : PM, lin φ (sclM c a) = lin φ a * c
  | [] => by show (0 : Rat) = 0 * c; grind
  | p :: r => by
    show p.2 * c * φ p.1 + lin φ (sclM c r) = (p.2 * φ p.1 + lin φ r) * c
    rw [lin_scl φ c r]
    grind
theorem Eqp.scl {a b : PM} (h : Eqp a b) (c : Rat) : Eqp (sclM c a) (sclM c b) := fun φ => by rw [lin_scl, lin_scl, h]
def mon : Ex → List Rat → Rat
  | k :: e, x :: p => x ^ k * mon e p
  | _, _ => 1
def ev (p : List Rat) (m : PM) : Rat := lin (fun e => mon e p) m
theorem mon_add : ∀ (e f : Ex) (p : List Rat), e.length = p.length → f.length = p.length → mon (plE e f) p = mon e p * mon f p
  | [], [], [], _, _ => by show (1 : Rat) = 1 * 1; grind
  | [], _ :: _, [], _, k => nomatch k
  | _ :: _, [], [], h, _ => nomatch h
  | i :: e, j :: f, x :: p, h, k => by
    show x ^ (i + j) * mon (plE e f) p = x ^ i * mon e p * (x ^ j * mon f p)
    rw [mon_add e f p (by simpa using h) (by simpa using k)]
    grind
theorem ev_mul {n E D B F C G : Nat} {a b : PM} {p : List Rat} (ha : PB n E D B a) (hb : PB n F G C b) (hp : p.length = n) : ev p (mulM a b) = ev p a * ev p b := by
  unfold ev
  rw [lin_mul, ← lin_mulr]
  refine lin_congr fun x hx => ?_
  have e : ∀ y ∈ b, mon (plE x.1 y.1) p = mon y.1 p * mon x.1 p := fun y hy => by
    rw [mon_add _ _ _ ((ha x hx).1.trans hp.symm) ((hb y hy).1.trans hp.symm)]
    grind
  rw [lin_congr (m := b) (φ := fun f => mon (plE x.1 f) p) (ψ := fun f => mon f p * mon x.1 p) e, lin_mulr]
  grind
theorem PB.mul {n E D B F C G : Nat} {a b : PM} (ha : PB n E D B a) (hb : PB n F G C b) : PB n (E + F) (D * G) (B * C) (mulM a b) := fun p hp => by
  obtain ⟨x, hx, hp⟩ := List.mem_flatMap.mp hp
  obtain ⟨y, hy, rfl⟩ := List.mem_map.mp hp
  refine ⟨?_, fun k hk => ?_, (ha x hx).2.2.mul (hb y hy).2.2⟩
  · show (plE x.1 y.1).length = n
    unfold plE
    rw [List.length_zipWith, (ha x hx).1, (hb y hy).1, Nat.min_self]
  · obtain ⟨i, hi⟩ := List.mem_iff_getElem?.mp hk
    have hi' : (plE x.1 y.1)[i]? = some k := hi
    unfold plE at hi'
    rw [List.getElem?_zipWith] at hi'
    cases h1 : x.1[i]? with
    | none => rw [h1] at hi'; exact nomatch hi'
    | some u =>
      cases h2 : y.1[i]? with
      | none => rw [h1, h2] at hi'; exact nomatch hi'
      | some v =>
        rw [h1, h2] at hi'
        have e : u + v = k := Option.some.inj hi'
        have := (ha x hx).2.1 u (List.mem_of_getElem? h1)
        have := (hb y hy).2.1 v (List.mem_of_getElem? h2)
        omega
theorem PB.scl {n E D B : Nat} {a : PM} (ha : PB n E D B a) : PB n E D B (sclM (-1) a) := fun p hp => by
  obtain ⟨x, hx, rfl⟩ := List.mem_map.mp hp
  refine ⟨(ha x hx).1, (ha x hx).2.1, ?_⟩
  show Sz D B (x.2 * -1)
  rw [Rat.mul_neg, Rat.mul_one]
  exact (ha x hx).2.2.neg
end AL
set_option Elab.async false
set_option linter.all false
set_option maxRecDepth 100000
/-! dict(pairs) where the keys are tuples, all unlike. -/
namespace AL
open PySem PySem.W PySem.Spec PyProof.Rows L2
theorem stored_all {κ : Type} [DecidableEq κ] : ∀ (ps xs : List (κ × Addr × Value)), ((xs ++ ps).map (·.1)).Nodup → storedAllH xs ps = xs ++ ps
  | [], xs, _ => by rw [List.append_nil]; rfl
  | p :: ps, xs, h => by
    have no : atKey xs p.1 = none := by
      unfold atKey
      rw [Option.map_eq_none_iff, List.find?_eq_none]
      intro x hx z
      rw [List.map_append, List.nodup_append] at h
      exact h.2.2 _ (List.mem_map.mpr ⟨x, hx, rfl⟩) p.1 (by simp) (of_decide_eq_true z)
    have e : storedAllH xs (p :: ps) = storedAllH (storedH xs p.1 p.2.1 p.2.2) ps := rfl
    rw [e, storedH_new no, stored_all ps _ (by rw [List.append_assoc]; exact h), List.append_assoc]
    rfl
section
variable {X : Cx} {pins : List (Addr × Obj)} {σ : L2.St} {H : Hp} {s : Shared}
/-- the pairs as they lie -/
theorem lie_pairs (I : Inv X pins σ H s) {ps : List Addr} {kvs : List (List L2.Key × V)} (h : Paired (fun p (kv : List L2.Key × V) => ∃ b, H p = some (.tup [.ref b, kv.2]) ∧ H b = some (.tup (kv.1.map kV))) ps kvs) :
    ∃ xs : List (List L2.Key × Addr × Value), KT H kvs xs ∧ xs.length = ps.length ∧ ∀ (j : Nat) (x : List L2.Key × Addr × Value), xs[j]? = some x → ∃ p, ps[j]? = some p ∧ PairAt s.heap p (.ref x.2.1) x.2.2 := by
  induction h with
  | nil => exact ⟨[], .nil, rfl, fun j x e => by simp at e⟩
  | @cons p kv ps kvs h t ih =>
    obtain ⟨xs, r, l, q⟩ := ih
    obtain ⟨b, h1, h2⟩ := h
    obtain ⟨_, its, rv, o, ho, hc, n, hd⟩ := (show ObjOk X.prog X.w H s.heap p (.tup [.ref b, kv.2]) from I.hok p _ h1)
    obtain ⟨u, v, rfl, ru, rv2⟩ := vals2 rv
    cases ru
    refine ⟨(kv.1, b, v) :: xs, .cons ⟨rfl, h2, rv2⟩ r, by rw [List.length_cons, List.length_cons, l], fun j x e => ?_⟩
    cases j with
    | zero =>
      cases Option.some.inj e
      exact ⟨p, rfl, .inl ⟨o, ho, hc, n, hd⟩⟩
    | succ j =>
      obtain ⟨p2, e1, e2⟩ := q j x (by simpa using e)
      exact ⟨p2, by simpa using e1, e2⟩
theorem kt_keys {kvs : List (List L2.Key × V)} {xs : List (List L2.Key × Addr × Value)} (r : KT H kvs xs) : kvs.map (·.1) = xs.map (·.1) := by
  induction r with
  | nil => rfl
  | cons h t ih => rw [List.map_cons, List.map_cons, h.1, ih]
end
section
variable {X : Cx}
/-- dict(l), l a list of pairs (tuple, value) with keys all unlike -/
def rDictT (K : PySem.W.Frag) : List V → Hp → VK → Prop := fun vs H Q => ∃ (a : Addr) (ps : List Addr) (kvs : List (List L2.Key × V)), vs = [.ref a] ∧ H a = some (.lst (ps.map V.ref)) ∧ (kvs.map (·.1)).Nodup ∧
  Paired (fun p (kv : List L2.Key × V) => ∃ b, H p = some (.tup [.ref b, kv.2]) ∧ H b = some (.tup (kv.1.map kV))) ps kvs ∧ ∀ p, H p = none → Q (.ref p) (upd H p (.dT kvs))
theorem cr_dictT (hc : X.calm = true) (hu : X.A.units + 64 < cLine) : CallR X (.type "dict") (rDictT X.K) := by
  intro pins s σ H vs us Q I r h
  obtain ⟨a, ps, kvs, rfl, ha, nd, hp, q⟩ := h
  obtain rfl := Vals.ref1 r
  obtain ⟨its, rv, pl, hz⟩ := I.list (SqL.of ha)
  cases refs_at rv
  rw [List.length_map] at hz
  obtain ⟨xs, kt, hl, hx⟩ := lie_pairs I hp
  obtain ⟨o, n, ho, hcl, hd, hdat⟩ := pl
  have P := PairArg.list (prog := X.prog) (w := X.w) a (ps.map Value.ref).toArray (fun j => ps.getD j 0) (xs.map fun x => (Value.ref x.2.1, x.2.2))
  have kis : ∀ h' : Heap, (∀ b o, s.heap.get? b = some o → h'.get? b = some o) → ∀ x ∈ xs, (KDT X).is h' x.1 x.2.1 := fun h' k x hx => by
    obtain ⟨j, hj⟩ := List.mem_iff_getElem?.mp hx
    obtain ⟨e, _, r1, r2, _⟩ := DX.pget kt hj
    have r2' : H x.2.1 = some (.tup (x.1.map kV)) := r1 ▸ r2
    obtain ⟨ok, ik, nk, k1, k2, k3, k4⟩ := (show IsTupleKey (mixKind X.prog X.w) s.heap x.1 x.2.1 from key_of I.hok r2')
    exact ⟨ok, ik, nk, k _ _ k1, k2, k3, k4⟩
  refine call_dict_pairsH (knd := KDT X) (ps := xs) P (I.ok.hd hc) (by show X.A.units + 1 + 1 < cLine; omega) ⟨⟨o, n, ho, hcl, hd, hdat⟩, ?_, fun j k v e => ?_⟩ ⟨(by rw [List.length_map]), fun i key v e => ?_⟩ (fun h' k x hx => kis h' (fun b o z => k b o (Nat.ne_of_lt (Heap.lt_size z)) List.not_mem_nil z) x hx) (by rw [List.length_map, hl]; exact hz) fun h' tk dd kp => ?_
  · rw [List.size_toArray, List.length_map, List.length_map, hl]
  · rw [List.getElem?_map] at e
    cases ex : xs[j]? with
    | none => rw [ex] at e; cases e
    | some x =>
      rw [ex] at e
      cases Option.some.inj e
      obtain ⟨p, e1, e2⟩ := hx j x ex
      have e3 : ps.getD j 0 = p := by rw [List.getD, e1]; rfl
      dsimp only
      rw [e3]
      exact ⟨by rw [List.getElem?_toArray, List.getElem?_map, e1]; rfl, e2⟩
  · have e' : (xs.map fun x => (Value.ref x.2.1, x.2.2))[i]? = some (key, v) := e
    rw [List.getElem?_map] at e'
    cases ex : xs[i]? with
    | none => rw [ex] at e'; cases e'
    | some x =>
      rw [ex] at e'
      cases Option.some.inj e'
      exact ⟨x.1, x.2.1, rfl, rfl⟩
  · have hm : (s.heap.objs.size == sysModules) = false := beq_eq_false_iff_ne.mpr (Nat.ne_of_gt I.big)
    rw [stored_all xs [] (by rw [List.nil_append, ← kt_keys kt]; exact nd), List.nil_append] at dd
    obtain ⟨od, es, ep, d1, d2, d3, d4, _, d6⟩ := dd
    have nw : H s.heap.objs.size = none := I.hok.fresh (Nat.le_refl _)
    refine ⟨.ref s.heap.objs.size, upd H s.heap.objs.size (.dT kvs), I.laid (t' := tk) (fun b o z => kp b o List.not_mem_nil z) (Nat.le_refl _) ⟨?_, hm, xs, kt.keeps fun b ys z => by rw [upd_ne (ne_of_none z nw)]; exact z, od, es, ep, d1, d2, d3, d4, d6⟩, rfl, q _ nw⟩
    rw [Paired.length kt, hl]; exact hz
end
end AL
set_option Elab.async false
set_option linter.all false
set_option maxRecDepth 100000
/-! Loops over a list or a tuple alike; isinstance(x, (list, tuple)); a statement that is not reached. -/
namespace AL
open PySem PySem.Spec PyProof.Rows L2
def SqB (K : PySem.W.Frag) (H : Hp) (a : Addr) (xs : List V) : Bool → Prop
  | true => SqL K H a xs
  | false => SqT K H a xs
def ItB (K : PySem.W.Frag) (a : Addr) : Bool → It
  | true => Itl K a
  | false => Itt K a
def iSeq (K : PySem.W.Frag) (tl : TE) : TI := fun σ H R => tl σ H fun x H1 => ∃ a k, x = .ref a ∧ (∃ xs, SqB K H1 a xs k) ∧ R (ItB K a k) H1
theorem pi_seq {X : Cx} {tg l : Expr} {tl : TE} (hl : PE X l tl) : PI X tg l (iSeq X.K tl) := by
  refine ⟨fun pins s σ H R I h => thn (hl.run pins s σ H _ I h) fun v t ⟨x, H1, J, r, a, k, e, ⟨xs, hs⟩, q⟩ => ?_⟩
  subst e
  cases r
  have fp : ∀ b ∈ [t.heap.objs.size], FpOk X pins H1 b := fun b hb => by
    rw [List.mem_singleton] at hb
    rw [hb]
    exact J.fpOk (Nat.le_refl _) (J.hok.fresh (Nat.le_refl _))
  have kp : ∀ o : Obj, Inv X pins σ H1 { t with heap := t.heap.push o, toks := t.toks } := fun o => J.kept (t' := t.toks) fun b u z => Heap.get?_push_of_some _ z
  cases k with
  | true =>
    obtain ⟨its, _, p, _⟩ := J.list hs
    exact wpAny_pyIter_list p.isList ⟨_, _, _, _, H1, rfl, kp _, turn_list a _, ⟨_, Heap.get?_push_size _ rfl, rfl, rfl⟩, fp, q⟩
  | false =>
    obtain ⟨its, _, p, _⟩ := J.tuple hs
    exact wpAny_pyIter_tuple (show t.heap.IsTuple a its.toArray from p) ⟨_, _, _, _, H1, rfl, kp _, turn_tuple a _, ⟨_, Heap.get?_push_size _ rfl, rfl, rfl⟩, fp, q⟩
theorem for_seq {K : PySem.W.Frag} {k : Bool} {a : Addr} {xs : List V} {g : TG} {tb : TS} {D : Ends} {σ : L2.St} {H : Hp} (Pv : Nat → L2.St → Hp → Prop) (h0 : Pv 0 σ H) (hl : ∀ i σ H, i ≤ xs.length → Pv i σ H → SqB K H a xs k)
    (hs : ∀ i x σ H, xs[i]? = some x → Pv i σ H → g x σ H fun σ2 H2 => tb { D with nx := Pv (i + 1), ct := Pv (i + 1), bk := D.nx } σ2 H2) (hd : ∀ σ H, Pv xs.length σ H → D.nx σ H) :
    ∃ W : Nat → Nat → L2.St → Hp → Prop, (∃ m, W 0 m σ H) ∧ ∀ i m σ H, W i m σ H →
      ((ItB K a k).stop i H ∧ D.nx σ H) ∨ ((ItB K a k).go i H ∧ ∃ N : L2.St → Hp → Prop, (∀ σ' H', N σ' H' → ∃ m', m' < m ∧ W (i + 1) m' σ' H') ∧ ∀ x H', (ItB K a k).yld i H x H' → g x σ H' fun σ2 H2 => tb { D with nx := N, ct := N, bk := D.nx } σ2 H2) := by
  cases k with
  | true => exact for_list Pv h0 hl hs hd
  | false => exact for_tup Pv h0 hl hs hd
theorem lc_seq {K : PySem.W.Frag} {k : Bool} {a : Addr} {xs : List V} {g : TG} {tt : TT} {te : TE} {vs : List Nat} {σ : L2.St} {H1 : Hp} {D : Addr} {Qd : Hp → Prop} (Pv : Nat → Hp → Prop) (h0 : Pv 0 (upd H1 D (.lst []))) (hl : ∀ i H, i ≤ xs.length → Pv i H → SqB K H a xs k)
    (hs : ∀ i x H, xs[i]? = some x → Pv i H → g x (wipe σ vs) H fun σ2 H2 => wipe σ2 vs = wipe σ vs ∧ tt σ2 H2 fun b H3 =>
      if b = true then te σ2 H3 fun y H4 => ∃ acc, H4 D = some (.lst acc) ∧ acc.length < sizeLine ∧ Pv (i + 1) (upd H4 D (.lst (acc ++ [y]))) else Pv (i + 1) H3) (hd : ∀ H, Pv xs.length H → Qd H) :
    ∃ W : Nat → Nat → Hp → Prop, (∃ m, W 0 m (upd H1 D (.lst []))) ∧ ∀ i m H, W i m H →
      ((ItB K a k).stop i H ∧ Qd H) ∨ ((ItB K a k).go i H ∧ ∃ Nx : Hp → Prop, (∀ H', Nx H' → ∃ m', m' < m ∧ W (i + 1) m' H') ∧ ∀ x H', (ItB K a k).yld i H x H' → g x (wipe σ vs) H' fun σ2 H2 => wipe σ2 vs = wipe σ vs ∧ tt σ2 H2 fun b H3 =>
        if b = true then te σ2 H3 fun y H4 => ∃ acc, H4 D = some (.lst acc) ∧ acc.length < sizeLine ∧ Nx (upd H4 D (.lst (acc ++ [y]))) else Nx H3) := by
  cases k with
  | true => exact lc_list Pv h0 hl hs hd
  | false => exact lc_tup Pv h0 hl hs hd
theorem ps_never {X : Cx} {st : Stmt} : PS X st (fun _ _ _ => False) := ⟨fun _ _ _ _ _ _ h => h.elim⟩
end AL
set_option Elab.async false
set_option maxRecDepth 100000
set_option exponentiation.threshold 70000
/-! Polynomials in the heap. -/
namespace AL
open PySem PySem.Spec PyProof.Rows L2
def KeyAt (H : Hp) (k : Addr) (e : Ex) : Prop := H k = some (.tup ((ki e).map V.int))
def EntAt (H : Hp) (b : Addr) (e : Ex × Rat) : Prop := ∃ k r, H b = some (.tup [.ref k, .ref r]) ∧ KeyAt H k e.1 ∧ RQ H r e.2
/-- a term as it may be passed -/
def TermV (K : PySem.W.Frag) (H : Hp) (b : Addr) (e : Ex × Rat) : Prop := ∃ (k : Addr) (v : V) (p : Int) (q : Nat), H b = some (.tup [.ref k, v]) ∧ KeyAt H k e.1 ∧ RatV K H v (some (p, q)) ∧ Mid p q ∧ mkRat p q = e.2
abbrev DRow (H : Hp) (k : List Int × Addr) (e : Ex × Rat) : Prop := k.1 = ki e.1 ∧ RQ H k.2 e.2
def DicM (H : Hp) (a : Addr) (m : PM) : Prop := ∃ ks : List (List Int × Addr), H a = some (.dT (ks.map entI)) ∧ Paired (DRow H) ks m
theorem paired_mono {α β : Type} {R S : α → β → Prop} {as : List α} {bs : List β} (h : Paired R as bs) (k : ∀ a b, R a b → S a b) : Paired S as bs := by
  induction h with
  | nil => exact .nil
  | cons h _ ih => exact .cons (k _ _ h) ih
theorem EntAt.same {H H' : Hp} {b : Addr} {e : Ex × Rat} (h : EntAt H b e) (s : Same H H') : EntAt H' b e := let ⟨k, r, h1, h2, h3⟩ := h; ⟨k, r, s _ _ h1, s _ _ h2, s _ _ h3⟩
theorem TermV.same {K : PySem.W.Frag} {H H' : Hp} {b : Addr} {e : Ex × Rat} (h : TermV K H b e) (s : Same H H') : TermV K H' b e := let ⟨k, v, p, q, h1, h2, h3, h4⟩ := h; ⟨k, v, p, q, s _ _ h1, s _ _ h2, ratV_same h3 s, h4⟩
theorem EntAt.term {K : PySem.W.Frag} {H : Hp} {b : Addr} {e : Ex × Rat} (h : EntAt H b e) (m : Mid e.2.num e.2.den) : TermV K H b e :=
  let ⟨k, r, h1, h2, h3⟩ := h; ⟨k, .ref r, e.2.num, e.2.den, h1, h2, .pair h3 (low_rat _).1, m, Rat.mkRat_self _⟩
theorem DicM.same {H H' : Hp} {a : Addr} {m : PM} (h : DicM H a m) (s : Same H H') : DicM H' a m := let ⟨ks, h1, h2⟩ := h; ⟨ks, s _ _ h1, paired_mono h2 fun _ _ z => ⟨z.1, s _ _ z.2⟩⟩
theorem DicM.tup {H H' : Hp} {a : Addr} {m : PM} (h : DicM H a m) (ha : H' a = H a) (s : ∀ b ys, H b = some (.tup ys) → H' b = some (.tup ys)) : DicM H' a m := let ⟨ks, h1, h2⟩ := h; ⟨ks, by rw [ha]; exact h1, paired_mono h2 fun _ _ z => ⟨z.1, s _ _ z.2⟩⟩
theorem DicM.nil {H : Hp} {a : Addr} (h : H a = some (.dT [])) : DicM H a [] := ⟨[], h, .nil⟩
abbrev keyL (e : Ex) : List L2.Key := (ki e).map Sum.inl
theorem keyL_inj {a b : Ex} (h : keyL a = keyL b) : a = b := ki_inj (inl_inj _ _ h)
theorem keyAt_L {H : Hp} {k : Addr} {e : Ex} (h : KeyAt H k e) : H k = some (.tup ((keyL e).map kV)) := by rw [kV_ints]; exact h
theorem row_get {H : Hp} {e : Ex} : ∀ {ks : List (List Int × Addr)} {m : PM}, Paired (DRow H) ks m → (valV (ks.map entI) (keyL e) = none ∧ getM m e = none) ∨ ∃ r x, valV (ks.map entI) (keyL e) = some (.ref r) ∧ getM m e = some x ∧ RQ H r x
  | _, _, .nil => .inl ⟨rfl, rfl⟩
  | _, _, .cons (a := k) (b := p) (l₁ := ks) (l₂ := m) h t => by
    by_cases z : p.1 = e
    · refine .inr ⟨k.2, p.2, ?_, ?_, h.2⟩
      · rw [List.map_cons, valV_pos (show (entI k).1 = keyL e by show k.1.map Sum.inl = keyL e; rw [h.1, z])]
      · unfold getM; rw [List.find?_cons, decide_eq_true z]; rfl
    · have nz : ¬ (entI k).1 = keyL e := fun w => z (keyL_inj (by rw [← w]; show keyL p.1 = k.1.map Sum.inl; rw [h.1]))
      have g : getM (p :: m) e = getM m e := by unfold getM; rw [List.find?_cons, decide_eq_false z]
      rw [List.map_cons, valV_neg nz, g]
      exact row_get t
/-- d.get(key, zero) -/
theorem dic_get {H : Hp} {a k z : Addr} {m : PM} {e : Ex} (D : DicM H a m) (hk : KeyAt H k e) (hz : RQ H z 0) : ∃ o r, DGet H a (.ref k) o ∧ o.getD (.ref z) = .ref r ∧ RQ H r ((getM m e).getD 0) := by
  obtain ⟨ks, h1, h2⟩ := D
  rcases row_get (e := e) h2 with ⟨v, g⟩ | ⟨r, x, v, g, q⟩
  · exact ⟨_, z, .t h1 (keyAt_L hk), by rw [v]; rfl, by rw [g]; exact hz⟩
  · exact ⟨_, r, .t h1 (keyAt_L hk), by rw [v]; rfl, by rw [g]; exact q⟩
/-- d[key] -/
theorem dic_at {H : Hp} {a k : Addr} {m : PM} {e : Ex} {x : Rat} (D : DicM H a m) (hk : KeyAt H k e) (h : getM m e = some x) : ∃ r, DGet H a (.ref k) (some (.ref r)) ∧ RQ H r x := by
  obtain ⟨ks, h1, h2⟩ := D
  rcases row_get (e := e) h2 with ⟨v, g⟩ | ⟨r, y, v, g, q⟩
  · rw [h] at g; cases g
  · rw [h] at g; cases g
    exact ⟨r, by rw [← v]; exact .t h1 (keyAt_L hk), q⟩
theorem row_put {H : Hp} {e : Ex} {r : Addr} {v : Rat} (hr : RQ H r v) {ks : List (List Int × Addr)} {m : PM} (h : Paired (DRow H) ks m) : ∃ ls : List (List Int × Addr), putK (ks.map entI) (keyL e) (.ref r) = ls.map entI ∧ Paired (DRow H) ls (putM m e v) := by
  have any : (ks.map entI).any (fun kv => decide (kv.1 = keyL e)) = hasM m e := by
    rw [valV_any, has_get]
    rcases row_get (e := e) h with ⟨w, g⟩ | ⟨r, x, w, g, q⟩
    · rw [w, g]; rfl
    · rw [w, g]; rfl
  unfold putK putM
  rw [any]
  by_cases z : hasM m e = true
  · rw [if_pos z, if_pos z]
    refine ⟨ks.map fun k => if k.1 = ki e then (k.1, r) else k, ?_, ?_⟩
    · rw [List.map_map, List.map_map]
      refine List.map_congr_left fun k _ => ?_
      show (if (entI k).1 = keyL e then ((entI k).1, V.ref r) else entI k) = entI (if k.1 = ki e then (k.1, r) else k)
      by_cases w : k.1 = ki e
      · rw [if_pos w, if_pos (show k.1.map Sum.inl = keyL e by rw [w])]
      · rw [if_neg w, if_neg (fun u => w (inl_inj _ _ u))]
    · clear z any
      induction h with
      | nil => exact .nil
      | @cons k p ks m hd _ ih =>
        rw [List.map_cons, List.map_cons]
        refine .cons ?_ ih
        by_cases w : p.1 = e
        · rw [if_pos w, if_pos (by rw [hd.1, w])]
          exact ⟨hd.1, hr⟩
        · rw [if_neg w, if_neg (fun u => w (ki_inj (by rw [← hd.1, u])))]
          exact hd
  · rw [if_neg z, if_neg z]
    refine ⟨ks ++ [(ki e, r)], by rw [List.map_append]; rfl, ?_⟩
    clear z any
    induction h with
    | nil => exact .cons ⟨rfl, hr⟩ .nil
    | cons hd _ ih => exact .cons hd ih
theorem DicM.len {H : Hp} {a : Addr} {m : PM} (D : DicM H a m) : ∃ kvs, H a = some (.dT kvs) ∧ kvs.length = m.length := let ⟨ks, h1, h2⟩ := D; ⟨_, h1, by rw [List.length_map]; exact Paired.length h2⟩
/-- d[key] = ratio -/
theorem dic_put {H : Hp} {a k r : Addr} {m : PM} {e : Ex} {v : Rat} (D : DicM H a m) (hk : KeyAt H k e) (hr : RQ H r v) (few : m.length < sizeLine) : ∃ o, DPut H a (.ref k) (.ref r) (upd H a o) ∧ DicM (upd H a o) a (putM m e v) := by
  obtain ⟨ks, h1, h2⟩ := D
  obtain ⟨ls, e1, e2⟩ := row_put (e := e) hr h2
  refine ⟨.dT (putK (ks.map entI) (keyL e) (.ref r)), .t h1 (keyAt_L hk) (by rw [List.length_map, Paired.length h2]; exact few), ls, by rw [upd_same, e1], paired_mono e2 fun k p z => ⟨z.1, ?_⟩⟩
  have ne : k.2 ≠ a := fun w => by have := z.2; rw [w] at this; rw [show H a = _ from this] at h1; cases h1
  exact Eq.trans (upd_ne ne) z.2
/-- in its order, nothing 0 -/
structure Can (n E D B : Nat) (m : PM) : Prop where
  asc : Asc m
  nz : NZ m
  pb : PB n E D B m
/-- a Poly -/
def PolyAt (CP : Addr) (H : Hp) (x : Addr) (n : Nat) (m : PM) : Prop := ∃ dx T ts, H x = some (.ins CP dx [("size", .int (n : Int)), ("terms", .ref T)]) ∧ H T = some (.tup (ts.map V.ref)) ∧ Paired (EntAt H) ts m
theorem PolyAt.same {CP : Addr} {H H' : Hp} {x : Addr} {n : Nat} {m : PM} (h : PolyAt CP H x n m) (s : Same H H') : PolyAt CP H' x n m := let ⟨dx, T, ts, h1, h2, h3⟩ := h; ⟨dx, T, ts, s _ _ h1, s _ _ h2, paired_mono h3 fun _ _ z => z.same s⟩
/-- what sorted tells -/
theorem sorted_pm {H : Hp} {ks : List (List Int × Addr)} {m : PM} {ps : List (Addr × List Int × Addr)} (h : Paired (DRow H) ks m) (pm : (ps.map (·.2)).Perm ks) : ∃ m' : PM, m'.Perm m ∧ Paired (DRow H) (ps.map (·.2)) m' := by
  generalize ps.map (·.2) = ls at pm
  induction pm generalizing m with
  | nil => cases h; exact ⟨[], .nil, .nil⟩
  | cons x p ih =>
    cases h with
    | cons hd tl =>
      obtain ⟨m', p1, p2⟩ := ih tl
      exact ⟨_ :: m', p1.cons _, .cons hd p2⟩
  | swap x y l =>
    cases h with
    | cons hd tl =>
      cases tl with
      | cons hd2 tl2 => exact ⟨_, List.Perm.swap _ _ _, .cons hd2 (.cons hd tl2)⟩
  | trans p1 p2 i1 i2 =>
    obtain ⟨m', q1, q2⟩ := i2 h
    obtain ⟨m'', q3, q4⟩ := i1 q2
    exact ⟨m'', q3.trans q1, q4⟩
theorem asc_of {H : Hp} {n E D B : Nat} {ls : List (List Int × Addr)} {m : PM} (h : Paired (DRow H) ls m) (o : ls.Pairwise fun e f => TS.code 128 e.1 ≤ TS.code 128 f.1) (nd : (m.map (·.1)).Nodup) (b : PB n E D B m) (hE : E ≤ 80) : Asc m := by
  induction h with
  | nil => exact .nil
  | @cons k p ks m hd tl ih =>
    obtain ⟨o1, o2⟩ := List.pairwise_cons.mp o
    rw [List.map_cons, List.nodup_cons] at nd
    refine List.pairwise_cons.mpr ⟨fun q hq => ?_, ih o2 nd.2 (b.sub fun _ z => List.mem_cons_of_mem _ z)⟩
    obtain ⟨i, hi⟩ := List.mem_iff_getElem?.mp hq
    obtain ⟨k2, e1, e2⟩ := DX.pget tl hi
    have le := o1 k2 (List.mem_of_getElem? e1)
    rw [hd.1, e2.1] at le
    have b1 := b p (List.mem_cons_self ..)
    have b2 := b q (List.mem_cons_of_mem _ hq)
    have ne : cd p.1 ≠ cd q.1 := fun z => nd.1 (List.mem_map.mpr ⟨q, hq, (ki_inj (code_inj (by rw [len_ki, len_ki, b1.1, b2.1]) (bd_ki fun k hk => Nat.le_trans (b1.2.1 k hk) hE) (bd_ki fun k hk => Nat.le_trans (b2.2.1 k hk) hE) z)).symm⟩)
    have le' : cd p.1 ≤ cd q.1 := le
    omega
end AL
namespace AL
open PySem PySem.Spec PyProof.Rows L2
theorem prd_get {α β : Type} {R : α → β → Prop} : ∀ {as : List α} {bs : List β} {i : Nat} {a : α}, Paired R as bs → as[i]? = some a → ∃ b, bs[i]? = some b ∧ R a b
  | _, _, _, _, .nil, h => by simp at h
  | _, _, 0, _, .cons (b := b) r _, h => by
    cases Option.some.inj h
    exact ⟨b, rfl, r⟩
  | _, _, i + 1, _, .cons _ t, h => prd_get (i := i) t (by simpa using h)
theorem prd_len {α β : Type} {R : α → β → Prop} {as : List α} {bs : List β} (h : Paired R as bs) : as.length = bs.length := Paired.length h
theorem prd_snoc {α β : Type} {R : α → β → Prop} {as : List α} {bs : List β} {a : α} {b : β} (h : Paired R as bs) (r : R a b) : Paired R (as ++ [a]) (bs ++ [b]) := by
  induction h with
  | nil => exact .cons r .nil
  | cons q _ ih => exact .cons q ih
theorem map_ref {ts : List Addr} {i : Nat} {x : V} (h : (ts.map V.ref)[i]? = some x) : ∃ b, ts[i]? = some b ∧ x = .ref b := by
  rw [List.getElem?_map] at h
  cases e : ts[i]? with
  | none => rw [e] at h; cases h
  | some b => rw [e] at h; exact ⟨b, rfl, (Option.some.inj h).symm⟩
theorem sz_zero {D B : Nat} (h : 0 < D) : Sz D B 0 := ⟨h, 0, Nat.zero_le _, by simp⟩
theorem PB.getD {n E D B : Nat} {m : PM} (h : PB n E D B m) (h0 : 0 < D) (e : Ex) : Sz D B ((getM m e).getD 0) := by
  cases z : getM m e with
  | none => exact sz_zero h0
  | some x => exact (h _ (get_mem z)).2.2
theorem get_of {m : PM} {e : Ex} {x : Rat} (nd : (m.map (·.1)).Nodup) (h : (e, x) ∈ m) : getM m e = some x := by
  induction m with
  | nil => cases h
  | cons p r ih =>
    rw [List.map_cons, List.nodup_cons] at nd
    unfold getM
    rw [List.find?_cons]
    by_cases w : p.1 = e
    · rw [decide_eq_true w]
      rcases List.mem_cons.mp h with z | z
      · rw [← z]; rfl
      · exact absurd (List.mem_map.mpr ⟨_, z, w.symm⟩) nd.1
    · rw [decide_eq_false w]
      rcases List.mem_cons.mp h with z | z
      · exact absurd (by rw [← z]) w
      · exact ih nd.2 z
/-- the ratio at a key, as keys -/
def MV (m : PM) (y : List Int) : List L2.Key := [Sum.inl ((getM m (y.map Int.toNat)).getD 0).num, Sum.inl (((getM m (y.map Int.toNat)).getD 0).den : Int)]
theorem ki_nat : ∀ e : Ex, (ki e).map Int.toNat = e
  | [] => rfl
  | k :: r => by
    show (k : Int).toNat :: (ki r).map Int.toNat = k :: r
    rw [ki_nat r, Int.toNat_natCast]
theorem rows_M {H : Hp} {n E D B : Nat} {ks : List (List Int × Addr)} {m : PM} (h : Paired (DRow H) ks m) (nd : (m.map (·.1)).Nodup) (pb : PB n E D B m) (hE : E ≤ 80) : ∀ k ∈ ks, H k.2 = some (.tup ((MV m k.1).map kV)) ∧ k.1.length = n ∧ TS.Bd 128 k.1 := by
  intro k hk
  obtain ⟨i, hi⟩ := List.mem_iff_getElem?.mp hk
  obtain ⟨p, e1, e2, e3⟩ := prd_get h hi
  have hp := List.mem_of_getElem? e1
  obtain ⟨b1, b2, b3⟩ := pb p hp
  refine ⟨?_, by rw [e2, len_ki, b1], by rw [e2]; exact bd_ki fun k hk => Nat.le_trans (b2 k hk) hE⟩
  unfold MV
  rw [e2, ki_nat, get_of nd hp]
  exact e3
theorem join_pb {n E D B : Nat} {l : PM} (pb : PB n E D B l) (i : Nat) (hi : i ≤ l.length) : PB n E D (B * i) (joinM [] (l.take i)) := by
  have z := PB.join (m := []) (B := 0) (l := l.take i) (fun p hp => nomatch hp) (pb.sub fun p hp => List.mem_of_mem_take hp)
  rw [List.length_take, Nat.min_eq_left hi, Nat.zero_add] at z
  exact z
theorem low6 {x : Nat} (h : x < 2 ^ 5999) : x < 2 ^ 6000 := Nat.lt_trans h (Nat.pow_lt_pow_right (by decide) (by decide))
theorem nz_take_true {m : PM} {i : Nat} {p : Ex × Rat} (h : m[i]? = some p) (hp : p.2 ≠ 0) : nzM (m.take (i + 1)) = nzM (m.take i) ++ [p] := by
  unfold nzM
  rw [List.take_add_one, h, List.filter_append]
  simp [hp]
theorem nz_take_false {m : PM} {i : Nat} {p : Ex × Rat} (h : m[i]? = some p) (hp : p.2 = 0) : nzM (m.take (i + 1)) = nzM (m.take i) := by
  unfold nzM
  rw [List.take_add_one, h, List.filter_append]
  simp [hp]
theorem num_zero {x : Rat} : x.num = 0 ↔ x = 0 := Rat.num_eq_zero
theorem nz_NZ (m : PM) : NZ (nzM m) := fun _ hp => of_decide_eq_true (List.mem_filter.mp hp).2
theorem nz_asc {m : PM} (h : Asc m) : Asc (nzM m) := List.Pairwise.sublist List.filter_sublist h
theorem nz_len (m : PM) : (nzM m).length ≤ m.length := List.length_filter_le _ _
end AL
namespace AL
open PySem PySem.Spec PyProof.Rows L2
theorem EntAt.tups {H H' : Hp} {b : Addr} {e : Ex × Rat} (h : EntAt H b e) (s : ∀ c ys, H c = some (.tup ys) → H' c = some (.tup ys)) : EntAt H' b e := let ⟨k, r, h1, h2, h3⟩ := h; ⟨k, r, s _ _ h1, s _ _ h2, s _ _ h3⟩
theorem upd_tups {H : Hp} {a : Addr} {o p : HO} (h : H a = some p) (np : ∀ ys, p ≠ .tup ys) : ∀ c ys, H c = some (.tup ys) → upd H a o c = some (.tup ys) := fun c ys z => by
  rw [upd_ne (fun w => by rw [w, h] at z; exact np ys (Option.some.inj z))]
  exact z
theorem perm_can {H : Hp} {n E D B : Nat} {m m' : PM} {ls : List (List Int × Addr)} (pm : m'.Perm m) (h : Paired (DRow H) ls m') (o : ls.Pairwise fun e f => TS.code 128 e.1 ≤ TS.code 128 f.1) (nd : (m.map (·.1)).Nodup) (b : PB n E D B m) (hE : E ≤ 80) :
    Can n E D B (nzM m') ∧ Eqp (nzM m') m ∧ (nzM m').length ≤ m.length := by
  have nd' : (m'.map (·.1)).Nodup := (List.Perm.nodup_iff (pm.map _)).mpr nd
  have b' : PB n E D B m' := b.sub fun p hp => pm.mem_iff.mp hp
  exact ⟨⟨nz_asc (asc_of h o nd' b' hE), nz_NZ _, b'.nz⟩, (nz_eqp m').trans fun φ => lin_perm φ pm, by rw [← pm.length_eq]; exact nz_len m'⟩
end AL
set_option Elab.async false
set_option linter.all false
set_option maxRecDepth 100000
set_option maxHeartbeats 2000000
/-! any(l), l a list of ints. -/
namespace AL
open PySem PySem.Spec PyProof.Rows L2
section
variable {X : Cx}
theorem truth_ints {prog : Program} {w : World} {A : Around} {ks : List Int} {its : List Value} (e : IntsAre its ks) :
    TruthOf prog w A (fun i v => its.toArray[i]? = some v) (fun i => decide (ks.getD i 0 ≠ 0)) := fun i v s Q E hv hq => by
  have hv' : its[i]? = some v := by simpa using hv
  obtain ⟨t, rfl⟩ := IntsAre.int_at e i v hv'
  refine PySem.P.truthy_int ?_
  have hq' : Q (decide (ks.getD i 0 ≠ 0)) s := hq
  have b : ∀ k : Int, (k != 0) = decide (k ≠ 0) := fun k => by
    by_cases z : k = 0
    · rw [z]; rfl
    · rw [decide_eq_true z]; exact bne_iff_ne.mpr z
  rw [b]
  exact hq'
theorem any_rangeI : ∀ ks : List Int, (List.range ks.length).any (fun i => decide (ks.getD i 0 ≠ 0)) = ks.any fun k => decide (k ≠ 0)
  | [] => rfl
  | b :: bs => by
    rw [List.length_cons, List.range_succ_eq_map, List.any_cons, List.any_map, List.any_cons, ← any_rangeI bs]
    all_goals rfl
def rAnyI (K : PySem.W.Frag) : List V → Hp → VK → Prop := fun vs H Q => ∃ (a : Addr) (ks : List Int), vs = [V.ref a] ∧ SqL K H a (ks.map V.int) ∧ Q (.bl (ks.any fun k => decide (k ≠ 0))) H
theorem cr_anyI (hc : X.calm = true) : CallR X (.builtin "any") (rAnyI X.K) := by
  intro pins s σ H vs us Q I r h
  obtain ⟨a, ks, rfl, hs, q⟩ := h
  obtain ⟨its, rv, hl, _⟩ := I.list hs
  rw [Vals.ref1 r]
  have hb : IntsAre its ks := by simpa using Vals.ints rv
  have ln := IntsAre.length hb
  refine call_any_walk (iter_any hl.isList fun s₂ e2 st hne => ?_)
  subst e2
  refine ⟨_, _, _, _, _, _, _, rfl, Walks.list (A := X.A.in1) (I.ok.hd hc) _ a hne its.toArray, st, truth_ints hb, fun h' tk hk => ?_⟩
  refine ⟨.bl _, H, I.kept fun b o eo => hk b o (fun hmem => ?_) (Heap.get?_push_of_some _ eo), ?_, q⟩
  · rcases List.mem_cons.mp hmem with e1 | hmem
    · exact absurd (e1 ▸ Heap.lt_size eo) (Nat.lt_irrefl _)
    · cases hmem
  · show Value.bool _ = Value.bool _
    rw [← any_rangeI, List.size_toArray, ln]
end
end AL
set_option Elab.async false
set_option linter.all false
set_option maxRecDepth 100000
set_option maxHeartbeats 2000000
/-! zip(a, b), each of them a list or a tuple. -/
namespace AL
open PySem PySem.Spec PyProof.Rows L2
def itB (h : Heap) (it a : Addr) (i : Nat) : Bool → Prop
  | true => h.IsListIter it a i
  | false => h.IsTupleIter it a i
def sqB (h : Heap) (a : Addr) (its : Array Value) : Bool → Prop
  | true => h.IsList a its
  | false => h.IsTuple a its
theorem drawsB {prog : Program} {w : World} {A : Around} (hh : A.handled = none) (k : Bool) (it a : Addr) (ne : a ≠ it) (its : Array Value) : Draws prog w A it [it, a] its.size (fun i v => its[i]? = some v) (fun i h => itB h it a i k ∧ sqB h a its k) := by
  cases k with
  | true => exact Draws.list hh it a ne its
  | false => exact Draws.tuple hh it a ne its
theorem itB_obj {h : Heap} {it a : Addr} {i : Nat} {k : Bool} (z : itB h it a i k) : ∃ o, h.get? it = some o ∧ ∀ v, o.data ≠ .cell v := by
  cases k with
  | true => obtain ⟨o, e1, _, e2⟩ := z; exact ⟨o, e1, fun v q => by rw [e2] at q; cases q⟩
  | false => obtain ⟨o, e1, _, e2⟩ := z; exact ⟨o, e1, fun v q => by rw [e2] at q; cases q⟩
theorem itB_at {h h' : Heap} {it a : Addr} {i : Nat} {k : Bool} (z : itB h it a i k) (e : ∀ o, h.get? it = some o → h'.get? it = some o) : itB h' it a i k := by
  cases k with
  | true => exact Heap.IsListIter.at z e
  | false => exact Heap.IsTupleIter.at z e
theorem SqB.raw {X : Cx} {pins : List (Addr × Obj)} {σ : L2.St} {H : Hp} {s : Shared} {a : Addr} {xs : List V} {k : Bool} (I : Inv X pins σ H s) (h : SqB X.K H a xs k) : ∃ its : List Value, Vals xs its ∧ sqB s.heap a its.toArray k ∧ a < s.heap.objs.size := by
  cases k with
  | true =>
    obtain ⟨its, rv, p, _⟩ := I.list h
    exact ⟨its, rv, p.isList, p.lt⟩
  | false =>
    obtain ⟨its, rv, p, _⟩ := I.tuple h
    obtain ⟨o, g, _⟩ := id p
    exact ⟨its, rv, p, Heap.lt_size g⟩
theorem SqB.inj {X : Cx} {pins : List (Addr × Obj)} {σ : L2.St} {H : Hp} {s : Shared} {a : Addr} {xs ys : List V} {k : Bool} (I : Inv X pins σ H s) (h : SqB X.K H a xs k) (g : SqB X.K H a ys k) : xs = ys := by
  cases k with
  | true => exact I.list_inj h g
  | false => exact I.tuple_inj h g
def ItzB (K : PySem.W.Frag) (a b : Addr) (k l : Bool) : It :=
  ⟨fun i H => ∃ (xs ys : List V) (x y : V), SqB K H a xs k ∧ SqB K H b ys l ∧ xs[i]? = some x ∧ ys[i]? = some y,
    fun i H v H' => ∃ T x y, v = .ref T ∧ H T = none ∧ H' = upd H T (.tup [x, y]) ∧ (∀ xs, SqB K H a xs k → xs[i]? = some x) ∧ ∀ ys, SqB K H b ys l → ys[i]? = some y,
    fun i H => ∃ xs ys : List V, SqB K H a xs k ∧ SqB K H b ys l ∧ i ≤ xs.length ∧ i ≤ ys.length ∧ (xs.length = i ∨ ys.length = i)⟩
theorem turn_zipB {P : Program} {w : World} {K : PySem.W.Frag} {elts : List Expr} {kk : Nat} {tpos : Pos} {a b z TI TO i1 i2 : Addr} {k l : Bool} (S : ZipSep2 z TI TO i1 i2 [i1, a] [i2, b]) (n1 : a ≠ i1) (n2 : b ≠ i2) :
    Turn P w K (.Tuple elts kk tpos) (ItzB K a b k l) [z, TI, TO, i1, i2] z (fun i h => IsZip h z TI TO .none ∧ IsTupOf2 h TI (.ref i1) (.ref i2) ∧ (∃ x y, IsTupOf2 h TO x y) ∧ itB h i1 a i k ∧ itB h i2 b i l) where
  mem := by simp
  obj := fun i h st c hc => by
    obtain ⟨hz, hTI, ⟨x, y, hTO⟩, g1, g2⟩ := st
    have m : c = z ∨ c = TI ∨ c = TO ∨ c = i1 ∨ c = i2 := by simpa using hc
    rcases m with q | q | q | q | q
    · rw [q]; exact ⟨_, hz, fun v q => nomatch q⟩
    · rw [q]; exact ⟨_, hTI, fun v q => nomatch q⟩
    · rw [q]; exact ⟨_, hTO, fun v q => nomatch q⟩
    · rw [q]; exact itB_obj g1
    · rw [q]; exact itB_obj g2
  keep := fun i h h' st kp => by
    obtain ⟨hz, hTI, ⟨x, y, hTO⟩, g1, g2⟩ := st
    exact ⟨kp z (by simp) _ hz, kp TI (by simp) _ hTI, ⟨x, y, kp TO (by simp) _ hTO⟩, itB_at g1 fun o q => kp i1 (by simp) o q, itB_at g2 fun o q => kp i2 (by simp) o q⟩
  item := by
    intro X hP hw hK hc i pins s σ H E I hf st hg
    subst hP hw hK
    obtain ⟨hz, hTI, ⟨x0, y0, hTO⟩, g1, g2⟩ := st
    obtain ⟨xs, ys, x, y, hqx, hqy, hx, hy⟩ := hg
    obtain ⟨its, rv, p, _⟩ := hqx.raw I
    obtain ⟨jts, rw2, p2, _⟩ := hqy.raw I
    obtain ⟨u, hu, ru⟩ := rv.get hx
    obtain ⟨v, hv, ru2⟩ := rw2.get hy
    have hzl : z < s.heap.objs.size := Heap.lt_size hz
    have lu : i < its.toArray.size := by have := (List.getElem?_eq_some_iff.mp hu).1; simpa using this
    have lv : i < jts.toArray.size := by have := (List.getElem?_eq_some_iff.mp hv).1; simpa using this
    refine wpAny_pyNext_zipD2_item S (drawsB (prog := X.prog) (w := X.w) (A := X.A.in1) (I.ok.hd hc) k i1 a n1 its.toArray) (drawsB (prog := X.prog) (w := X.w) (A := X.A.in1) (I.ok.hd hc) l i2 b n2 jts.toArray) hz hTI hTO ⟨g1, p⟩ ⟨g2, p2⟩ lu lv fun u1 v1 h' tk e1 e2 z' TO' st1 st2 hT hsz hk => ?_
    have eu : u1 = u := by
      have w : its.toArray[i]? = some u := by simpa using hu
      exact (Option.some.inj (w.symm.trans e1)).symm
    have ev : v1 = v := by
      have w : jts.toArray[i]? = some v := by simpa using hv
      exact (Option.some.inj (w.symm.trans e2)).symm
    subst eu ev
    refine ⟨_, rfl, wpAny_letOwnedTupleGo_zip (s := { s with heap := h', toks := tk }) z' fun h'' z'' sb => ?_⟩
    have hT2 : h''.get? s.heap.objs.size = some { cls := .type "tuple", data := .seq #[u1, v1] } := (sb.2 _ (Nat.ne_of_gt hzl)).trans hT
    have new : ObjOk X.prog X.w (upd H s.heap.objs.size (.tup [x, y])) h'' s.heap.objs.size (.tup [x, y]) :=
      ⟨by show 2 ≤ sizeLine; decide, [u1, v1], .cons ru (.cons ru2 .nil), ⟨_, hT2, rfl, _, rfl⟩⟩
    have I1 : Inv X pins σ (upd H s.heap.objs.size (.tup [x, y])) { s with heap := h'', toks := tk } :=
      I.turnedNew (t' := tk) (ch := [z, TI, TO, i1, i2]) (fun c o hb q => (sb.2 c (fun w => hb (by simp [w]))).trans (hk c o (fun w => hb (by simp [w])) (fun w => hb (by simp [w])) (fun w => hb (by simp [w])) (fun w => hb (by simp [w])) q)) hf (Nat.le_refl _) new
    refine ⟨.ref s.heap.objs.size, _, I1, rfl, ⟨_, x, y, rfl, I.hok.fresh (Nat.le_refl _), rfl, fun q hq => by rw [hq.inj I hqx]; exact hx, fun q hq => by rw [hq.inj I hqy]; exact hy⟩, ⟨z'', ?_, ⟨u1, v1, ?_⟩, ?_, ?_⟩, fun c hcm => ?_⟩
    · exact (sb.2 _ S.TIz).trans (hk _ _ S.TIz S.TITO S.TIi1 S.TIi2 hTI)
    · exact (sb.2 _ S.TOz).trans TO'
    · exact itB_at st1.1 fun o q => (sb.2 _ (fun w => S.zf1 (by rw [← w]; simp))).trans q
    · exact itB_at st2.1 fun o q => (sb.2 _ (fun w => S.zf2 (by rw [← w]; simp))).trans q
    · have lt : c < s.heap.objs.size := by
        have m : c = z ∨ c = TI ∨ c = TO ∨ c = i1 ∨ c = i2 := by simpa using hcm
        rcases m with q | q | q | q | q
        · rw [q]; exact hzl
        · rw [q]; exact Heap.lt_size hTI
        · rw [q]; exact Heap.lt_size hTO
        · rw [q]; obtain ⟨_, w, _⟩ := itB_obj g1; exact Heap.lt_size w
        · rw [q]; obtain ⟨_, w, _⟩ := itB_obj g2; exact Heap.lt_size w
      rw [upd_ne (Nat.ne_of_lt lt)]
      exact (hf c hcm).1
  done := by
    intro X hP hw hK hc i pins s σ H E I hf st hg
    subst hP hw hK
    obtain ⟨hz, hTI, ⟨x0, y0, hTO⟩, g1, g2⟩ := st
    obtain ⟨xs, ys, hqx, hqy, le1, le2, hend⟩ := hg
    obtain ⟨its, rv, p, _⟩ := hqx.raw I
    obtain ⟨jts, rw2, p2, _⟩ := hqy.raw I
    have l1 := rv.length
    have l2 := rw2.length
    refine wpAny_pyNext_zipD2_end S (drawsB (prog := X.prog) (w := X.w) (A := X.A.in1) (I.ok.hd hc) k i1 a n1 its.toArray) (drawsB (prog := X.prog) (w := X.w) (A := X.A.in1) (I.ok.hd hc) l i2 b n2 jts.toArray) hz hTI hTO ⟨g1, p⟩ ⟨g2, p2⟩ (by simp; omega) (by simp; omega) (by simp; omega) fun h' tk hk => ⟨rfl, ?_⟩
    exact I.turnedL (t' := tk) (ch := [z, TI, TO, i1, i2]) (fun c o hb q => hk c o (fun w => hb (by simp [w])) (fun w => hb (by simp [w])) (fun w => hb (by simp [w])) (fun w => hb (by simp [w])) q) hf
  self := fun A i s Q E st h => wpAny_pyIter_zip st.1 h
theorem beginsB (k : Bool) (a : Addr) (its : Array Value) : ∃ o, Begins (.ref a) o (fun h => sqB h a its k) ∧ ∀ (h : Heap) (it : Addr), h.get? it = some o → itB h it a 0 k := by
  cases k with
  | true => exact ⟨_, begins_list a its, fun h it e => ⟨_, e, rfl, rfl⟩⟩
  | false => exact ⟨_, begins_tuple a its, fun h it e => ⟨_, e, rfl, rfl⟩⟩
def iZipB (K : PySem.W.Frag) (ta : TA) : TI := fun σ H R => ta σ H fun vs H1 => ∃ a b k l xs ys, vs = [.ref a, .ref b] ∧ SqB K H1 a xs k ∧ SqB K H1 b ys l ∧ R (ItzB K a b k l) H1
theorem pi_zipB {X : Cx} {e e2 : Expr} {ta : TA} {p pos tpos : Pos} {elts : List Expr} {kk : Nat} (hg : Gl X "zip") (hm : X.mg "zip" = none) (ha : PA X [e, e2] ta)
    (hs : starEach [e, e2] X.env = (false, eval e X.env) :: starEach [e2] X.env := by rfl) (hpl : (backTo pos (starEach [e2] X.env)).any (·.1) = false := by rfl) :
    PI X (.Tuple elts kk tpos) (.Call (.Name "zip" p) [e, e2] [] pos) (iZipB X.K ta) := by
  refine ⟨fun pins s σ H R I h => ?_⟩
  refine Call_ (ld_blt I hg hm PyProof.Rows.boot_zip (PyProof.Rows.callWith_type1 (thn (ha.run pos pins s σ H _ I h) fun us s1 ⟨vs, H1, I1, r1, q1⟩ => ?_) hs hpl))
  obtain ⟨a, b, k, l, xs, ys, ex, hqx, hqy, q⟩ := q1
  subst ex
  cases r1 with
  | cons r rr =>
  cases rr with
  | cons r' rr =>
  cases rr
  cases r
  cases r'
  obtain ⟨its, rv, p1, la⟩ := hqx.raw I1
  obtain ⟨jts, rw2, p2, lb⟩ := hqy.raw I1
  obtain ⟨o1, B1, s1i⟩ := beginsB k a its.toArray
  obtain ⟨o2, B2, s2i⟩ := beginsB l b jts.toArray
  refine zip_begins2 B1 B2 p1 p2 fun h' hz hTI hTO hi1 hi2 hsz hk => wpAny_pyIter_zip hz ?_
  have I2 : Inv X pins σ H1 { s1 with heap := h' } := I1.kept (t' := s1.toks) hk
  have S := zip_sep2 (N := s1.heap.objs.size) (fp1 := [a]) (fp2 := [b]) (fun c hc => by rw [List.mem_singleton.mp hc]; exact la) (fun c hc => by rw [List.mem_singleton.mp hc]; exact lb)
  have fresh5 : ∀ c, c ∈ [s1.heap.objs.size + 4, s1.heap.objs.size + 2, s1.heap.objs.size + 3, s1.heap.objs.size, s1.heap.objs.size + 1] → FpOk X pins H1 c := fun c hcm => by
    have m : c = s1.heap.objs.size + 4 ∨ c = s1.heap.objs.size + 2 ∨ c = s1.heap.objs.size + 3 ∨ c = s1.heap.objs.size ∨ c = s1.heap.objs.size + 1 := by simpa using hcm
    have le : s1.heap.objs.size ≤ c := by
      rcases m with z | z | z | z | z <;> rw [z]
      · exact Nat.le_add_right _ _
      · exact Nat.le_add_right _ _
      · exact Nat.le_add_right _ _
      · exact Nat.le_refl _
      · exact Nat.le_add_right _ _
    exact I1.fpOk le (I1.hok.fresh le)
  exact ⟨s1.heap.objs.size + 4, [s1.heap.objs.size + 4, s1.heap.objs.size + 2, s1.heap.objs.size + 3, s1.heap.objs.size, s1.heap.objs.size + 1], _, _, H1, rfl, I2, turn_zipB S (Nat.ne_of_lt la) (Nat.ne_of_lt (Nat.lt_succ_of_lt lb)), ⟨hz, hTI, ⟨_, _, hTO⟩, s1i _ _ hi1, s2i _ _ hi2⟩, fresh5, q⟩
theorem walk_zipB {K : PySem.W.Frag} {a b : Addr} {k l : Bool} {xs ys : List V} {n : Nat} (hn : n = min xs.length ys.length) : Walk (ItzB K a b k l) n (fun H => SqB K H a xs k ∧ SqB K H b ys l) (YPair (fun i => xs[i]?) (fun i => ys[i]?)) := by
  subst hn
  refine ⟨fun i _ hi q => ?_, fun _ q => ⟨xs, ys, q.1, q.2, by omega, by omega, by omega⟩, fun i H v H' _ q y => ?_⟩
  · exact ⟨xs, ys, xs[i], ys[i], q.1, q.2, by simp [show i < xs.length by omega], by simp [show i < ys.length by omega]⟩
  · obtain ⟨T, x, z, g1, g2, g3, g4, g5⟩ := y
    exact ⟨T, x, z, g1, g2, g3, g4 xs q.1, g5 ys q.2⟩
end AL
set_option Elab.async false
set_option linter.all false
set_option maxRecDepth 100000
set_option maxHeartbeats 4000000
/-! zip(a, b, c), each of them a list or a tuple. -/
namespace AL
open PySem PySem.Spec PyProof.Rows L2
def Itz3 (K : PySem.W.Frag) (a b c : Addr) (k l m : Bool) : It :=
  ⟨fun i H => ∃ (xs ys zs : List V) (x y u : V), SqB K H a xs k ∧ SqB K H b ys l ∧ SqB K H c zs m ∧ xs[i]? = some x ∧ ys[i]? = some y ∧ zs[i]? = some u,
    fun i H v H' => ∃ T x y u, v = .ref T ∧ H T = none ∧ H' = upd H T (.tup [x, y, u]) ∧ (∀ xs, SqB K H a xs k → xs[i]? = some x) ∧ (∀ ys, SqB K H b ys l → ys[i]? = some y) ∧ ∀ zs, SqB K H c zs m → zs[i]? = some u,
    fun i H => ∃ xs ys zs : List V, SqB K H a xs k ∧ SqB K H b ys l ∧ SqB K H c zs m ∧ i ≤ xs.length ∧ i ≤ ys.length ∧ i ≤ zs.length ∧ (xs.length = i ∨ ys.length = i ∨ zs.length = i)⟩
theorem turn_zip3 {P : Program} {w : World} {K : PySem.W.Frag} {elts : List Expr} {kk : Nat} {tpos : Pos} {a b c z TI TO i1 i2 i3 : Addr} {k l m : Bool} (S : ZipSep3 z TI TO i1 i2 i3 [i1, a] [i2, b] [i3, c]) (n1 : a ≠ i1) (n2 : b ≠ i2) (n3 : c ≠ i3) :
    Turn P w K (.Tuple elts kk tpos) (Itz3 K a b c k l m) [z, TI, TO, i1, i2, i3] z (fun i h => IsZip h z TI TO .none ∧ IsTupOf3 h TI (.ref i1) (.ref i2) (.ref i3) ∧ (∃ x y u, IsTupOf3 h TO x y u) ∧ itB h i1 a i k ∧ itB h i2 b i l ∧ itB h i3 c i m) where
  mem := by simp
  obj := fun i h st q hq => by
    obtain ⟨hz, hTI, ⟨x, y, u, hTO⟩, g1, g2, g3⟩ := st
    have mm : q = z ∨ q = TI ∨ q = TO ∨ q = i1 ∨ q = i2 ∨ q = i3 := by simpa using hq
    rcases mm with e | e | e | e | e | e
    · rw [e]; exact ⟨_, hz, fun v q => nomatch q⟩
    · rw [e]; exact ⟨_, hTI, fun v q => nomatch q⟩
    · rw [e]; exact ⟨_, hTO, fun v q => nomatch q⟩
    · rw [e]; exact itB_obj g1
    · rw [e]; exact itB_obj g2
    · rw [e]; exact itB_obj g3
  keep := fun i h h' st kp => by
    obtain ⟨hz, hTI, ⟨x, y, u, hTO⟩, g1, g2, g3⟩ := st
    exact ⟨kp z (by simp) _ hz, kp TI (by simp) _ hTI, ⟨x, y, u, kp TO (by simp) _ hTO⟩, itB_at g1 fun o q => kp i1 (by simp) o q, itB_at g2 fun o q => kp i2 (by simp) o q, itB_at g3 fun o q => kp i3 (by simp) o q⟩
  item := by
    intro X hP hw hK hc i pins s σ H E I hf st hg
    subst hP hw hK
    obtain ⟨hz, hTI, ⟨x0, y0, u0, hTO⟩, g1, g2, g3⟩ := st
    obtain ⟨xs, ys, zs, x, y, u, hqx, hqy, hqz, hx, hy, hu0⟩ := hg
    obtain ⟨its, rv, p, _⟩ := hqx.raw I
    obtain ⟨jts, rw2, p2, _⟩ := hqy.raw I
    obtain ⟨kts, rw3, p3, _⟩ := hqz.raw I
    obtain ⟨vu, hu, ru⟩ := rv.get hx
    obtain ⟨vv, hv, ru2⟩ := rw2.get hy
    obtain ⟨vw, hw3, ru3⟩ := rw3.get hu0
    have hzl : z < s.heap.objs.size := Heap.lt_size hz
    have lu : i < its.toArray.size := by have := (List.getElem?_eq_some_iff.mp hu).1; simpa using this
    have lv : i < jts.toArray.size := by have := (List.getElem?_eq_some_iff.mp hv).1; simpa using this
    have lw : i < kts.toArray.size := by have := (List.getElem?_eq_some_iff.mp hw3).1; simpa using this
    refine wpAny_pyNext_zipD3_item S (drawsB (prog := X.prog) (w := X.w) (A := X.A.in1) (I.ok.hd hc) k i1 a n1 its.toArray) (drawsB (prog := X.prog) (w := X.w) (A := X.A.in1) (I.ok.hd hc) l i2 b n2 jts.toArray) (drawsB (prog := X.prog) (w := X.w) (A := X.A.in1) (I.ok.hd hc) m i3 c n3 kts.toArray) hz hTI hTO ⟨g1, p⟩ ⟨g2, p2⟩ ⟨g3, p3⟩ lu lv lw fun u1 v1 w1 h' tk e1 e2 e3 z' TO' st1 st2 st3 hT hsz hk => ?_
    have eu : u1 = vu := by
      have w : its.toArray[i]? = some vu := by simpa using hu
      exact (Option.some.inj (w.symm.trans e1)).symm
    have ev : v1 = vv := by
      have w : jts.toArray[i]? = some vv := by simpa using hv
      exact (Option.some.inj (w.symm.trans e2)).symm
    have ew : w1 = vw := by
      have w : kts.toArray[i]? = some vw := by simpa using hw3
      exact (Option.some.inj (w.symm.trans e3)).symm
    subst eu ev ew
    refine ⟨_, rfl, wpAny_letOwnedTupleGo_zip (s := { s with heap := h', toks := tk }) z' fun h'' z'' sb => ?_⟩
    have hT2 : h''.get? s.heap.objs.size = some { cls := .type "tuple", data := .seq #[u1, v1, w1] } := (sb.2 _ (Nat.ne_of_gt hzl)).trans hT
    have new : ObjOk X.prog X.w (upd H s.heap.objs.size (.tup [x, y, u])) h'' s.heap.objs.size (.tup [x, y, u]) :=
      ⟨by show 3 ≤ sizeLine; decide, [u1, v1, w1], .cons ru (.cons ru2 (.cons ru3 .nil)), ⟨_, hT2, rfl, _, rfl⟩⟩
    have I1 : Inv X pins σ (upd H s.heap.objs.size (.tup [x, y, u])) { s with heap := h'', toks := tk } :=
      I.turnedNew (t' := tk) (ch := [z, TI, TO, i1, i2, i3]) (fun q o hb qq => (sb.2 q (fun w => hb (by simp [w]))).trans (hk q o (fun w => hb (by simp [w])) (fun w => hb (by simp [w])) (fun w => hb (by simp [w])) (fun w => hb (by simp [w])) (fun w => hb (by simp [w])) qq)) hf (Nat.le_refl _) new
    refine ⟨.ref s.heap.objs.size, _, I1, rfl, ⟨_, x, y, u, rfl, I.hok.fresh (Nat.le_refl _), rfl, fun q hq => by rw [hq.inj I hqx]; exact hx, fun q hq => by rw [hq.inj I hqy]; exact hy, fun q hq => by rw [hq.inj I hqz]; exact hu0⟩, ⟨z'', ?_, ⟨u1, v1, w1, ?_⟩, ?_, ?_, ?_⟩, fun q hcm => ?_⟩
    · exact (sb.2 _ S.TIz).trans (hk _ _ S.TIz S.TITO S.TIi1 S.TIi2 S.TIi3 hTI)
    · exact (sb.2 _ S.TOz).trans TO'
    · exact itB_at st1.1 fun o q => (sb.2 _ (fun w => S.zf1 (by rw [← w]; simp))).trans q
    · exact itB_at st2.1 fun o q => (sb.2 _ (fun w => S.zf2 (by rw [← w]; simp))).trans q
    · exact itB_at st3.1 fun o q => (sb.2 _ (fun w => S.zf3 (by rw [← w]; simp))).trans q
    · have lt : q < s.heap.objs.size := by
        have mm : q = z ∨ q = TI ∨ q = TO ∨ q = i1 ∨ q = i2 ∨ q = i3 := by simpa using hcm
        rcases mm with e | e | e | e | e | e
        · rw [e]; exact hzl
        · rw [e]; exact Heap.lt_size hTI
        · rw [e]; exact Heap.lt_size hTO
        · rw [e]; obtain ⟨_, w, _⟩ := itB_obj g1; exact Heap.lt_size w
        · rw [e]; obtain ⟨_, w, _⟩ := itB_obj g2; exact Heap.lt_size w
        · rw [e]; obtain ⟨_, w, _⟩ := itB_obj g3; exact Heap.lt_size w
      rw [upd_ne (Nat.ne_of_lt lt)]
      exact (hf q hcm).1
  done := by
    intro X hP hw hK hc i pins s σ H E I hf st hg
    subst hP hw hK
    obtain ⟨hz, hTI, ⟨x0, y0, u0, hTO⟩, g1, g2, g3⟩ := st
    obtain ⟨xs, ys, zs, hqx, hqy, hqz, le1, le2, le3, hend⟩ := hg
    obtain ⟨its, rv, p, _⟩ := hqx.raw I
    obtain ⟨jts, rw2, p2, _⟩ := hqy.raw I
    obtain ⟨kts, rw3, p3, _⟩ := hqz.raw I
    have l1 := rv.length
    have l2 := rw2.length
    have l3 := rw3.length
    refine wpAny_pyNext_zipD3_end S (drawsB (prog := X.prog) (w := X.w) (A := X.A.in1) (I.ok.hd hc) k i1 a n1 its.toArray) (drawsB (prog := X.prog) (w := X.w) (A := X.A.in1) (I.ok.hd hc) l i2 b n2 jts.toArray) (drawsB (prog := X.prog) (w := X.w) (A := X.A.in1) (I.ok.hd hc) m i3 c n3 kts.toArray) hz hTI hTO ⟨g1, p⟩ ⟨g2, p2⟩ ⟨g3, p3⟩ (by simp; omega) (by simp; omega) (by simp; omega) (by simp; omega) fun h' tk hk => ⟨rfl, ?_⟩
    exact I.turnedL (t' := tk) (ch := [z, TI, TO, i1, i2, i3]) (fun q o hb qq => hk q o (fun w => hb (by simp [w])) (fun w => hb (by simp [w])) (fun w => hb (by simp [w])) (fun w => hb (by simp [w])) (fun w => hb (by simp [w])) qq) hf
  self := fun A i s Q E st h => wpAny_pyIter_zip st.1 h
def iZip3 (K : PySem.W.Frag) (ta : TA) : TI := fun σ H R => ta σ H fun vs H1 => ∃ a b c k l m xs ys zs, vs = [.ref a, .ref b, .ref c] ∧ SqB K H1 a xs k ∧ SqB K H1 b ys l ∧ SqB K H1 c zs m ∧ R (Itz3 K a b c k l m) H1
theorem pi_zip3 {X : Cx} {e e2 e3 : Expr} {ta : TA} {p pos tpos : Pos} {elts : List Expr} {kk : Nat} (hg : Gl X "zip") (hm : X.mg "zip" = none) (ha : PA X [e, e2, e3] ta)
    (hs : starEach [e, e2, e3] X.env = (false, eval e X.env) :: starEach [e2, e3] X.env := by rfl) (hpl : (backTo pos (starEach [e2, e3] X.env)).any (·.1) = false := by rfl) :
    PI X (.Tuple elts kk tpos) (.Call (.Name "zip" p) [e, e2, e3] [] pos) (iZip3 X.K ta) := by
  refine ⟨fun pins s σ H R I h => ?_⟩
  refine Call_ (ld_blt I hg hm PyProof.Rows.boot_zip (PyProof.Rows.callWith_type1 (thn (ha.run pos pins s σ H _ I h) fun us s1 ⟨vs, H1, I1, r1, q1⟩ => ?_) hs hpl))
  obtain ⟨a, b, c, k, l, m, xs, ys, zs, ex, hqx, hqy, hqz, q⟩ := q1
  subst ex
  cases r1 with
  | cons r rr =>
  cases rr with
  | cons r' rr =>
  cases rr with
  | cons r'' rr =>
  cases rr
  cases r
  cases r'
  cases r''
  obtain ⟨its, rv, p1, la⟩ := hqx.raw I1
  obtain ⟨jts, rw2, p2, lb⟩ := hqy.raw I1
  obtain ⟨kts, rw3, p3, lc⟩ := hqz.raw I1
  obtain ⟨o1, B1, s1i⟩ := beginsB k a its.toArray
  obtain ⟨o2, B2, s2i⟩ := beginsB l b jts.toArray
  obtain ⟨o3, B3, s3i⟩ := beginsB m c kts.toArray
  refine zip_begins3 B1 B2 B3 p1 p2 p3 fun h' hz hTI hTO hi1 hi2 hi3 hsz hk => wpAny_pyIter_zip hz ?_
  have I2 : Inv X pins σ H1 { s1 with heap := h' } := I1.kept (t' := s1.toks) hk
  have S := zip_sep3 (N := s1.heap.objs.size) (fp1 := [a]) (fp2 := [b]) (fp3 := [c]) (fun q hc => by rw [List.mem_singleton.mp hc]; exact la) (fun q hc => by rw [List.mem_singleton.mp hc]; exact lb) (fun q hc => by rw [List.mem_singleton.mp hc]; exact lc)
  have fresh5 : ∀ q, q ∈ [s1.heap.objs.size + 5, s1.heap.objs.size + 3, s1.heap.objs.size + 4, s1.heap.objs.size, s1.heap.objs.size + 1, s1.heap.objs.size + 2] → FpOk X pins H1 q := fun q hcm => by
    have mm : q = s1.heap.objs.size + 5 ∨ q = s1.heap.objs.size + 3 ∨ q = s1.heap.objs.size + 4 ∨ q = s1.heap.objs.size ∨ q = s1.heap.objs.size + 1 ∨ q = s1.heap.objs.size + 2 := by simpa using hcm
    have le : s1.heap.objs.size ≤ q := by
      rcases mm with z | z | z | z | z | z <;> rw [z]
      · exact Nat.le_add_right _ _
      · exact Nat.le_add_right _ _
      · exact Nat.le_add_right _ _
      · exact Nat.le_refl _
      · exact Nat.le_add_right _ _
      · exact Nat.le_add_right _ _
    exact I1.fpOk le (I1.hok.fresh le)
  exact ⟨s1.heap.objs.size + 5, [s1.heap.objs.size + 5, s1.heap.objs.size + 3, s1.heap.objs.size + 4, s1.heap.objs.size, s1.heap.objs.size + 1, s1.heap.objs.size + 2], _, _, H1, rfl, I2, turn_zip3 S (Nat.ne_of_lt la) (Nat.ne_of_lt (Nat.lt_succ_of_lt lb)) (Nat.ne_of_lt (Nat.lt_succ_of_lt (Nat.lt_succ_of_lt lc))), ⟨hz, hTI, ⟨_, _, _, hTO⟩, s1i _ _ hi1, s2i _ _ hi2, s3i _ _ hi3⟩, fresh5, q⟩
theorem walk_zip3 {K : PySem.W.Frag} {a b c : Addr} {k l m : Bool} {xs ys zs : List V} {n : Nat} (hn : n = min (min xs.length ys.length) zs.length) : Walk (Itz3 K a b c k l m) n (fun H => SqB K H a xs k ∧ SqB K H b ys l ∧ SqB K H c zs m) (fun i H v H' => ∃ T x y u, v = .ref T ∧ H T = none ∧ H' = upd H T (.tup [x, y, u]) ∧ xs[i]? = some x ∧ ys[i]? = some y ∧ zs[i]? = some u) := by
  subst hn
  refine ⟨fun i _ hi q => ?_, fun _ q => ⟨xs, ys, zs, q.1, q.2.1, q.2.2, by omega, by omega, by omega, by omega⟩, fun i H v H' _ q y => ?_⟩
  · exact ⟨xs, ys, zs, xs[i], ys[i], zs[i], q.1, q.2.1, q.2.2, by simp [show i < xs.length by omega], by simp [show i < ys.length by omega], by simp [show i < zs.length by omega]⟩
  · obtain ⟨T, x, z, u, g1, g2, g3, g4, g5, g6⟩ := y
    exact ⟨T, x, z, u, g1, g2, g3, g4 xs q.1, g5 ys q.2.1, g6 zs q.2.2⟩
end AL
set_option Elab.async false
set_option linter.all false
set_option maxRecDepth 100000
/-! rows of integers, their spans over the ratios, reduced rows: the mathematics -/
namespace AL
abbrev Rw := List Int
def vl (x : Rw) : Nat → Int := fun j => x.getD j 0
/-- the place of the first item that is not 0 -/
def piv : Rw → Nat
  | [] => 0
  | x :: r => if x = 0 then piv r + 1 else 0
def comb (m : Int) (x : Rw) (t : Int) (y : Rw) : Rw := List.zipWith (fun a b => m * a + t * b) x y
def gcdR (x : Rw) : Nat := x.foldl (fun s v => Nat.gcd s v.natAbs) 0
def sgR (x : Rw) : Int := if vl x (piv x) < 0 then -((gcdR x : Nat) : Int) else ((gcdR x : Nat) : Int)
def prim (x : Rw) : Rw := x.map fun v => v.fdiv (sgR x)
def woG (x : Rw) (p : Nat) (h : Rw) : Nat := Nat.gcd (vl x p).natAbs (vl h p).natAbs
def wo (x : Rw) (p : Nat) (h : Rw) : Rw := if vl x p = 0 then x else comb ((vl h p).fdiv (woG x p h)) x (-((vl x p).fdiv (woG x p h))) h
def clr (F : List Rw) (x : Rw) : Rw := F.foldl (fun x h => wo x (piv h) h) x
def upR (p : Rw) (h : Rw) : Rw := if vl h (piv p) = 0 then h else prim (wo h (piv p) p)
def allZ (x : Rw) : Prop := ∀ v ∈ x, v = 0
instance (x : Rw) : Decidable (allZ x) := by unfold allZ; infer_instance
def stepS (F : List Rw) (r : Rw) : List Rw := if allZ (clr F r) then F else F.map (upR (prim (clr F r))) ++ [prim (clr F r)]
def spn (rows : List Rw) : List Rw := rows.foldl stepS []
theorem vl_get {x : Rw} {j : Nat} {v : Int} (h : x[j]? = some v) : vl x j = v := by unfold vl; rw [List.getD_eq_getElem?_getD, h]; rfl
theorem vl_out {x : Rw} {j : Nat} (h : x.length ≤ j) : vl x j = 0 := by unfold vl; rw [List.getD_eq_getElem?_getD, List.getElem?_eq_none h]; rfl
theorem vl_at {x : Rw} {j : Nat} (h : j < x.length) : x[j]? = some (vl x j) := by
  unfold vl; rw [List.getD_eq_getElem?_getD, List.getElem?_eq_getElem h]; rfl
theorem vl_mem {x : Rw} {j : Nat} (h : j < x.length) : vl x j ∈ x := List.mem_of_getElem? (vl_at h)
theorem vl_ext {x y : Rw} (h : x.length = y.length) (e : ∀ j, vl x j = vl y j) : x = y := by
  refine List.ext_getElem h fun j h1 h2 => ?_
  have := e j
  have a := vl_at h1
  have b := vl_at h2
  rw [List.getElem?_eq_getElem h1] at a
  rw [List.getElem?_eq_getElem h2] at b
  have a' := Option.some.inj a
  have b' := Option.some.inj b
  omega
theorem vl_map {x : Rw} {f : Int → Int} (h0 : f 0 = 0) (j : Nat) : vl (x.map f) j = f (vl x j) := by
  by_cases h : j < x.length
  · exact vl_get (by rw [List.getElem?_map, vl_at h]; rfl)
  · rw [vl_out (by rw [List.length_map]; omega), vl_out (by omega), h0]
theorem pos_r {a b : Int} (ha : 0 < a) (h : 0 < a * b) : 0 < b := by
  rcases Int.lt_trichotomy b 0 with w | w | w
  · have := Int.mul_neg_of_pos_of_neg ha w; omega
  · rw [w, Int.mul_zero] at h; omega
  · exact w
theorem comb_len {m t : Int} {x y : Rw} (h : x.length = y.length) : (comb m x t y).length = x.length := by unfold comb; rw [List.length_zipWith, h, Nat.min_self]
theorem comb_vl {m t : Int} {x y : Rw} (h : x.length = y.length) (j : Nat) : vl (comb m x t y) j = m * vl x j + t * vl y j := by
  by_cases hj : j < x.length
  · exact vl_get (by unfold comb; rw [List.getElem?_zipWith, vl_at hj, vl_at (by omega : j < y.length)])
  · rw [vl_out (by rw [comb_len h]; omega), vl_out (by omega : x.length ≤ j), vl_out (by omega : y.length ≤ j)]; simp
theorem piv_spec : ∀ {x : Rw}, ¬ allZ x → piv x < x.length ∧ vl x (piv x) ≠ 0 ∧ ∀ j, j < piv x → vl x j = 0
  | [], h => absurd (fun v hv => nomatch hv) h
  | a :: r, h => by
    unfold piv
    by_cases z : a = 0
    · rw [if_pos z]
      have hr : ¬ allZ r := fun w => h fun v hv => by
        rcases List.mem_cons.mp hv with e | e
        · rw [e, z]
        · exact w v e
      obtain ⟨h1, h2, h3⟩ := piv_spec hr
      refine ⟨by rw [List.length_cons]; omega, ?_, fun j hj => ?_⟩
      · show vl (a :: r) (piv r + 1) ≠ 0
        exact h2
      · cases j with
        | zero => exact z
        | succ j => exact h3 j (by omega)
    · rw [if_neg z]
      exact ⟨by simp, z, fun j hj => by omega⟩
theorem piv_zero : ∀ {x : Rw}, allZ x → piv x = x.length
  | [], _ => rfl
  | a :: r, h => by
    unfold piv
    rw [if_pos (h a (List.mem_cons_self ..)), piv_zero fun v hv => h v (List.mem_cons_of_mem _ hv)]; rfl
theorem not_allZ {x : Rw} {j : Nat} (h : vl x j ≠ 0) : ¬ allZ x := fun z => by
  by_cases hj : j < x.length
  · exact h (z _ (vl_mem hj))
  · exact h (vl_out (by omega))
theorem allZ_vl {x : Rw} (h : allZ x) (j : Nat) : vl x j = 0 := by
  by_cases hj : j < x.length
  · exact h _ (vl_mem hj)
  · exact vl_out (by omega)
theorem piv_is {x : Rw} {p : Nat} (h : vl x p ≠ 0) (z : ∀ j, j < p → vl x j = 0) : piv x = p := by
  obtain ⟨_, h2, h3⟩ := piv_spec (not_allZ h)
  rcases Nat.lt_trichotomy (piv x) p with w | w | w
  · exact absurd (z _ w) h2
  · exact w
  · exact absurd (h3 p w) h
theorem gcdR_fold : ∀ (x : Rw) (s : Nat), x.foldl (fun s v => Nat.gcd s v.natAbs) s ∣ s ∧ ∀ v ∈ x, x.foldl (fun s v => Nat.gcd s v.natAbs) s ∣ v.natAbs
  | [], s => ⟨Nat.dvd_refl _, fun v hv => nomatch hv⟩
  | a :: r, s => by
    obtain ⟨h1, h2⟩ := gcdR_fold r (Nat.gcd s a.natAbs)
    refine ⟨Nat.dvd_trans h1 (Nat.gcd_dvd_left _ _), fun v hv => ?_⟩
    rcases List.mem_cons.mp hv with rfl | hv
    · exact Nat.dvd_trans h1 (Nat.gcd_dvd_right _ _)
    · exact h2 v hv
theorem gcdR_dvd {x : Rw} {v : Int} (h : v ∈ x) : gcdR x ∣ v.natAbs := (gcdR_fold x 0).2 v h
theorem gcdR_pos {x : Rw} (h : ¬ allZ x) : 0 < gcdR x := by
  obtain ⟨h1, h2, _⟩ := piv_spec h
  have d := gcdR_dvd (vl_mem h1)
  refine Nat.pos_of_ne_zero fun z => ?_
  rw [z] at d
  have := Nat.eq_zero_of_zero_dvd d
  omega
theorem sgR_abs (x : Rw) : (sgR x).natAbs = gcdR x := by unfold sgR; split <;> omega
theorem sgR_ne {x : Rw} (h : ¬ allZ x) : sgR x ≠ 0 := fun z => by
  have a := sgR_abs x
  have := gcdR_pos h
  rw [z] at a
  simp at a; omega
theorem sgR_dvd {x : Rw} {v : Int} (h : v ∈ x) : sgR x ∣ v := by
  have d := gcdR_dvd h
  rw [← sgR_abs] at d
  exact Int.natAbs_dvd_natAbs.mp d
theorem fdiv_ex {g v : Int} (g0 : g ≠ 0) (h : g ∣ v) : g * v.fdiv g = v := by
  obtain ⟨k, rfl⟩ := h
  rw [Int.mul_comm g k, Int.mul_fdiv_cancel _ g0, Int.mul_comm]
theorem prim_len (x : Rw) : (prim x).length = x.length := List.length_map _
theorem prim_vl {x : Rw} (h : ¬ allZ x) (j : Nat) : sgR x * vl (prim x) j = vl x j := by
  by_cases hj : j < x.length
  · have e : vl (prim x) j = (vl x j).fdiv (sgR x) := vl_get (by unfold prim; rw [List.getElem?_map, vl_at hj]; rfl)
    rw [e, fdiv_ex (sgR_ne h) (sgR_dvd (vl_mem hj))]
  · rw [vl_out (by rw [prim_len]; omega), vl_out (by omega : x.length ≤ j), Int.mul_zero]
theorem prim_piv {x : Rw} (h : ¬ allZ x) : piv (prim x) = piv x := by
  obtain ⟨_, h2, h3⟩ := piv_spec h
  refine piv_is (fun z => h2 ?_) fun j hj => ?_
  · rw [← prim_vl h, z, Int.mul_zero]
  · have := prim_vl h j
    rw [h3 j hj] at this
    exact (Int.mul_eq_zero.mp this).resolve_left (sgR_ne h)
theorem prim_pos {x : Rw} (h : ¬ allZ x) : 0 < vl (prim x) (piv x) := by
  obtain ⟨_, h2, h3⟩ := piv_spec h
  have e := prim_vl h (piv x)
  have g := gcdR_pos h
  by_cases w : vl x (piv x) < 0
  · have s : sgR x < 0 := by unfold sgR; rw [if_pos w]; omega
    rw [← e] at w
    rcases Int.lt_trichotomy (vl (prim x) (piv x)) 0 with z | z | z
    · have := Int.mul_pos_of_neg_of_neg s z; omega
    · rw [z] at w; simp at w
    · exact z
  · have s : 0 < sgR x := by unfold sgR; rw [if_neg w]; omega
    have p : 0 < vl x (piv x) := by omega
    rw [← e] at p
    exact pos_r s p
theorem prim_nz {x : Rw} (h : ¬ allZ x) : ¬ allZ (prim x) := not_allZ (j := piv x) (by have := prim_pos h; omega)
/-- m times x and t times h -/
theorem wo_lin {x h : Rw} {p : Nat} (hl : x.length = h.length) (hp : 0 < vl h p) : ∃ m t : Int, 0 < m ∧ (wo x p h).length = x.length ∧ (∀ j, vl (wo x p h) j = m * vl x j + t * vl h j) ∧ vl (wo x p h) p = 0 := by
  unfold wo
  by_cases z : vl x p = 0
  · rw [if_pos z]
    exact ⟨1, 0, by decide, rfl, fun j => by simp, z⟩
  · rw [if_neg z]
    have gp : 0 < woG x p h := Nat.gcd_pos_of_pos_right _ (by omega)
    have d1 : ((woG x p h : Nat) : Int) ∣ vl h p := Int.ofNat_dvd_left.mpr (Nat.gcd_dvd_right _ _)
    have d2 : ((woG x p h : Nat) : Int) ∣ vl x p := Int.ofNat_dvd_left.mpr (Nat.gcd_dvd_left _ _)
    have g0 : ((woG x p h : Nat) : Int) ≠ 0 := by omega
    have e1 := fdiv_ex g0 d1
    have e2 := fdiv_ex g0 d2
    refine ⟨_, _, ?_, comb_len hl, comb_vl hl, ?_⟩
    · rw [← e1] at hp
      exact pos_r (by omega) hp
    · rw [comb_vl hl]
      generalize (vl h p).fdiv (woG x p h) = a at *
      generalize (vl x p).fdiv (woG x p h) = b at *
      rw [← e1, ← e2]
      have : a * (↑(woG x p h) * b) = b * (↑(woG x p h) * a) := by rw [Int.mul_left_comm, Int.mul_comm a b, ← Int.mul_left_comm]
      rw [this, Int.neg_mul]; omega
/-- spans -/
inductive Spn (S : (Nat → Int) → Prop) : (Nat → Int) → Prop
  | mem {x} : S x → Spn S x
  | zero : Spn S fun _ => 0
  | lin {x y} (m t : Int) : Spn S x → Spn S y → Spn S fun j => m * x j + t * y j
  | div {x} {s : Int} : s ≠ 0 → (Spn S fun j => s * x j) → Spn S x
def inR (F : List Rw) : (Nat → Int) → Prop := fun φ => ∃ f ∈ F, φ = vl f
theorem Spn.trans {S T : (Nat → Int) → Prop} {x : Nat → Int} (h : Spn S x) (k : ∀ y, S y → Spn T y) : Spn T x := by
  induction h with
  | mem h => exact k _ h
  | zero => exact .zero
  | lin m t _ _ i1 i2 => exact .lin m t i1 i2
  | div s0 _ i => exact .div s0 i
theorem Spn.of {S : (Nat → Int) → Prop} {x y : Nat → Int} (h : Spn S x) (e : ∀ j, y j = x j) : Spn S y := by
  have : y = x := funext e
  rw [this]; exact h
/-- what is closed like a span -/
structure Cls0 (R : (Nat → Int) → Prop) : Prop where
  zero : R fun _ => 0
  lin : ∀ {x y} (m t : Int), R x → R y → R fun j => m * x j + t * y j
  div : ∀ {x} {s : Int}, s ≠ 0 → (R fun j => s * x j) → R x
theorem Spn.clo {S R : (Nat → Int) → Prop} (c : Cls0 R) {x : Nat → Int} (h : Spn S x) (k : ∀ y, S y → R y) : R x := by
  induction h with
  | mem h => exact k _ h
  | zero => exact c.zero
  | lin m t _ _ i1 i2 => exact c.lin m t i1 i2
  | div s0 _ i => exact c.div s0 i
/-- reduced rows, in any order -/
structure Rref (W : Nat) (F : List Rw) : Prop where
  len : ∀ f ∈ F, f.length = W
  pos : ∀ f ∈ F, 0 < vl f (piv f)
  off : F.Pairwise fun f h => vl f (piv h) = 0 ∧ vl h (piv f) = 0
theorem clr_zero {W : Nat} : ∀ {F : List Rw} {x : Rw}, (∀ f ∈ F, f.length = W) → (∀ f ∈ F, 0 < vl f (piv f)) → x.length = W → ∀ {p : Nat}, vl x p = 0 → (∀ f ∈ F, vl f p = 0) → vl (clr F x) p = 0
  | [], _, _, _, _, _, h, _ => h
  | f :: F, x, hl, hp, lx, p, h, z => by
    obtain ⟨m, t, _, l, e, _⟩ := wo_lin (x := x) (h := f) (lx.trans (hl f (List.mem_cons_self ..)).symm) (hp f (List.mem_cons_self ..))
    refine clr_zero (F := F) (fun g hg => hl g (List.mem_cons_of_mem _ hg)) (fun g hg => hp g (List.mem_cons_of_mem _ hg)) (l.trans lx) ?_ fun g hg => z g (List.mem_cons_of_mem _ hg)
    rw [e, h, z f (List.mem_cons_self ..)]; simp
theorem clr_spec {W : Nat} : ∀ {F : List Rw} {x : Rw}, Rref W F → x.length = W → (clr F x).length = W ∧ (∀ f ∈ F, vl (clr F x) (piv f) = 0) ∧ (∀ T : (Nat → Int) → Prop, (∀ f ∈ F, Spn T (vl f)) → (Spn T (vl x) ↔ Spn T (vl (clr F x))))
  | [], x, _, lx => ⟨lx, (fun f hf => nomatch hf), fun T _ => Iff.rfl⟩
  | f :: F, x, R, lx => by
    have hf := List.mem_cons_self (a := f) (l := F)
    obtain ⟨m, t, m0, l, e, z⟩ := wo_lin (x := x) (h := f) (p := piv f) (lx.trans (R.len f hf).symm) (R.pos f hf)
    have o := List.pairwise_cons.mp R.off
    have R' : Rref W F := ⟨fun g hg => R.len g (List.mem_cons_of_mem _ hg), fun g hg => R.pos g (List.mem_cons_of_mem _ hg), o.2⟩
    obtain ⟨h1, h2, h3⟩ := clr_spec (F := F) (x := wo x (piv f) f) R' (l.trans lx)
    refine ⟨h1, fun g hg => ?_, fun T k => ?_⟩
    · rcases List.mem_cons.mp hg with rfl | hg
      · exact clr_zero R'.len R'.pos (l.trans lx) z fun h hh => (o.1 h hh).2
      · exact h2 g hg
    · refine Iff.trans ?_ (h3 T fun g hg => k g (List.mem_cons_of_mem _ hg))
      have kf := k f hf
      constructor
      · intro s
        exact (Spn.lin m t s kf).of e
      · intro s
        have w := Spn.lin 1 (-t) s kf
        refine Spn.div (s := m) (by omega) (w.of fun j => ?_)
        rw [e]
        rw [Int.one_mul, Int.neg_mul]; omega
theorem Spn.prim {T : (Nat → Int) → Prop} {x : Rw} (h : ¬ allZ x) : Spn T (vl (prim x)) ↔ Spn T (vl x) := by
  have e := prim_vl h
  constructor
  · intro s
    exact (Spn.lin (sgR x) 0 s s).of fun j => by rw [Int.zero_mul, Int.add_zero, e]
  · intro s
    exact .div (sgR_ne h) (s.of e)
theorem wo_nz {x p : Rw} (hl : x.length = p.length) (hp : 0 < vl p (piv p)) (hx : 0 < vl x (piv x)) (pz : vl p (piv x) = 0) : ¬ allZ (wo x (piv p) p) := by
  obtain ⟨m, t, m0, _, e, _⟩ := wo_lin (x := x) (h := p) hl hp
  refine not_allZ (j := piv x) ?_
  rw [e, pz, Int.mul_zero, Int.add_zero]
  exact fun z => (Int.mul_eq_zero.mp z).elim (by omega) (by omega)
/-- one of the rows, a new one behind -/
theorem upR_spec {W : Nat} {h p : Rw} (lh : h.length = W) (lp : p.length = W) (hh : 0 < vl h (piv h)) (hp : 0 < vl p (piv p)) (pz : vl p (piv h) = 0) :
    (upR p h).length = W ∧ piv (upR p h) = piv h ∧ 0 < vl (upR p h) (piv h) ∧ vl (upR p h) (piv p) = 0 ∧ (∀ j, vl h j = 0 → vl p j = 0 → vl (upR p h) j = 0) ∧ ∀ T : (Nat → Int) → Prop, Spn T (vl p) → (Spn T (vl h) ↔ Spn T (vl (upR p h))) := by
  unfold upR
  by_cases z : vl h (piv p) = 0
  · rw [if_pos z]
    exact ⟨lh, rfl, hh, z, fun j e _ => e, fun T _ => Iff.rfl⟩
  rw [if_neg z]
  obtain ⟨m, t, m0, l, e, ez⟩ := wo_lin (x := h) (h := p) (p := piv p) (lh.trans lp.symm) hp
  have nz := wo_nz (lh.trans lp.symm) hp hh pz
  have lt : piv h < piv p := by
    rcases Nat.lt_trichotomy (piv h) (piv p) with w | w | w
    · exact w
    · rw [w] at pz; omega
    · exact absurd ((piv_spec (not_allZ (j := piv h) (by omega))).2.2 _ w) z
  have pj : ∀ j, j ≤ piv h → vl p j = 0 := fun j hj => (piv_spec (not_allZ (j := piv p) (by omega))).2.2 j (by omega)
  have hj := (piv_spec (x := h) (not_allZ (j := piv h) (by omega))).2.2
  have pw : piv (wo h (piv p) p) = piv h := piv_is (by
    rw [e, pz, Int.mul_zero, Int.add_zero]
    exact fun w => (Int.mul_eq_zero.mp w).elim (by omega) (by omega)) fun j w => by rw [e, hj j w, pj j (by omega)]; simp
  have pv := prim_vl nz
  have back : ∀ j, vl (wo h (piv p) p) j = 0 → vl (prim (wo h (piv p) p)) j = 0 := fun j w => by
    have := pv j
    rw [w] at this
    exact (Int.mul_eq_zero.mp this).resolve_left (sgR_ne nz)
  refine ⟨by rw [prim_len, l, lh], by rw [prim_piv nz, pw], ?_, back _ ez, fun j h1 h2 => back j (by rw [e, h1, h2]; simp), fun T sp => ?_⟩
  · have := prim_pos nz
    rw [pw] at this; exact this
  · refine Iff.trans ?_ (Spn.prim nz).symm
    constructor
    · intro s; exact (Spn.lin m t s sp).of e
    · intro s
      refine Spn.div (s := m) (by omega) ((Spn.lin 1 (-t) s sp).of fun j => ?_)
      rw [e, Int.one_mul, Int.neg_mul]; omega
theorem step_spec {W : Nat} {F : List Rw} {r : Rw} (R : Rref W F) (lr : r.length = W) : Rref W (stepS F r) ∧ ∀ T : (Nat → Int) → Prop, ((∀ f ∈ F, Spn T (vl f)) ∧ Spn T (vl r)) ↔ ∀ f ∈ stepS F r, Spn T (vl f) := by
  obtain ⟨c1, c2, c3⟩ := clr_spec R lr
  unfold stepS
  by_cases z : allZ (clr F r)
  · rw [if_pos z]
    refine ⟨R, fun T => ⟨fun h => h.1, fun h => ⟨h, ?_⟩⟩⟩
    exact (c3 T h).mpr (Spn.zero.of (allZ_vl z))
  rw [if_neg z]
  have lp : (prim (clr F r)).length = W := (prim_len _).trans c1
  have pp : 0 < vl (prim (clr F r)) (piv (prim (clr F r))) := by rw [prim_piv z]; exact prim_pos z
  have pz : ∀ f ∈ F, vl (prim (clr F r)) (piv f) = 0 := fun f hf => by
    have e := prim_vl z (piv f)
    rw [c2 f hf] at e
    exact (Int.mul_eq_zero.mp e).resolve_left (sgR_ne z)
  have sp : ∀ T : (Nat → Int) → Prop, Spn T (vl (prim (clr F r))) ↔ Spn T (vl (clr F r)) := fun T => Spn.prim z
  generalize prim (clr F r) = p at lp pp pz sp
  have U : ∀ f ∈ F, _ := fun f hf => upR_spec (R.len f hf) lp (R.pos f hf) pp (pz f hf)
  refine ⟨⟨fun g hg => ?_, fun g hg => ?_, ?_⟩, fun T => ⟨fun h g hg => ?_, fun h => ?_⟩⟩
  · rcases List.mem_append.mp hg with hg | hg
    · obtain ⟨f, hf, rfl⟩ := List.mem_map.mp hg
      exact (U f hf).1
    · rw [List.mem_singleton.mp hg]; exact lp
  · rcases List.mem_append.mp hg with hg | hg
    · obtain ⟨f, hf, rfl⟩ := List.mem_map.mp hg
      rw [(U f hf).2.1]; exact (U f hf).2.2.1
    · rw [List.mem_singleton.mp hg]; exact pp
  · rw [List.pairwise_append]
    refine ⟨?_, List.pairwise_singleton .., fun g hg q hq => ?_⟩
    · rw [List.pairwise_map]
      refine List.Pairwise.imp_of_mem (fun {f h} hf hh o => ?_) R.off
      rw [(U f hf).2.1, (U h hh).2.1]
      exact ⟨(U f hf).2.2.2.2.1 _ o.1 (pz h hh), (U h hh).2.2.2.2.1 _ o.2 (pz f hf)⟩
    · obtain ⟨f, hf, rfl⟩ := List.mem_map.mp hg
      rw [List.mem_singleton.mp hq, (U f hf).2.1]
      exact ⟨(U f hf).2.2.2.1, pz f hf⟩
  · have hp : Spn T (vl p) := (sp T).mpr ((c3 T h.1).mp h.2)
    rcases List.mem_append.mp hg with hg | hg
    · obtain ⟨f, hf, rfl⟩ := List.mem_map.mp hg
      exact ((U f hf).2.2.2.2.2 T hp).mp (h.1 f hf)
    · rw [List.mem_singleton.mp hg]; exact hp
  · have hp : Spn T (vl p) := h p (List.mem_append_right _ (List.mem_singleton.mpr rfl))
    have hF : ∀ f ∈ F, Spn T (vl f) := fun f hf => ((U f hf).2.2.2.2.2 T hp).mpr (h _ (List.mem_append_left _ (List.mem_map.mpr ⟨f, hf, rfl⟩)))
    exact ⟨hF, (c3 T hF).mpr ((sp T).mp hp)⟩
theorem spn_go {W : Nat} : ∀ {rows F : List Rw}, Rref W F → (∀ r ∈ rows, r.length = W) → Rref W (rows.foldl stepS F) ∧ ∀ T : (Nat → Int) → Prop, ((∀ f ∈ F, Spn T (vl f)) ∧ ∀ r ∈ rows, Spn T (vl r)) ↔ ∀ f ∈ rows.foldl stepS F, Spn T (vl f)
  | [], F, R, _ => ⟨R, fun T => ⟨fun h => h.1, fun h => ⟨h, fun r hr => nomatch hr⟩⟩⟩
  | r :: rows, F, R, hl => by
    obtain ⟨R1, s1⟩ := step_spec R (hl r (List.mem_cons_self ..))
    obtain ⟨R2, s2⟩ := spn_go (rows := rows) R1 fun q hq => hl q (List.mem_cons_of_mem _ hq)
    refine ⟨R2, fun T => Iff.trans ?_ (s2 T)⟩
    rw [← s1 T, and_assoc]
    exact and_congr_right fun _ => ⟨fun h => ⟨h r (List.mem_cons_self ..), fun q hq => h q (List.mem_cons_of_mem _ hq)⟩, fun h q hq => by
      rcases List.mem_cons.mp hq with rfl | hq
      · exact h.1
      · exact h.2 q hq⟩
theorem rref_nil (W : Nat) : Rref W [] := ⟨(fun f hf => nomatch hf), (fun f hf => nomatch hf), .nil⟩
/-- span_of tells reduced rows of the same span -/
theorem spn_spec {W : Nat} {rows : List Rw} (hl : ∀ r ∈ rows, r.length = W) : Rref W (spn rows) ∧ (∀ r ∈ rows, Spn (inR (spn rows)) (vl r)) ∧ ∀ f ∈ spn rows, Spn (inR rows) (vl f) := by
  obtain ⟨R, s⟩ := spn_go (rref_nil W) hl
  refine ⟨R, ?_, ?_⟩
  · exact ((s (inR (spn rows))).mpr fun f hf => .mem ⟨f, hf, rfl⟩).2
  · exact (s (inR rows)).mp ⟨(fun f hf => nomatch hf), fun r hr => .mem ⟨r, hr, rfl⟩⟩
/-- sums of multiples of rows -/
def sumF (as : List Int) (F : List Rw) (j : Nat) : Int := (List.zipWith (fun a f => a * vl f j) as F).sum
theorem sumF_lin : ∀ {as bs : List Int} {F : List Rw} (m t : Int) (j : Nat), as.length = F.length → bs.length = F.length → sumF (List.zipWith (fun a b => m * a + t * b) as bs) F j = m * sumF as F j + t * sumF bs F j
  | [], [], [], m, t, j, _, _ => by unfold sumF; simp
  | a :: as, b :: bs, f :: F, m, t, j, h1, h2 => by
    have ih := sumF_lin (as := as) (bs := bs) (F := F) m t j (by simpa using h1) (by simpa using h2)
    unfold sumF at ih ⊢
    simp only [List.zipWith_cons_cons, List.sum_cons, ih]
    rw [Int.mul_add, Int.mul_add, Int.add_mul, Int.mul_assoc, Int.mul_assoc]
    omega
  | [], _ :: _, [], _, _, _, _, h => nomatch h
  | _ :: _, _, [], _, _, _, h, _ => nomatch h
  | [], _, _ :: _, _, _, _, h, _ => nomatch h
  | _ :: _, [], _ :: _, _, _, _, _, h => nomatch h
theorem sumF_zero : ∀ (F : List Rw) (j : Nat), sumF (F.map fun _ => 0) F j = 0
  | [], _ => rfl
  | f :: F, j => by
    have ih := sumF_zero F j
    unfold sumF at ih ⊢
    simp only [List.map_cons, List.zipWith_cons_cons, List.sum_cons, ih]; simp
theorem sumF_one : ∀ {F : List Rw} {f : Rw}, f ∈ F → ∃ as : List Int, as.length = F.length ∧ ∀ j, vl f j = sumF as F j
  | g :: F, f, h => by
    rcases List.mem_cons.mp h with rfl | h
    · refine ⟨1 :: F.map fun _ => 0, by simp, fun j => ?_⟩
      have := sumF_zero F j
      unfold sumF at this ⊢
      simp only [List.zipWith_cons_cons, List.sum_cons, this]; simp
    · obtain ⟨as, l, e⟩ := sumF_one h
      refine ⟨0 :: as, by simp [l], fun j => ?_⟩
      rw [e j]
      unfold sumF
      simp
/-- a multiple of what lies in the span is a sum of multiples of the rows -/
theorem span_sum {F : List Rw} {x : Nat → Int} (h : Spn (inR F) x) : ∃ (m : Int) (as : List Int), m ≠ 0 ∧ as.length = F.length ∧ ∀ j, m * x j = sumF as F j := by
  refine Spn.clo (R := fun x => ∃ (m : Int) (as : List Int), m ≠ 0 ∧ as.length = F.length ∧ ∀ j, m * x j = sumF as F j) ⟨?_, ?_, ?_⟩ h ?_
  · exact ⟨1, F.map fun _ => 0, by decide, by simp, fun j => by rw [sumF_zero, Int.mul_zero]⟩
  · rintro x y p q ⟨m, as, m0, la, ea⟩ ⟨n, bs, n0, lb, eb⟩
    refine ⟨m * n, List.zipWith (fun a b => (p * n) * a + (q * m) * b) as bs, Int.mul_ne_zero m0 n0, by rw [List.length_zipWith, la, lb, Nat.min_self], fun j => ?_⟩
    rw [sumF_lin _ _ _ la lb, ← ea, ← eb]
    grind
  · rintro x s s0 ⟨m, as, m0, la, ea⟩
    refine ⟨m * s, as, Int.mul_ne_zero m0 s0, la, fun j => ?_⟩
    rw [← ea, Int.mul_assoc]
  · rintro y ⟨f, hf, rfl⟩
    obtain ⟨as, l, e⟩ := sumF_one hf
    exact ⟨1, as, by decide, l, fun j => by rw [Int.one_mul]; exact e j⟩
/-- at a pivot only its own row tells -/
theorem sumF_at : ∀ {F : List Rw} {as : List Int} {i : Nat} {f : Rw} {a : Int} {p : Nat}, as.length = F.length → F[i]? = some f → as[i]? = some a → (∀ k g, F[k]? = some g → k ≠ i → vl g p = 0) → sumF as F p = a * vl f p
  | [], _, _, _, _, _, _, h, _, _ => by simp at h
  | g :: F, [], _, _, _, _, h, _, _, _ => nomatch h
  | g :: F, b :: as, 0, f, a, p, hl, hf, ha, z => by
    cases Option.some.inj hf
    cases Option.some.inj ha
    have r : ∀ {F : List Rw} {as : List Int}, (∀ g ∈ F, vl g p = 0) → sumF as F p = 0 := fun {F} => by
      induction F with
      | nil => intro as _; unfold sumF; cases as <;> rfl
      | cons h F ih =>
        intro as k
        cases as with
        | nil => rfl
        | cons c as =>
          have := ih (as := as) fun g hg => k g (List.mem_cons_of_mem _ hg)
          unfold sumF at this ⊢
          rw [List.zipWith_cons_cons, List.sum_cons, this, k h (List.mem_cons_self ..)]; simp
    have w := r (F := F) (as := as) fun h hh => by
      obtain ⟨k, hk⟩ := List.mem_iff_getElem?.mp hh
      exact z (k + 1) h (by simpa using hk) (by omega)
    unfold sumF at w ⊢
    rw [List.zipWith_cons_cons, List.sum_cons, w, Int.add_zero]
  | g :: F, b :: as, i + 1, f, a, p, hl, hf, ha, z => by
    have ih := sumF_at (F := F) (as := as) (i := i) (f := f) (a := a) (p := p) (by simpa using hl) (by simpa using hf) (by simpa using ha) fun k h hk ne => z (k + 1) h (by simpa using hk) (by omega)
    have w := z 0 g rfl (by omega)
    unfold sumF at ih ⊢
    rw [List.zipWith_cons_cons, List.sum_cons, ih, w]; simp
theorem rref_off {W : Nat} {F : List Rw} (R : Rref W F) {i k : Nat} {f g : Rw} (hi : F[i]? = some f) (hk : F[k]? = some g) (ne : k ≠ i) : vl g (piv f) = 0 := by
  obtain ⟨li, ei⟩ := List.getElem?_eq_some_iff.mp hi
  obtain ⟨lk, ek⟩ := List.getElem?_eq_some_iff.mp hk
  have o := List.pairwise_iff_getElem.mp R.off
  rcases Nat.lt_or_gt_of_ne ne with w | w
  · have := o k i lk li w
    rw [ei, ek] at this; exact this.1
  · have := o i k li lk w
    rw [ei, ek] at this; exact this.2
/-- what is 0 at all pivots but one is a multiple of this one's row -/
theorem span_one {W : Nat} {F : List Rw} (R : Rref W F) {x : Nat → Int} (h : Spn (inR F) x) {i : Nat} {f : Rw} (hi : F[i]? = some f) (z : ∀ k g, F[k]? = some g → k ≠ i → x (piv g) = 0) : ∀ j, vl f (piv f) * x j = x (piv f) * vl f j := by
  obtain ⟨m, as, m0, la, e⟩ := span_sum h
  have ai : ∀ {k : Nat} {g : Rw}, F[k]? = some g → ∃ a, as[k]? = some a ∧ m * x (piv g) = a * vl g (piv g) := fun {k g} hk => by
    have lk : k < as.length := by have := (List.getElem?_eq_some_iff.mp hk).1; omega
    refine ⟨as[k], List.getElem?_eq_getElem lk, ?_⟩
    rw [e]
    exact sumF_at la hk (List.getElem?_eq_getElem lk) fun k' g' hk' ne => rref_off R hk hk' ne
  obtain ⟨a, ha, ea⟩ := ai hi
  have zero : ∀ {k : Nat} {g : Rw} {b : Int}, F[k]? = some g → as[k]? = some b → k ≠ i → b = 0 := fun {k g b} hk hb ne => by
    obtain ⟨b', hb', eb⟩ := ai hk
    rw [hb] at hb'
    cases Option.some.inj hb'
    rw [z k g hk ne, Int.mul_zero] at eb
    have p := R.pos g (List.mem_of_getElem? hk)
    exact (Int.mul_eq_zero.mp eb.symm).resolve_right (by omega)
  intro j
  have sj : sumF as F j = a * vl f j := by
    have go : ∀ {F : List Rw} {as : List Int} {i : Nat}, as.length = F.length → F[i]? = some f → as[i]? = some a → (∀ k b, as[k]? = some b → k ≠ i → b = 0) → sumF as F j = a * vl f j := fun {F} => by
      induction F with
      | nil => intro as i _ h; simp at h
      | cons g F ih =>
        intro as i hl hf ha z
        cases as with
        | nil => cases hl
        | cons b as =>
          cases i with
          | zero =>
            cases Option.some.inj hf
            cases Option.some.inj ha
            have r : ∀ {as : List Int} {F : List Rw}, (∀ b ∈ as, b = 0) → sumF as F j = 0 := fun {as} => by
              induction as with
              | nil => intro F _; unfold sumF; cases F <;> rfl
              | cons c as ih2 =>
                intro F k
                cases F with
                | nil => rfl
                | cons h F =>
                  have := ih2 (F := F) fun g hg => k g (List.mem_cons_of_mem _ hg)
                  unfold sumF at this ⊢
                  rw [List.zipWith_cons_cons, List.sum_cons, this, k c (List.mem_cons_self ..)]; simp
            have w := r (as := as) (F := F) fun b hb => by
              obtain ⟨k, hk⟩ := List.mem_iff_getElem?.mp hb
              exact z (k + 1) b (by simpa using hk) (by omega)
            unfold sumF at w ⊢
            rw [List.zipWith_cons_cons, List.sum_cons, w, Int.add_zero]
          | succ i =>
            have := ih (as := as) (i := i) (by simpa using hl) (by simpa using hf) (by simpa using ha) fun k b hk ne => z (k + 1) b (by simpa using hk) (by omega)
            have w := z 0 b rfl (by omega)
            unfold sumF at this ⊢
            rw [List.zipWith_cons_cons, List.sum_cons, this, w]; simp
    refine go la hi ha fun k b hk ne => ?_
    have lk : k < F.length := by have := (List.getElem?_eq_some_iff.mp hk).1; omega
    exact zero (List.getElem?_eq_getElem lk) hk ne
  have e1 := e j
  rw [sj] at e1
  -- m x j = a f j, m x p = a f p
  have : m * (vl f (piv f) * x j) = m * (x (piv f) * vl f j) := by
    have u1 : m * (vl f (piv f) * x j) = vl f (piv f) * (m * x j) := by grind
    have u2 : m * (x (piv f) * vl f j) = (m * x (piv f)) * vl f j := by grind
    rw [u1, u2, e1, ea]; grind
  exact Int.eq_of_mul_eq_mul_left m0 this
theorem span_none {W : Nat} {F : List Rw} (R : Rref W F) {x : Nat → Int} (h : Spn (inR F) x) (z : ∀ g ∈ F, x (piv g) = 0) : ∀ j, x j = 0 := by
  intro j
  cases F with
  | nil =>
    obtain ⟨m, as, m0, la, e⟩ := span_sum h
    have := e j
    have w : sumF as [] j = 0 := by unfold sumF; cases as <;> rfl
    rw [w] at this
    exact (Int.mul_eq_zero.mp this).resolve_left m0
  | cons f F =>
    have := span_one R h (i := 0) (f := f) rfl (fun k g hk _ => z g (List.mem_of_getElem? hk)) j
    rw [z f (List.mem_cons_self ..), Int.zero_mul] at this
    have p := R.pos f (List.mem_cons_self ..)
    exact (Int.mul_eq_zero.mp this).resolve_left (by omega)
end AL
namespace AL
/-! ### sizes -/
def Bb (b : Nat) (x : Rw) : Prop := ∀ j, (vl x j).natAbs < 2 ^ b
theorem fdiv_le {g v : Int} (g0 : g ≠ 0) (h : g ∣ v) : (v.fdiv g).natAbs ≤ v.natAbs := by
  have e := fdiv_ex g0 h
  generalize v.fdiv g = q at e
  rw [← e, Int.natAbs_mul]
  exact Nat.le_mul_of_pos_left _ (by omega)
theorem Bb.mono {b c : Nat} {x : Rw} (h : Bb b x) (le : b ≤ c) : Bb c x := fun j => Nat.lt_of_lt_of_le (h j) (Nat.pow_le_pow_right (by decide) le)
theorem woG_ne {x h : Rw} {p : Nat} (hp : 0 < vl h p) : ((woG x p h : Nat) : Int) ≠ 0 ∧ ((woG x p h : Nat) : Int) ∣ vl h p ∧ ((woG x p h : Nat) : Int) ∣ vl x p := by
  have gp : 0 < woG x p h := Nat.gcd_pos_of_pos_right _ (by omega)
  exact ⟨by omega, Int.ofNat_dvd_left.mpr (Nat.gcd_dvd_right _ _), Int.ofNat_dvd_left.mpr (Nat.gcd_dvd_left _ _)⟩
theorem wo_bb {x h : Rw} {p a b : Nat} (hl : x.length = h.length) (hp : 0 < vl h p) (bx : Bb a x) (bh : Bb b h) : Bb (a + b + 1) (wo x p h) := by
  unfold wo
  by_cases z : vl x p = 0
  · rw [if_pos z]; exact bx.mono (by omega)
  rw [if_neg z]
  obtain ⟨g0, d1, d2⟩ := woG_ne (x := x) hp
  intro j
  rw [comb_vl hl]
  have m1 := fdiv_le g0 d1
  have m2 := fdiv_le g0 d2
  have h1 : ((vl h p).fdiv (woG x p h) * vl x j).natAbs ≤ (2 ^ b - 1) * (2 ^ a - 1) := by
    rw [Int.natAbs_mul]
    exact Nat.mul_le_mul (by have := bh p; omega) (by have := bx j; omega)
  have h2 : (-((vl x p).fdiv (woG x p h)) * vl h j).natAbs ≤ (2 ^ a - 1) * (2 ^ b - 1) := by
    rw [Int.natAbs_mul, Int.natAbs_neg]
    exact Nat.mul_le_mul (by have := bx p; omega) (by have := bh j; omega)
  have tri := Int.natAbs_add_le ((vl h p).fdiv (woG x p h) * vl x j) (-((vl x p).fdiv (woG x p h)) * vl h j)
  have pa := Nat.two_pow_pos a
  have pb := Nat.two_pow_pos b
  have e : 2 ^ (a + b + 1) = 2 * (2 ^ a * 2 ^ b) := by rw [Nat.pow_succ, Nat.pow_add, Nat.mul_comm]
  have le1 : (2 ^ b - 1) * (2 ^ a - 1) ≤ (2 ^ b - 1) * 2 ^ a := Nat.mul_le_mul_left _ (by omega)
  have le2 : (2 ^ a - 1) * (2 ^ b - 1) ≤ (2 ^ b - 1) * 2 ^ a := by rw [Nat.mul_comm]; exact le1
  have le3 : (2 ^ b - 1) * 2 ^ a = 2 ^ a * 2 ^ b - 2 ^ a := by rw [Nat.sub_mul, Nat.one_mul, Nat.mul_comm]
  have le4 : 2 ^ a ≤ 2 ^ a * 2 ^ b := Nat.le_mul_of_pos_right _ pb
  rw [e]
  omega
theorem prim_bb {x : Rw} {b : Nat} (h : ¬ allZ x) (bx : Bb b x) : Bb b (prim x) := fun j => by
  have e := prim_vl h j
  have g := sgR_ne h
  have : (vl (prim x) j).natAbs ≤ (vl x j).natAbs := by
    rw [← e, Int.natAbs_mul]
    exact Nat.le_mul_of_pos_left _ (by omega)
  have := bx j
  omega
theorem clr_bb {W m : Nat} : ∀ {F : List Rw} {x : Rw} {b : Nat}, (∀ f ∈ F, f.length = W) → (∀ f ∈ F, 0 < vl f (piv f)) → (∀ f ∈ F, Bb m f) → x.length = W → Bb b x → Bb (b + F.length * (m + 1)) (clr F x)
  | [], x, b, _, _, _, _, bx => by simpa [clr] using bx
  | f :: F, x, b, hl, hp, hb, lx, bx => by
    have hf := List.mem_cons_self (a := f) (l := F)
    obtain ⟨_, _, _, l, _, _⟩ := wo_lin (x := x) (h := f) (p := piv f) (lx.trans (hl f hf).symm) (hp f hf)
    have w := clr_bb (F := F) (x := wo x (piv f) f) (b := b + m + 1) (fun g hg => hl g (List.mem_cons_of_mem _ hg)) (fun g hg => hp g (List.mem_cons_of_mem _ hg)) (fun g hg => hb g (List.mem_cons_of_mem _ hg)) (l.trans lx) (wo_bb (lx.trans (hl f hf).symm) (hp f hf) bx (hb f hf))
    refine w.mono ?_
    rw [List.length_cons, Nat.succ_mul]; omega
def szN (b : Nat) : Nat → Nat
  | 0 => 0
  | k + 1 => (k + 1) * (szN b k + 1) + b
theorem szN_le (b k : Nat) : szN b k ≤ szN b (k + 1) := by
  show szN b k ≤ (k + 1) * (szN b k + 1) + b
  have : 1 * (szN b k + 1) ≤ (k + 1) * (szN b k + 1) := Nat.mul_le_mul_right _ (by omega)
  omega
theorem szN_mono (b : Nat) {k l : Nat} (h : k ≤ l) : szN b k ≤ szN b l := by
  induction h with
  | refl => exact Nat.le_refl _
  | step _ ih => exact Nat.le_trans ih (szN_le b _)
theorem b_szN (b k : Nat) : b ≤ szN b (k + 1) := by show b ≤ (k + 1) * (szN b k + 1) + b; omega
theorem step_bb {W b k : Nat} {F : List Rw} {r : Rw} (R : Rref W F) (lr : r.length = W) (lF : F.length ≤ k) (bF : ∀ f ∈ F, Bb (szN b k) f) (br : Bb b r) : (stepS F r).length ≤ k + 1 ∧ ∀ f ∈ stepS F r, Bb (szN b (k + 1)) f := by
  obtain ⟨c1, c2, c3⟩ := clr_spec R lr
  have cb := clr_bb R.len R.pos bF lr br
  have cb' : Bb (b + k * (szN b k + 1)) (clr F r) := cb.mono (Nat.add_le_add_left (Nat.mul_le_mul_right _ lF) _)
  unfold stepS
  by_cases z : allZ (clr F r)
  · rw [if_pos z]
    exact ⟨by omega, fun f hf => (bF f hf).mono (szN_le b k)⟩
  rw [if_neg z]
  refine ⟨by rw [List.length_append, List.length_map]; simp; omega, fun g hg => ?_⟩
  have pb := prim_bb z cb'
  have lp : (prim (clr F r)).length = W := (prim_len _).trans c1
  have pp : 0 < vl (prim (clr F r)) (piv (prim (clr F r))) := by rw [prim_piv z]; exact prim_pos z
  have pz : ∀ f ∈ F, vl (prim (clr F r)) (piv f) = 0 := fun f hf => by
    have e := prim_vl z (piv f)
    rw [c2 f hf] at e
    exact (Int.mul_eq_zero.mp e).resolve_left (sgR_ne z)
  have e2 : szN b (k + 1) = szN b k + (b + k * (szN b k + 1)) + 1 := by
    show (k + 1) * (szN b k + 1) + b = _
    rw [Nat.succ_mul]; omega
  rcases List.mem_append.mp hg with hg | hg
  · obtain ⟨f, hf, rfl⟩ := List.mem_map.mp hg
    unfold upR
    by_cases y : vl f (piv (prim (clr F r))) = 0
    · rw [if_pos y]; exact (bF f hf).mono (szN_le b k)
    · rw [if_neg y]
      refine prim_bb (wo_nz ((R.len f hf).trans lp.symm) pp (R.pos f hf) (pz f hf)) ?_
      have w := wo_bb (p := piv (prim (clr F r))) ((R.len f hf).trans lp.symm) pp (bF f hf) pb
      rw [e2]; exact w
  · rw [List.mem_singleton.mp hg, e2]
    exact pb.mono (by omega)
theorem spn_bb {W b : Nat} : ∀ {rows F : List Rw} {k : Nat}, Rref W F → F.length ≤ k → (∀ f ∈ F, Bb (szN b k) f) → (∀ r ∈ rows, r.length = W) → (∀ r ∈ rows, Bb b r) → (rows.foldl stepS F).length ≤ k + rows.length ∧ ∀ f ∈ rows.foldl stepS F, Bb (szN b (k + rows.length)) f
  | [], F, k, _, lF, bF, _, _ => ⟨by simpa using lF, by simpa using bF⟩
  | r :: rows, F, k, R, lF, bF, hl, hb => by
    obtain ⟨s1, s2⟩ := step_bb R (hl r (List.mem_cons_self ..)) lF bF (hb r (List.mem_cons_self ..))
    have w := spn_bb (rows := rows) (k := k + 1) (step_spec R (hl r (List.mem_cons_self ..))).1 s1 s2 (fun q hq => hl q (List.mem_cons_of_mem _ hq)) fun q hq => hb q (List.mem_cons_of_mem _ hq)
    rw [List.length_cons, show k + (rows.length + 1) = k + 1 + rows.length by omega]
    exact w
theorem spn_size {W b : Nat} {rows : List Rw} (hl : ∀ r ∈ rows, r.length = W) (hb : ∀ r ∈ rows, Bb b r) : (spn rows).length ≤ rows.length ∧ ∀ f ∈ spn rows, Bb (szN b rows.length) f := by
  have := spn_bb (rows := rows) (F := []) (k := 0) (rref_nil W) (Nat.le_refl _) (fun f hf => nomatch hf) hl hb
  rw [Nat.zero_add] at this
  exact this
theorem any_allZ (x : Rw) : (x.any fun k => decide (k ≠ 0)) = decide (¬ allZ x) := by
  rw [Bool.eq_iff_iff, List.any_eq_true, decide_eq_true_iff]
  constructor
  · rintro ⟨v, hv, e⟩ z
    exact of_decide_eq_true e (z v hv)
  · intro h
    obtain ⟨h1, h2, _⟩ := piv_spec h
    exact ⟨_, vl_mem h1, decide_eq_true h2⟩
theorem gcdR_take {x : Rw} {i : Nat} {v : Int} (h : x[i]? = some v) : gcdR (x.take (i + 1)) = Nat.gcd (gcdR (x.take i)) v.natAbs := by
  unfold gcdR
  rw [List.take_add_one, h, List.foldl_append]; rfl
end AL
set_option Elab.async false
set_option maxRecDepth 100000
set_option exponentiation.threshold 70000
set_option maxHeartbeats 1000000
namespace AL
open PySem PySem.Spec PyProof.Rows L2 RZ
section
variable {P : Program} {w : World} {K : PySem.W.Frag} {mg : Str → Option Value} {base : Heap}

structure ErH (K : PySem.W.Frag) (mg : Str → Option Value) (CZ CH : Addr) : Prop where
  gcd : mg "gcd" = some (.builtin "math.gcd")
  lcm : mg "lcm" = some (.builtin "math.lcm")
  clZ : Cls K CZ
  zC : NoAttr K CZ "change"
  mZ : mg "Zero" = some (.ref CZ)
  clH : Cls K CH
  hK : NoAttr K CH "kinds"
  hP : NoAttr K CH "powers"
  hG : NoAttr K CH "groups"
  hC : NoAttr K CH "changes"
  mH : mg "Hangs" = some (.ref CH)
  z1 : PySem.W.kitOne K (.ref CZ) (.ref CZ) = some true
  z2 : PySem.W.kitOne K (.ref CH) (.ref CH) = some true
  z3 : PySem.W.kitOne K (.ref CZ) (.ref CH) = some false
  z4 : PySem.W.kitOne K (.ref CH) (.ref CZ) = some false
  c1 : PySem.W.findIn K (.ref CZ) "__class__" = some (some (.builtin "object.__class__"))
  c2 : PySem.W.specialIn K (.builtin "object.__class__") "__get__" = some (some (.builtin "getset_descriptor.__get__"))
  c3 : PySem.W.takesIn K (.builtin "object.__class__") = some true
  c4 : PySem.W.mroIn K CZ (.type "object") = some true
  d1 : PySem.W.findIn K (.ref CH) "__class__" = some (some (.builtin "object.__class__"))
  d4 : PySem.W.mroIn K CH (.type "object") = some true

/-- a def with default values, all of its parameters written -/
structure DefDf (dvs : List V) (K : PySem.W.Frag) (mg : Str → Option Value) (x : Str) (st : Stmt) (ps : List Str) (f : Addr) (fd : FuncData) : Prop where
  F : L2.FunD K x x (defArgs st) (defBody st) (defScope st) dvs [] f fd
  m : mg x = some (.ref f)
  b : Binds K fd ps []
/-- a list of whole numbers -/
def LI (H : Hp) (a : Addr) (xs : List Int) : Prop := H a = some (.lst (xs.map V.int))
theorem LI.same {H H' : Hp} {a : Addr} {xs : List Int} (h : LI H a xs) (s : Same H H') : LI H' a xs := s _ _ h
/-- rows of whole numbers -/
def RowsZ (H : Hp) (w : Addr) (ws : List (List Int)) : Prop := ∃ as : List Addr, H w = some (.lst (as.map V.ref)) ∧ Paired (fun a r => H a = some (.lst (r.map V.int))) as ws

theorem RowsZ.same {H H' : Hp} {w : Addr} {ws : List (List Int)} (h : RowsZ H w ws) (s : Same H H') : RowsZ H' w ws := by
  obtain ⟨as, h1, h2⟩ := h
  exact ⟨as, s _ _ h1, paired_mono h2 fun _ _ z => s _ _ z⟩
/-- whole numbers in a list or a tuple -/
def LT (H : Hp) (a : Addr) (xs : List Int) : Prop := H a = some (.lst (xs.map V.int)) ∨ H a = some (.tup (xs.map V.int))
theorem LT.same {H H' : Hp} {a : Addr} {xs : List Int} (h : LT H a xs) (s : Same H H') : LT H' a xs := h.elim (fun z => .inl (s _ _ z)) fun z => .inr (s _ _ z)
theorem LT.seq {K : PySem.W.Frag} {H : Hp} {a : Addr} {xs : List Int} (h : LT H a xs) : SqL K H a (xs.map V.int) ∨ SqT K H a (xs.map V.int) := h.elim (fun z => .inl (SqL.of z)) fun z => .inr (SqT.of z)
theorem LT.sqb {K : PySem.W.Frag} {H : Hp} {a : Addr} {xs : List Int} (h : LT H a xs) : ∃ k, SqB K H a (xs.map V.int) k := h.elim (fun z => ⟨true, SqL.of z⟩) fun z => ⟨false, SqT.of z⟩
/-- rows, each in a list or a tuple -/
def RowsT (H : Hp) (w : Addr) (ws : List (List Int)) : Prop := ∃ as : List Addr, H w = some (.lst (as.map V.ref)) ∧ Paired (fun a r => LT H a r) as ws
theorem RowsT.same {H H' : Hp} {w : Addr} {ws : List (List Int)} (h : RowsT H w ws) (s : Same H H') : RowsT H' w ws := by
  obtain ⟨as, h1, h2⟩ := h
  exact ⟨as, s _ _ h1, paired_mono h2 fun _ _ z => z.same s⟩
theorem RowsZ.toT {H : Hp} {w : Addr} {ws : List (List Int)} (h : RowsZ H w ws) : RowsT H w ws := by
  obtain ⟨as, h1, h2⟩ := h
  exact ⟨as, h1, paired_mono h2 fun _ _ z => .inl z⟩
/-- below 2 ^ b -/
def Bd (b : Nat) (x : Rw) : Prop := ∀ v ∈ x, v.natAbs < 2 ^ b
theorem Bd.mono {b c : Nat} {x : Rw} (h : Bd b x) (le : b ≤ c) : Bd c x := fun v hv => Nat.lt_of_lt_of_le (h v hv) (Nat.pow_le_pow_right (by decide) le)
theorem Bd.vl {b : Nat} {x : Rw} (h : Bd b x) (j : Nat) : (vl x j).natAbs < 2 ^ b := by
  by_cases hj : j < x.length
  · exact h _ (vl_mem hj)
  · rw [vl_out (by omega)]; exact Nat.two_pow_pos b
theorem Bd.of {b : Nat} {x : Rw} (h : ∀ j, (AL.vl x j).natAbs < 2 ^ b) : Bd b x := fun v hv => by
  obtain ⟨j, hj⟩ := List.mem_iff_getElem?.mp hv
  rw [← vl_get hj]; exact h j
def rLenK (K : PySem.W.Frag) : List V → Hp → VK → Prop := fun xs H Q => ∃ p ys, xs = [V.ref p] ∧ (SqL K H p ys ∨ SqT K H p ys) ∧ Q (V.int (ys.length : Nat)) H
theorem call_lenK {X : Cx} : CallR X (.builtin "len") (rLenK X.K) := call_len_seq
def rTup (K : PySem.W.Frag) : List V → Hp → VK → Prop := fun xs H Q => ∃ p ys, xs = [V.ref p] ∧ ((SqL K H p ys ∧ ∀ l, H l = none → Q (.ref l) (upd H l (.tup ys))) ∨ (SqT K H p ys ∧ Q (.ref p) H))
theorem call_tupK {X : Cx} : CallR X (.type "tuple") (rTup X.K) := call_tuple_of
/-- pivot_of(row) -/
def spPv : Sp := fun vs H Q _ => ∃ (a : Addr) (xs : Rw), vs = [.ref a] ∧ LI H a xs ∧ ∀ H', Same H H' → Q (.int (piv xs : Int)) H'
/-- combined(many, one, times, other) -/
def spCm : Sp := fun vs H Q _ => ∃ (m t : Int) (a b : Addr) (xs ys : Rw), vs = [.int m, .ref a, .int t, .ref b] ∧ LI H a xs ∧ LI H b ys ∧ xs.length = ys.length ∧ xs.length ≤ 200 ∧ m.natAbs < 2 ^ 13000 ∧ t.natAbs < 2 ^ 13000 ∧ Bd 13000 xs ∧ Bd 13000 ys ∧
  ∀ D H', H D = none → Same H H' → LI H' D (comb m xs t ys) → Q (.ref D) H'
theorem piv_le : ∀ x : Rw, piv x ≤ x.length
  | [] => Nat.le_refl _
  | a :: r => by
    unfold piv
    have := piv_le r
    rw [List.length_cons]
    split <;> omega
theorem wmul {i j : Int} (h1 : i.natAbs < 2 ^ 13000) (h2 : j.natAbs < 2 ^ 13000) : CMulW i j := wide_mul h1 h2 (by decide) (by decide) (by decide)

abbrev stpivot_of : Stmt := top 2
theorem scpivot_of : FnScope ["row", "at", "item"] ["row"] (defScope stpivot_of) := ⟨rfl, rfl, rfl, by decide +kernel, rfl, by decide +kernel, by decide +kernel⟩
theorem okpivot_of (B : Blt mg)  {fpivot_of : Addr} {fdpivot_of : FuncData} (Dpivot_of : DefAt K mg "pivot_of" stpivot_of ["row"] fpivot_of fdpivot_of) : FnOk P w K mg base CX0 1 fpivot_of fdpivot_of ["row"] spPv := by
  refine Dpivot_of.F.ok scpivot_of (fun vs H Q E h => ?_) (fun cdv A outer s H vs Q E hr h => ?_)
  · obtain ⟨a, xs, rfl, _⟩ := h; rfl
  · have hu := hu_of hr
    refine ⟨_, (pss_cons (ps_for PassesOwn.never rfl (pi_enum (by rfl) B.enumerate_ (pa_cons (pv 0) pa_nil)) (pg_tup rfl (pgs_cons (pg_name (i := 1) scpivot_of.nd rfl (Or.inl rfl)) (pgs_cons (pg_name (i := 2) scpivot_of.nd rfl (Or.inl rfl)) pgs_nil)))
      (pss_one (ps_if (pt_cmpR op_ne (pv 2) pe_int (nomark _)) (pss_one (ps_ret (pv 1))) pss_nil)))
    (pss_one (ps_ret (pe_callB call_len_seq (by rfl) B.len_ (by decide +kernel) (pa_cons (pv 0) pa_nil))))), ?_⟩
    obtain ⟨a, xs, rfl, ha, q⟩ := h
    refine ⟨_, rfl, a, _, rfl, SqL.of ha, for_it (walk_enum (K := K) (a := a) (xs := xs.map V.int)) (fun i σ H' => ∃ v1 v2 : Option V, σ = [some (.ref a), v1, v2] ∧ Same H H' ∧ ∀ j, j < i → vl xs j = 0) ⟨none, none, rfl, (fun _ _ h => h), fun j hj => by omega⟩ (fun i σ H' _ hh => by obtain ⟨_, _, _, s, _⟩ := hh; exact SqL.of (s _ _ ha)) ?_ ?_⟩
    · rintro i x σ H0 H1 hi ⟨v1, v2, rfl, s0, z⟩ ⟨T0, u1, u2, rfl, hT0, rfl, e1, e2⟩
      cases e1
      obtain ⟨k, hk, rfl⟩ := map_int e2
      have ek := vl_get hk
      have sT : Same H (upd H0 T0 (.tup [.int (i : Int), .int k])) := s0.trans (AL.Same.new hT0)
      refine ⟨T0, _, rfl, SqT.of upd_same, rfl, _, _, rfl, _, _, rfl, rfl, ?_⟩
      refine ⟨_, rfl, rfl, _, rfl, ?_⟩
      by_cases k0 : k = 0
      · rw [show (!decide (V.int k = V.int 0)) = false by rw [k0, decide_eq_true rfl]; rfl]
        refine iteF ?_
        refine ⟨_, _, rfl, sT, fun j hj => ?_⟩
        by_cases e : j = i
        · rw [e, ek, k0]
        · exact z j (by omega)
      · rw [show (!decide (V.int k = V.int 0)) = true by rw [decide_eq_false (fun w => k0 (by injection w))]; rfl]
        refine iteT ?_
        have pe : piv xs = i := piv_is (by rw [ek]; exact k0) z
        have qq := q _ sT
        rw [pe] at qq
        exact ⟨_, rfl, qq⟩
    · rintro σ H1 ⟨v1, v2, rfl, s1, z⟩
      rw [List.length_map] at z
      have az : allZ xs := fun v hv => by
        obtain ⟨j, hj⟩ := List.mem_iff_getElem?.mp hv
        rw [← vl_get hj]
        exact z j (List.getElem?_eq_some_iff.mp hj).1
      refine ⟨_, rfl, a, _, rfl, .inl (SqL.of (s1 _ _ ha)), ?_⟩
      rw [List.length_map, ← piv_zero az]
      exact q _ s1
abbrev stcombined : Stmt := top 3
theorem sccombined : FnScope ["many", "one", "times", "other", "a", "b"] ["many", "one", "times", "other"] (defScope stcombined) := ⟨rfl, rfl, rfl, by decide +kernel, rfl, by decide +kernel, by decide +kernel⟩
theorem okcombined (B : Blt mg)  {fcombined : Addr} {fdcombined : FuncData} (Dcombined : DefAt K mg "combined" stcombined ["many", "one", "times", "other"] fcombined fdcombined) : FnOk P w K mg base CX0 1 fcombined fdcombined ["many", "one", "times", "other"] spCm := by
  refine Dcombined.F.ok sccombined (fun vs H Q E h => ?_) (fun cdv A outer s H vs Q E hr h => ?_)
  · obtain ⟨m, t, a, b, xs, ys, rfl, _⟩ := h; rfl
  · have hu := hu_of hr
    refine ⟨_, (pss_one (ps_ret (pe_lc (own := [("a", 4), ("b", 5)]) (g := (gTup K 2 (gCons (gName 4) (gCons (gName 5) gNil)))) (tt := tYes) rfl sccombined.nd (pi_zip (by rfl) B.zip_ (pa_cons (pv 1) (pa_cons (pv 3) pa_nil))) (blkOk_by (own := [("a", 4), ("b", 5)]) (N := ["many", "one", "times", "other", "a", "b"]) (sc := defScope stcombined) (by decide +kernel)) (fun _ _ _ _ _ => (pg_tup rfl (pgs_cons (pg_name (i := 4) sccombined.nd rfl (Or.inl rfl)) (pgs_cons (pg_name (i := 5) sccombined.nd rfl (Or.inl rfl)) pgs_nil)))) (fun _ _ _ _ _ => pts_nil) (fun _ _ _ _ _ => (pe_op op_add (pe_op op_mulW (pv 0) (pv 4)) (pe_op op_mulW (pv 2) (pv 5))))))), ?_⟩
    obtain ⟨m, t, a, b, xs, ys, rfl, ha, hb, hl, l2, bm, bt, bx, by_, q⟩ := h
    refine ⟨_, rfl, _, rfl, a, b, _, _, rfl, SqL.of ha, SqL.of hb, fun D hD => ?_⟩
    refine lc_it (walk_zip (K := K) (a := a) (b := b) (xs := xs.map V.int) (ys := ys.map V.int) (n := xs.length) (by rw [List.length_map, List.length_map]; omega)) (fun i H' => Same H H' ∧ H' D = some (.lst (((comb m xs t ys).take i).map V.int))) ⟨AL.Same.new hD, upd_same⟩ (fun i H' _ hh => ⟨SqL.of (hh.1 _ _ ha), SqL.of (hh.1 _ _ hb)⟩) ?_ ?_
    · rintro i x0 H0 H1' hi ⟨s0, hd0⟩ ⟨T0, u1, u2, rfl, hT, rfl, e1, e2⟩
      obtain ⟨z1, c1, rfl⟩ := map_int e1
      obtain ⟨z2, c2, rfl⟩ := map_int e2
      have hDT : D ≠ T0 := fun z => by rw [z, hT] at hd0; cases hd0
      have sT : Same H (upd H0 T0 (.tup [.int z1, .int z2])) := s0.trans (AL.Same.new hT)
      refine ⟨T0, _, rfl, SqT.of upd_same, rfl, _, _, rfl, _, _, rfl, rfl, rfl, ?_⟩
      refine ⟨_, rfl, _, rfl, _, _, rfl, rfl, wmul bm (bx _ (List.mem_of_getElem? c1)), _, rfl, _, rfl, _, _, rfl, rfl, wmul bt (by_ _ (List.mem_of_getElem? c2)), _, _, rfl, rfl, _, Eq.trans (upd_ne hDT) hd0, ?_, AL.Same.updn sT hD, ?_⟩
      · rw [List.length_map, List.length_take]
        exact Nat.lt_of_le_of_lt (by omega : _ ≤ 1000) (by decide)
      · have g : (comb m xs t ys)[i]? = some (m * z1 + t * z2) := by unfold comb; rw [List.getElem?_zipWith, c1, c2]
        rw [upd_same, List.take_add_one, g, List.map_append]
        rfl
    · rintro H3 ⟨s3, hd3⟩
      rw [List.take_of_length_le (by rw [comb_len hl]; exact Nat.le_refl _)] at hd3
      exact q D H3 hD s3 hd3
end
end AL
set_option Elab.async false
set_option maxRecDepth 100000
set_option exponentiation.threshold 70000
set_option maxHeartbeats 1000000
namespace AL
open PySem PySem.Spec PyProof.Rows L2 RZ
section
variable {P : Program} {w : World} {K : PySem.W.Frag} {mg : Str → Option Value} {base : Heap}

def unitR (n j : Nat) : Rw := (List.range n).map fun k => if k = j then 1 else 0
def idM (n : Nat) : List Rw := (List.range n).map (unitR n)
def trM (n : Nat) (rows : List Rw) : List Rw := (List.range n).map fun j => rows.map fun r => vl r j
/-- identity(many) -/
def spId : Sp := fun vs H Q _ => ∃ (n : Nat), vs = [.int (n : Int)] ∧ n ≤ 100 ∧ ∀ D H', H D = none → Same H H' → RowsZ H' D (idM n) → Q (.ref D) H'
/-- transposed(rows) -/
def spTr : Sp := fun vs H Q _ => ∃ (w : Addr) (n : Nat) (rows : List Rw), vs = [.ref w] ∧ RowsT H w rows ∧ rows ≠ [] ∧ (∀ r ∈ rows, r.length = n) ∧ n ≤ 100 ∧ rows.length ≤ 100 ∧ ∀ D H', H D = none → Same H H' → RowsZ H' D (trM n rows) → Q (.ref D) H'
/-- rows in a list or a tuple, rows of either kind -/
def RowsA (H : Hp) (w : Addr) (ws : List Rw) : Prop := ∃ as : List Addr, (H w = some (.lst (as.map V.ref)) ∨ H w = some (.tup (as.map V.ref))) ∧ Paired (fun a r => LT H a r) as ws
theorem RowsT.toA {H : Hp} {w : Addr} {ws : List Rw} (h : RowsT H w ws) : RowsA H w ws := by
  obtain ⟨as, h1, h2⟩ := h
  exact ⟨as, .inl h1, h2⟩
/-- transposed(rows) -/
def spTrA : Sp := fun vs H Q _ => ∃ (w : Addr) (n : Nat) (rows : List Rw), vs = [.ref w] ∧ RowsA H w rows ∧ rows ≠ [] ∧ (∀ r ∈ rows, r.length = n) ∧ n ≤ 100 ∧ rows.length ≤ 100 ∧ ∀ D H', H D = none → Same H H' → RowsZ H' D (trM n rows) → Q (.ref D) H'
theorem sq_of0 {K : PySem.W.Frag} {H : Hp} {a : Addr} {us : List V} (h : H a = some (.lst us) ∨ H a = some (.tup us)) : ∃ k, ∀ H', Same H H' → SqB K H' a us k := by
  rcases h with h | h
  · exact ⟨true, fun H' s => SqL.of (s _ _ h)⟩
  · exact ⟨false, fun H' s => SqT.of (s _ _ h)⟩
theorem rIx_seq0 {K : PySem.W.Frag} {H : Hp} {a : Addr} {xs : List V} {i : Int} {v : V} {Q : VK} (h : H a = some (.lst xs) ∨ H a = some (.tup xs)) (g : atI xs i = some v) (q : Q v H) : rIx K (.ref a) (.int i) H Q := by
  rcases h with h | h
  · exact .inl ⟨a, _, _, _, rfl, rfl, SqL.of h, g, q⟩
  · exact .inr (.inl ⟨a, _, _, _, rfl, rfl, SqT.of h, g, q⟩)
theorem atI_of {xs : List V} {j : Nat} (h : j < xs.length) : atI xs ((j : Nat) : Int) = xs[j]? := by
  unfold atI ixN
  rw [if_pos (by omega), if_pos (by omega)]
  show xs[((j : Int)).toNat]? = _
  rw [Int.toNat_natCast]
theorem unitR_len (n j : Nat) : (unitR n j).length = n := by unfold unitR; rw [List.length_map, List.length_range]
theorem trM_len (n : Nat) (rows : List Rw) : (trM n rows).length = n := by unfold trM; rw [List.length_map, List.length_range]
theorem idM_len (n : Nat) : (idM n).length = n := by unfold idM; rw [List.length_map, List.length_range]
theorem rowsZ_snoc {H : Hp} {D : Addr} {as : List Addr} {rs : List Rw} {b : Addr} {r : Rw} (h : H D = some (.lst (as.map V.ref))) (pr : Paired (fun a r => a ≠ D ∧ H a = some (.lst (r.map V.int))) as rs) (bD : b ≠ D) (hb : H b = some (.lst (r.map V.int))) :
    upd H D (.lst (as.map V.ref ++ [.ref b])) D = some (.lst ((as ++ [b]).map V.ref)) ∧ Paired (fun a r => a ≠ D ∧ upd H D (.lst (as.map V.ref ++ [.ref b])) a = some (.lst (r.map V.int))) (as ++ [b]) (rs ++ [r]) :=
  ⟨by rw [upd_same, List.map_append]; rfl, prd_snoc (paired_mono pr fun a r z => ⟨z.1, by rw [upd_ne z.1]; exact z.2⟩) ⟨bD, by rw [upd_ne bD]; exact hb⟩⟩

abbrev stidentity : Stmt := top 4
theorem scidentity : FnScope ["many", "row", "at"] ["many"] (defScope stidentity) := ⟨rfl, rfl, rfl, by decide +kernel, rfl, by decide +kernel, by decide +kernel⟩
theorem okidentity (B : Blt mg)  {fidentity : Addr} {fdidentity : FuncData} (Didentity : DefAt K mg "identity" stidentity ["many"] fidentity fdidentity) : FnOk P w K mg base CX0 1 fidentity fdidentity ["many"] spId := by
  refine Didentity.F.ok scidentity (fun vs H Q E h => ?_) (fun cdv A outer s H vs Q E hr h => ?_)
  · obtain ⟨n, rfl, _⟩ := h; rfl
  · have hu := hu_of hr
    refine ⟨_, (pss_one (ps_ret (pe_lc (own := [("row", 1)]) (g := gName 1) (tt := tYes) rfl scidentity.nd (pi_range1 rfl B.range_ (pa_cons (pv 0) pa_nil)) (blkOk_by (own := [("row", 1)]) (N := ["many", "row", "at"]) (by kernel_rfl)) (fun _ _ _ _ _ => (pg_name (i := 1) scidentity.nd rfl (Or.inr rfl))) (fun _ _ _ _ _ => pts_nil) (fun _ _ _ _ _ => (pe_lc (own := [("at", 2)]) (g := gName 2) (tt := tYes) rfl scidentity.nd (pi_range1 rfl B.range_ (pa_cons (pv 0) pa_nil)) (blkOk_by (own := [("at", 2)]) (N := ["many", "row", "at"]) (by kernel_rfl)) (fun _ _ _ _ _ => (pg_name (i := 2) scidentity.nd rfl (Or.inl rfl))) (fun _ _ _ _ _ => pts_nil) (fun _ _ _ _ _ => (pe_ifExp (pt_cmpR op_eq (pv 2) (pv 1) (nomark _)) pe_int pe_int))))))), ?_⟩
    obtain ⟨n, rfl, hn, q⟩ := h
    refine ⟨_, rfl, _, rfl, by omega, by omega, fun D hD => ?_⟩
    refine lc_range (lo := 0) (n := ((n : Int)).toNat) (fun i H' => Same H H' ∧ ∃ as : List Addr, H' D = some (.lst (as.map V.ref)) ∧ Paired (fun a r => a ≠ D ∧ H' a = some (.lst (r.map V.int))) as ((idM n).take i)) ⟨AL.Same.new hD, [], upd_same, .nil⟩ ?_ ?_
    · rintro i H1 hi ⟨s1, as, hd, pr⟩
      rw [Int.toNat_natCast] at hi
      refine ⟨rfl, ?_⟩
      refine ⟨_, rfl, _, rfl, by omega, by omega, fun D2 hD2 => ?_⟩
      refine lc_range (lo := 0) (n := ((n : Int)).toNat) (fun j H' => Same H1 H' ∧ H' D2 = some (.lst (((unitR n i).take j).map V.int))) ⟨AL.Same.new hD2, upd_same⟩ ?_ ?_
      · rintro j H2 hj ⟨s2, hd2⟩
        rw [Int.toNat_natCast] at hj
        refine ⟨rfl, ?_⟩
        have g : (unitR n i)[j]? = some (if j = i then 1 else 0) := by unfold unitR; rw [List.getElem?_map, List.getElem?_range hj]; rfl
        have put : ∀ v : Int, v = (if j = i then 1 else 0) → ∃ acc, H2 D2 = some (.lst acc) ∧ acc.length < sizeLine ∧ Same H1 (upd H2 D2 (.lst (acc ++ [.int v]))) ∧ upd H2 D2 (.lst (acc ++ [.int v])) D2 = some (.lst (((unitR n i).take (j + 1)).map V.int)) := fun v hv => by
          refine ⟨_, hd2, ?_, AL.Same.updn s2 hD2, ?_⟩
          · rw [List.length_map, List.length_take]; exact Nat.lt_of_le_of_lt (by omega : _ ≤ 1000) (by decide)
          · rw [upd_same, List.take_add_one, g, hv, List.map_append]; rfl
        refine ⟨_, rfl, _, rfl, rfl, _, rfl, ?_⟩
        by_cases e : j = i
        · rw [decide_eq_true (by rw [e])]
          refine iteT ?_
          exact put _ (by rw [if_pos e])
        · rw [decide_eq_false (fun z => e (by injection z with z; omega))]
          refine iteF ?_
          exact put _ (by rw [if_neg e])
      · rintro H2 ⟨s2, hd2⟩
        rw [List.take_of_length_le (by rw [unitR_len, Int.toNat_natCast]; exact Nat.le_refl _)] at hd2
        have bD : D2 ≠ D := fun z => by rw [z, hd] at hD2; cases hD2
        have la := prd_len pr
        rw [List.length_take] at la
        obtain ⟨r1, r2⟩ := rowsZ_snoc (s2 _ _ hd) (paired_mono pr fun _ _ z => ⟨z.1, s2 _ _ z.2⟩) bD hd2
        refine ⟨_, s2 _ _ hd, ?_, AL.Same.updn (s1.trans s2) hD, as ++ [D2], r1, ?_⟩
        · rw [List.length_map]; exact Nat.lt_of_le_of_lt (by omega : _ ≤ 1000) (by decide)
        · have g : (idM n)[i]? = some (unitR n i) := by unfold idM; rw [List.getElem?_map, List.getElem?_range hi]; rfl
          rw [List.take_add_one, g]
          exact r2
    rintro H1 ⟨s1, as, hd, pr⟩
    rw [Int.toNat_natCast, List.take_of_length_le (by rw [idM_len]; exact Nat.le_refl _)] at pr
    exact q D H1 hD s1 ⟨as, hd, paired_mono pr fun _ _ z => z.2⟩
abbrev sttransposed : Stmt := top 5
theorem sctransposed : FnScope ["rows", "at", "row"] ["rows"] (defScope sttransposed) := ⟨rfl, rfl, rfl, by decide +kernel, rfl, by decide +kernel, by decide +kernel⟩
theorem oktransposed (B : Blt mg)  {ftransposed : Addr} {fdtransposed : FuncData} (Dtransposed : DefAt K mg "transposed" sttransposed ["rows"] ftransposed fdtransposed) : FnOk P w K mg base CX0 1 ftransposed fdtransposed ["rows"] spTrA := by
  refine Dtransposed.F.ok sctransposed (fun vs H Q E h => ?_) (fun cdv A outer s H vs Q E hr h => ?_)
  · obtain ⟨w, n, rows, rfl, _⟩ := h; rfl
  · have hu := hu_of hr
    refine ⟨_, (pss_one (ps_ret (pe_lc (own := [("at", 1)]) (g := gName 1) (tt := tYes) rfl sctransposed.nd (pi_range1 rfl B.range_ (pa_cons (pe_callB (call_lenK : CallR _ (.builtin "len") (rLenK K)) (by rfl) B.len_ (by decide +kernel) (pa_cons (pe_ix (ix_seq : IxR _ (rIx K)) (pv 0) pe_int (fun _ _ => rfl)) pa_nil)) pa_nil)) (blkOk_by (own := [("at", 1)]) (N := ["rows", "at", "row"]) (by kernel_rfl)) (fun _ _ _ _ _ => (pg_name (i := 1) sctransposed.nd rfl (Or.inr rfl))) (fun _ _ _ _ _ => pts_nil) (fun _ _ _ _ _ => (pe_lc (own := [("row", 2)]) (g := gName 2) (tt := tYes) rfl sctransposed.nd (pi_seq (pv 0) : PI _ _ _ (iSeq K (tVar 0))) (blkOk_by (own := [("row", 2)]) (N := ["rows", "at", "row"]) (by kernel_rfl)) (fun _ _ _ _ _ => (pg_name (i := 2) sctransposed.nd rfl (Or.inl rfl))) (fun _ _ _ _ _ => pts_nil) (fun _ _ _ _ _ => (pe_ix (ix_seq : IxR _ (rIx K)) (pv 2) (pv 1) (fun _ _ => rfl)))))))), ?_⟩
    obtain ⟨w, n, rows, rfl, hw, ne, hl, hn, hm, q⟩ := h
    obtain ⟨as, W1, W2⟩ := hw
    obtain ⟨k, sq⟩ := sq_of0 (K := K) W1
    have la := prd_len W2
    obtain ⟨r0, rows', rfl⟩ : ∃ r0 rows', rows = r0 :: rows' := by
      cases rows with
      | nil => exact absurd rfl ne
      | cons r0 rows' => exact ⟨r0, rows', rfl⟩
    obtain ⟨a0, as', rfl⟩ : ∃ a0 as', as = a0 :: as' := by
      cases as with
      | nil => simp at la
      | cons a0 as' => exact ⟨a0, as', rfl⟩
    have h0 : LT H a0 r0 := by cases W2 with | cons z _ => exact z
    have l0 := hl r0 (List.mem_cons_self ..)
    generalize hRows : r0 :: rows' = rows at *
    have g0 : atI ((a0 :: as').map V.ref) 0 = some (.ref a0) := atI_of (by rw [List.length_map, List.length_cons]; omega : 0 < _)
    refine ⟨_, rfl, rIx_seq0 W1 g0 ?_⟩
    refine ⟨a0, _, rfl, h0.seq, _, rfl, by omega, by rw [List.length_map]; omega, fun D hD => ?_⟩
    refine lc_range (lo := 0) (n := (((r0.map V.int).length : Int)).toNat) (fun i H' => Same H H' ∧ ∃ bs : List Addr, H' D = some (.lst (bs.map V.ref)) ∧ Paired (fun a r => a ≠ D ∧ H' a = some (.lst (r.map V.int))) bs ((trM n rows).take i)) ⟨AL.Same.new hD, [], upd_same, .nil⟩ ?_ ?_
    · rintro i H1 hi ⟨s1, bs, hd, pr⟩
      rw [Int.toNat_natCast, List.length_map, l0] at hi
      refine ⟨rfl, ?_⟩
      refine ⟨_, rfl, w, k, rfl, ⟨_, sq _ s1⟩, fun D2 hD2 => ?_⟩
      refine lc_seq (K := K) (a := w) (k := k) (xs := (a0 :: as').map V.ref) (fun j H' => Same H1 H' ∧ H' D2 = some (.lst (((rows.map fun r => vl r i).take j).map V.int))) ⟨AL.Same.new hD2, upd_same⟩ (fun i H' _ hh => sq _ (s1.trans hh.1)) ?_ ?_
      · rintro j x H2 hx ⟨s2, hd2⟩
        obtain ⟨a, ha, rfl⟩ := map_ref hx
        obtain ⟨r, hr, hra⟩ := prd_get W2 ha
        have lr := hl r (List.mem_of_getElem? hr)
        have jl := (List.getElem?_eq_some_iff.mp hr).1
        refine ⟨rfl, ?_⟩
        have z0 : (0 : Int) + (i : Int) = ((i : Nat) : Int) := Int.zero_add _
        have gi : atI (r.map V.int) ((0 : Int) + (i : Int)) = some (.int (vl r i)) := by rw [z0, atI_of (by rw [List.length_map]; omega), List.getElem?_map, vl_at (by omega : i < r.length)]; rfl
        have fin : ∃ acc, H2 D2 = some (.lst acc) ∧ acc.length < sizeLine ∧ Same H1 (upd H2 D2 (.lst (acc ++ [.int (vl r i)]))) ∧ upd H2 D2 (.lst (acc ++ [.int (vl r i)])) D2 = some (.lst (((rows.map fun r => vl r i).take (j + 1)).map V.int)) := by
          refine ⟨_, hd2, ?_, AL.Same.updn s2 hD2, ?_⟩
          · rw [List.length_map, List.length_take, List.length_map]; exact Nat.lt_of_le_of_lt (by omega : _ ≤ 1000) (by decide)
          · have g : (rows.map fun r => vl r i)[j]? = some (vl r i) := by rw [List.getElem?_map, hr]; rfl
            rw [upd_same, List.take_add_one, g, List.map_append]; rfl
        refine ⟨_, rfl, _, rfl, ?_⟩
        rcases (hra.same (s1.trans s2)).seq (K := K) with hq | hq
        · exact .inl ⟨a, _, _, _, rfl, rfl, hq, gi, fin⟩
        · exact .inr (.inl ⟨a, _, _, _, rfl, rfl, hq, gi, fin⟩)
      · rintro H2 ⟨s2, hd2⟩
        rw [List.take_of_length_le (by rw [List.length_map, List.length_map]; omega)] at hd2
        have bD : D2 ≠ D := fun z => by rw [z, hd] at hD2; cases hD2
        have lb := prd_len pr
        rw [List.length_take, trM_len] at lb
        obtain ⟨r1, r2⟩ := rowsZ_snoc (s2 _ _ hd) (paired_mono pr fun _ _ z => ⟨z.1, s2 _ _ z.2⟩) bD hd2
        refine ⟨_, s2 _ _ hd, ?_, AL.Same.updn (s1.trans s2) hD, bs ++ [D2], r1, ?_⟩
        · rw [List.length_map]; exact Nat.lt_of_le_of_lt (by omega : _ ≤ 1000) (by decide)
        · have g : (trM n rows)[i]? = some (rows.map fun r => vl r i) := by unfold trM; rw [List.getElem?_map, List.getElem?_range hi]; rfl
          rw [List.take_add_one, g]
          exact r2
    rintro H1 ⟨s1, bs, hd, pr⟩
    rw [List.take_of_length_le (by rw [trM_len, Int.toNat_natCast, List.length_map, l0]; exact Nat.le_refl _)] at pr
    exact q D H1 hD s1 ⟨bs, hd, paired_mono pr fun _ _ z => z.2⟩
abbrev st_law_turned : Stmt := top 40
theorem sc_law_turned : FnScope ["_law_rows", "_law_k", "_law_row"] ["_law_rows"] (defScope st_law_turned) := ⟨rfl, rfl, rfl, by decide +kernel, rfl, by decide +kernel, by decide +kernel⟩
theorem ok_law_turned (B : Blt mg)  {f_law_turned : Addr} {fd_law_turned : FuncData} (D_law_turned : DefAt K mg "_law_turned" st_law_turned ["_law_rows"] f_law_turned fd_law_turned) : FnOk P w K mg base CX0 1 f_law_turned fd_law_turned ["_law_rows"] spTr := by
  refine D_law_turned.F.ok sc_law_turned (fun vs H Q E h => ?_) (fun cdv A outer s H vs Q E hr h => ?_)
  · obtain ⟨w, n, rows, rfl, _⟩ := h; rfl
  · have hu := hu_of hr
    refine ⟨_, (pss_one (ps_ret (pe_lc (own := [("_law_k", 1)]) (g := gName 1) (tt := tYes) rfl sc_law_turned.nd (pi_range1 rfl B.range_ (pa_cons (pe_callB (call_lenK : CallR _ (.builtin "len") (rLenK K)) (by rfl) B.len_ (by decide +kernel) (pa_cons (pe_ix (ix_list : IxR _ (rIxL K)) (pv 0) pe_int (fun _ _ => rfl)) pa_nil)) pa_nil)) (blkOk_by (own := [("_law_k", 1)]) (N := ["_law_rows", "_law_k", "_law_row"]) (by kernel_rfl)) (fun _ _ _ _ _ => (pg_name (i := 1) sc_law_turned.nd rfl (Or.inr rfl))) (fun _ _ _ _ _ => pts_nil) (fun _ _ _ _ _ => (pe_lc (own := [("_law_row", 2)]) (g := gName 2) (tt := tYes) rfl sc_law_turned.nd (pi_list (pv 0) : PI _ _ _ (iList K (tVar 0))) (blkOk_by (own := [("_law_row", 2)]) (N := ["_law_rows", "_law_k", "_law_row"]) (by kernel_rfl)) (fun _ _ _ _ _ => (pg_name (i := 2) sc_law_turned.nd rfl (Or.inl rfl))) (fun _ _ _ _ _ => pts_nil) (fun _ _ _ _ _ => (pe_ix (ix_seq : IxR _ (rIx K)) (pv 2) (pv 1) (fun _ _ => rfl)))))))), ?_⟩
    obtain ⟨w, n, rows, rfl, hw, ne, hl, hn, hm, q⟩ := h
    obtain ⟨as, W1, W2⟩ := hw
    have la := prd_len W2
    obtain ⟨r0, rows', rfl⟩ : ∃ r0 rows', rows = r0 :: rows' := by
      cases rows with
      | nil => exact absurd rfl ne
      | cons r0 rows' => exact ⟨r0, rows', rfl⟩
    obtain ⟨a0, as', rfl⟩ : ∃ a0 as', as = a0 :: as' := by
      cases as with
      | nil => simp at la
      | cons a0 as' => exact ⟨a0, as', rfl⟩
    have h0 : LT H a0 r0 := by cases W2 with | cons z _ => exact z
    have l0 := hl r0 (List.mem_cons_self ..)
    generalize hRows : r0 :: rows' = rows at *
    refine ⟨_, rfl, w, _, _, _, rfl, rfl, SqL.of W1, atI_of (by rw [List.length_map, List.length_cons]; omega : 0 < _), a0, _, rfl, h0.seq, _, rfl, by omega, by rw [List.length_map]; omega, fun D hD => ?_⟩
    refine lc_range (lo := 0) (n := (((r0.map V.int).length : Int)).toNat) (fun i H' => Same H H' ∧ ∃ bs : List Addr, H' D = some (.lst (bs.map V.ref)) ∧ Paired (fun a r => a ≠ D ∧ H' a = some (.lst (r.map V.int))) bs ((trM n rows).take i)) ⟨AL.Same.new hD, [], upd_same, .nil⟩ ?_ ?_
    · rintro i H1 hi ⟨s1, bs, hd, pr⟩
      rw [Int.toNat_natCast, List.length_map, l0] at hi
      refine ⟨rfl, ?_⟩
      refine ⟨_, rfl, w, rfl, ⟨_, SqL.of (s1 _ _ W1)⟩, fun D2 hD2 => ?_⟩
      refine lc_list (K := K) (a := w) (xs := (a0 :: as').map V.ref) (fun j H' => Same H1 H' ∧ H' D2 = some (.lst (((rows.map fun r => vl r i).take j).map V.int))) ⟨AL.Same.new hD2, upd_same⟩ (fun i H' _ hh => SqL.of (hh.1 _ _ (s1 _ _ W1))) ?_ ?_
      · rintro j x H2 hx ⟨s2, hd2⟩
        obtain ⟨a, ha, rfl⟩ := map_ref hx
        obtain ⟨r, hr, hra⟩ := prd_get W2 ha
        have lr := hl r (List.mem_of_getElem? hr)
        have jl := (List.getElem?_eq_some_iff.mp hr).1
        refine ⟨rfl, ?_⟩
        have z0 : (0 : Int) + (i : Int) = ((i : Nat) : Int) := Int.zero_add _
        have gi : atI (r.map V.int) ((0 : Int) + (i : Int)) = some (.int (vl r i)) := by rw [z0, atI_of (by rw [List.length_map]; omega), List.getElem?_map, vl_at (by omega : i < r.length)]; rfl
        have fin : ∃ acc, H2 D2 = some (.lst acc) ∧ acc.length < sizeLine ∧ Same H1 (upd H2 D2 (.lst (acc ++ [.int (vl r i)]))) ∧ upd H2 D2 (.lst (acc ++ [.int (vl r i)])) D2 = some (.lst (((rows.map fun r => vl r i).take (j + 1)).map V.int)) := by
          refine ⟨_, hd2, ?_, AL.Same.updn s2 hD2, ?_⟩
          · rw [List.length_map, List.length_take, List.length_map]; exact Nat.lt_of_le_of_lt (by omega : _ ≤ 1000) (by decide)
          · have g : (rows.map fun r => vl r i)[j]? = some (vl r i) := by rw [List.getElem?_map, hr]; rfl
            rw [upd_same, List.take_add_one, g, List.map_append]; rfl
        refine ⟨_, rfl, _, rfl, ?_⟩
        rcases (hra.same (s1.trans s2)).seq (K := K) with hq | hq
        · exact .inl ⟨a, _, _, _, rfl, rfl, hq, gi, fin⟩
        · exact .inr (.inl ⟨a, _, _, _, rfl, rfl, hq, gi, fin⟩)
      · rintro H2 ⟨s2, hd2⟩
        rw [List.take_of_length_le (by rw [List.length_map, List.length_map]; omega)] at hd2
        have bD : D2 ≠ D := fun z => by rw [z, hd] at hD2; cases hD2
        have lb := prd_len pr
        rw [List.length_take, trM_len] at lb
        obtain ⟨r1, r2⟩ := rowsZ_snoc (s2 _ _ hd) (paired_mono pr fun _ _ z => ⟨z.1, s2 _ _ z.2⟩) bD hd2
        refine ⟨_, s2 _ _ hd, ?_, AL.Same.updn (s1.trans s2) hD, bs ++ [D2], r1, ?_⟩
        · rw [List.length_map]; exact Nat.lt_of_le_of_lt (by omega : _ ≤ 1000) (by decide)
        · have g : (trM n rows)[i]? = some (rows.map fun r => vl r i) := by unfold trM; rw [List.getElem?_map, List.getElem?_range hi]; rfl
          rw [List.take_add_one, g]
          exact r2
    rintro H1 ⟨s1, bs, hd, pr⟩
    rw [List.take_of_length_le (by rw [trM_len, Int.toNat_natCast, List.length_map, l0]; exact Nat.le_refl _)] at pr
    exact q D H1 hD s1 ⟨bs, hd, paired_mono pr fun _ _ z => z.2⟩
end
end AL
set_option Elab.async false
set_option linter.all false
set_option maxRecDepth 100000
/-! sorted(list(d)): keys that are tuples of ints, of any length. -/
namespace AL
open PySem PySem.W PySem.Spec PyProof.Rows L2
theorem one_perm {α : Type} : ∀ {vs : List α} {ps : List (α × α)}, vs.length ≤ 1 → ps.Perm (vs.zip vs) → ps.map Prod.snd = vs
  | [], ps, _, h => by
    have e : ps = [] := List.perm_nil.mp h
    rw [e]
    rfl
  | [v], ps, _, h => by
    have e : ps = [(v, v)] := List.perm_singleton.mp h
    rw [e]
    rfl
  | _ :: _ :: _, _, h, _ => by simp at h
section
variable {prog : Program} {w : World} {A : Around} {E : Value → Shared → Prop} {s : Shared}
/-- sorted(xs) of a list of one thing, or of none -/
theorem sorted_one {l : Addr} {vs : List Value} {Q : Value → Shared → Prop} (hl : s.heap.IsList l vs.toArray) (few : vs.length ≤ 1)
    (h : ∀ out : Array Value, out.toList = vs → Q (.ref (s.heap.objs.size + 1)) { s with heap := sortedAll s.heap vs out }) :
    wpAny (model prog w) A (call (.builtin "sorted") [.ref l]) Q E s := by
  refine Calls.call_function_entry kind_sorted plain_sorted entry_sorted (args_sorted1 _) ?_
  unfold Builtin.«sorted»
  refine wpAny_bind (m := checkCount "sorted" 1 1 _) (wpAny_pure ?_)
  refine wpAny_bind (collect_list hl ?_ (by rw [sizeLine_eq]; omega))
  refine wpAny_bind (wpAny_newList ?_ (by rw [sizeLine_eq]; omega))
  have sz : ((s.heap.push (seqObj "list" #[] 0)).update s.heap.objs.size (Obj.mapSeq (· ++ vs.toArray))).objs.size = s.heap.objs.size + 1 := by
    rw [Heap.size_update, size_push']
  have top : (((s.heap.push (seqObj "list" #[] 0)).update s.heap.objs.size (Obj.mapSeq (· ++ vs.toArray))).push (seqObj "list" vs.toArray 0)).get? (s.heap.objs.size + 1) = some (seqObj "list" vs.toArray 0) := by
    rw [← sz]; exact Heap.get?_push_size _ rfl
  show wpAny _ _ _ _ _ { s with heap := ((s.heap.push (seqObj "list" #[] 0)).update s.heap.objs.size (Obj.mapSeq (· ++ vs.toArray))).push (seqObj "list" vs.toArray 0) }
  rw [sz]
  refine wpAny_bind (wpAny_holding (wpAny_call_entry slot_list_sort ⟨_, top, rfl⟩ entry_list_sort (SK.plain_sort (r := fun _ => 0) top (by omega) (fun z => absurd few (by omega)) fun ps out o1 o2 _ => ⟨.none, rfl, ?_⟩) (args_list_sort _)))
  refine wpAny_pure ⟨_, rfl, h out ?_⟩
  rw [o1]
  exact one_perm few o2
end
section
variable {X : Cx}
/-- sorted(l), l a list of keys, all unlike -/
def rSortK : List V → Hp → VK → Prop := fun vs H Q => ∃ (a : Addr) (bs : List Addr) (es : List Ex) (n : Nat), vs = [.ref a] ∧ H a = some (.lst (bs.map V.ref)) ∧ Paired (KeyAt H) bs es ∧ bs.length < 64 ∧ es.Nodup ∧ (∀ e ∈ es, e.length = n ∧ ∀ k ∈ e, k ≤ 80) ∧
  ∀ (p : Addr) (cs : List Addr) (fs : List Ex), H p = none → Paired (KeyAt H) cs fs → fs.Perm es → fs.Pairwise (fun e f => cd e < cd f) → Q (.ref p) (upd H p (.lst (cs.map V.ref)))
theorem vals_addr {bs : List Addr} {ys : List V} (h : ys.Perm (bs.map V.ref)) : ∃ cs : List Addr, ys = cs.map V.ref ∧ cs.Perm bs := by
  obtain ⟨cs, c1, c2⟩ := perm_lift V.ref h bs rfl
  exact ⟨cs, c2.symm, c1⟩
theorem keys_perm {H : Hp} {bs cs : List Addr} {es : List Ex} (h : Paired (KeyAt H) bs es) (pm : cs.Perm bs) : ∃ fs : List Ex, Paired (KeyAt H) cs fs ∧ fs.Perm es := by
  induction pm generalizing es with
  | nil => cases h; exact ⟨[], .nil, .nil⟩
  | cons x p ih =>
    cases h with
    | cons hd tl => obtain ⟨fs, f1, f2⟩ := ih tl; exact ⟨_ :: fs, .cons hd f1, f2.cons _⟩
  | swap x y l =>
    cases h with
    | cons hd tl => cases tl with
      | cons hd2 tl2 => exact ⟨_, .cons hd2 (.cons hd tl2), List.Perm.swap _ _ _⟩
  | trans p1 p2 i1 i2 =>
    obtain ⟨fs, f1, f2⟩ := i2 h
    obtain ⟨gs, g1, g2⟩ := i1 f1
    exact ⟨gs, g1, g2.trans f2⟩
theorem asc_keys {K : PySem.W.Frag} {H : Hp} {n : Nat} {cs : List Addr} {fs : List Ex} (h : Paired (KeyAt H) cs fs) (asc : cs.Pairwise fun x y => ∀ n m, L2.TupI K H (.ref x) n → L2.TupI K H (.ref y) m → TS.code 128 n ≤ TS.code 128 m) (nd : fs.Nodup) (bnd : ∀ e ∈ fs, (ki e).length = n ∧ TS.Bd 128 (ki e)) : fs.Pairwise fun e f => cd e < cd f := by
  induction h with
  | nil => exact .nil
  | @cons c f cs fs hd tl ih =>
    obtain ⟨a1, a2⟩ := List.pairwise_cons.mp asc
    rw [List.nodup_cons] at nd
    refine List.pairwise_cons.mpr ⟨fun g hg => ?_, ih a2 nd.2 fun e he => bnd e (List.mem_cons_of_mem _ he)⟩
    obtain ⟨i, hi⟩ := List.mem_iff_getElem?.mp hg
    obtain ⟨c2, e1, e2⟩ := DX.pget tl hi
    have w := a1 c2 (List.mem_of_getElem? e1) (ki f) (ki g) ⟨c, rfl, SqT.of hd⟩ ⟨c2, rfl, SqT.of e2⟩
    have b1 := bnd f (List.mem_cons_self ..)
    have b2 := bnd g (List.mem_cons_of_mem _ hg)
    have ne : cd f ≠ cd g := fun z => nd.1 (by rw [ki_inj (code_inj (b1.1.trans b2.1.symm) b1.2 b2.2 z)]; exact hg)
    have w' : cd f ≤ cd g := w
    omega
theorem cr_sortK : CallR X (.builtin "sorted") rSortK := by
  intro pins s σ H vs us Q I r h
  obtain ⟨a, bs, es, n, rfl, ha, hk, few, nd, hb, q⟩ := h
  have le : bs.length = es.length := prd_len hk
  have bnd : ∀ e ∈ es, (ki e).length = n ∧ TS.Bd 128 (ki e) := fun e he => ⟨by rw [len_ki, (hb e he).1], bd_ki (hb e he).2⟩
  by_cases hn : 1 ≤ n
  · refine cr_sortT (X := X) (d := n) (B := 128) hn pins s σ H _ us Q I r ⟨a, bs.map V.ref, rfl, SqL.of ha, by rw [List.length_map]; exact few, fun x hx => ?_, fun ys p pm asc hp => ?_⟩
    · obtain ⟨b, hb2, rfl⟩ := List.mem_map.mp hx
      obtain ⟨i, hi⟩ := List.mem_iff_getElem?.mp hb2
      obtain ⟨e, e1, e2⟩ := prd_get hk hi
      obtain ⟨b1, b2⟩ := bnd e (List.mem_of_getElem? e1)
      exact ⟨ki e, ⟨b, rfl, SqT.of e2⟩, b1, b2⟩
    · obtain ⟨cs, rfl, c2⟩ := vals_addr pm
      obtain ⟨fs, f1, f2⟩ := keys_perm hk c2
      have ndf : fs.Nodup := (List.Perm.nodup_iff f2).mpr nd
      refine q p cs fs hp f1 f2 ?_
      rw [List.pairwise_map] at asc
      exact asc_keys f1 asc ndf fun g hg => bnd g (f2.mem_iff.mp hg)
  · have n0 : n = 0 := by omega
    have l1 : es.length ≤ 1 := by
      cases es with
      | nil => simp
      | cons e r =>
        cases r with
        | nil => simp
        | cons f r =>
          have e0 := List.eq_nil_of_length_eq_zero ((hb e (List.mem_cons_self ..)).1.trans n0)
          have f0 := List.eq_nil_of_length_eq_zero ((hb f (List.mem_cons_of_mem _ (List.mem_cons_self ..))).1.trans n0)
          rw [List.nodup_cons] at nd
          exact absurd (by rw [e0, f0]; exact List.mem_cons_self ..) nd.1
    obtain ⟨its, rv, pl, hz⟩ := I.list (SqL.of ha)
    cases refs_at rv
    rw [Vals.ref1 r]
    refine sorted_one pl.isList (by rw [List.length_map]; omega) fun out ho => ?_
    obtain ⟨ep, he⟩ := sortedAll_at s.heap (bs.map Value.ref) out
    have pw : es.Pairwise fun e f => cd e < cd f := by
      cases es with
      | nil => exact .nil
      | cons e r =>
        cases r with
        | nil => exact List.pairwise_cons.mpr ⟨fun _ z => (nomatch z), .nil⟩
        | cons f r => simp at l1
    refine ⟨.ref _, upd H (s.heap.objs.size + 1) (.lst (bs.map V.ref)), I.laid (t' := s.toks) (fun _ _ => sortedAll_old) (Nat.le_succ _) ⟨hz, out.toList, ep, by rw [ho]; exact vals_refs bs, by rw [Array.toArray_toList]; exact he⟩, rfl, q _ bs es (I.hok.fresh (Nat.le_succ _)) hk (List.Perm.refl _) pw⟩
end
end AL
set_option Elab.async false
set_option maxRecDepth 100000
set_option exponentiation.threshold 70000
set_option maxHeartbeats 1000000
namespace AL
open PySem PySem.Spec PyProof.Rows L2 RZ
section
variable {P : Program} {w : World} {K : PySem.W.Frag} {mg : Str → Option Value} {base : Heap}
theorem prd_perm {α β : Type} {R : α → β → Prop} {as cs : List α} {bs : List β} (h : Paired R as bs) (pm : cs.Perm as) : ∃ ds : List β, Paired R cs ds ∧ ds.Perm bs := by
  induction pm generalizing bs with
  | nil => cases h; exact ⟨[], .nil, .nil⟩
  | cons x p ih =>
    cases h with
    | cons hd tl => obtain ⟨fs, f1, f2⟩ := ih tl; exact ⟨_ :: fs, .cons hd f1, f2.cons _⟩
  | swap x y l =>
    cases h with
    | cons hd tl => cases tl with
      | cons hd2 tl2 => exact ⟨_, .cons hd2 (.cons hd tl2), List.Perm.swap _ _ _⟩
  | trans p1 p2 i1 i2 =>
    obtain ⟨fs, f1, f2⟩ := i2 h
    obtain ⟨gs, g1, g2⟩ := i1 f1
    exact ⟨gs, g1, g2.trans f2⟩

theorem Bb.bd {b : Nat} {x : Rw} (h : Bb b x) : Bd b x := Bd.of h
theorem Bb.at {b : Nat} {x : Rw} (h : Bb b x) (le : b ≤ 13000) (j : Nat) : (vl x j).natAbs < 2 ^ 13000 := Nat.lt_of_lt_of_le (h j) (Nat.pow_le_pow_right (by decide) le)
theorem lt135 {v : Int} (h : v.natAbs < 2 ^ 13000) : v.natAbs < 2 ^ 13500 := Nat.lt_trans h (Nat.pow_lt_pow_right (by decide) (by decide))
/-- primitive(row) -/
def spPr : Sp := fun vs H Q _ => ∃ (a : Addr) (xs : Rw), vs = [.ref a] ∧ LI H a xs ∧ ¬ allZ xs ∧ Bb 13000 xs ∧ xs.length ≤ 200 ∧ ∀ D H', H D = none → Same H H' → LI H' D (prim xs) → Q (.ref D) H'
/-- without_item(row, at, held) -/
def spWo : Sp := fun vs H Q _ => ∃ (a h : Addr) (p : Nat) (xs hs : Rw), vs = [.ref a, .int (p : Int), .ref h] ∧ LI H a xs ∧ LI H h hs ∧ xs.length = hs.length ∧ p < hs.length ∧ 0 < vl hs p ∧ Bb 13000 xs ∧ Bb 13000 hs ∧ xs.length ≤ 200 ∧
  ∀ D H', Same H H' → LI H' D (wo xs p hs) → Q (.ref D) H'
/-- cleared(rows, row) -/
def spCl : Sp := fun vs H Q _ => ∃ (w a : Addr) (F : List Rw) (xs : Rw) (W b m : Nat), vs = [.ref w, .ref a] ∧ RowsZ H w F ∧ LI H a xs ∧ Rref W F ∧ xs.length = W ∧ W ≤ 200 ∧ Bb b xs ∧ (∀ f ∈ F, Bb m f) ∧ m ≤ 13000 ∧ b + F.length * (m + 1) ≤ 13000 ∧
  ∀ D H', Same H H' → LI H' D (clr F xs) → Q (.ref D) H'
theorem clr_take {F : List Rw} {i : Nat} {f : Rw} (h : F[i]? = some f) (x : Rw) : clr (F.take (i + 1)) x = wo (clr (F.take i) x) (piv f) f := by
  unfold clr
  rw [List.take_add_one, h, List.foldl_append]; rfl
theorem rref_take {W : Nat} {F : List Rw} (R : Rref W F) (i : Nat) : Rref W (F.take i) := ⟨fun f hf => R.len f (List.mem_of_mem_take hf), fun f hf => R.pos f (List.mem_of_mem_take hf), R.off.sublist (List.take_sublist i F)⟩
/-- span_of(rows) -/
def spSpn : Sp := fun vs H Q _ => ∃ (w : Addr) (rows : List Rw) (W b : Nat), vs = [.ref w] ∧ RowsZ H w rows ∧ (∀ r ∈ rows, r.length = W) ∧ W ≤ 60 ∧ rows.length ≤ 20 ∧ (∀ r ∈ rows, Bb b r) ∧ szN b rows.length ≤ 13000 ∧ b + rows.length * (szN b rows.length + 1) ≤ 13000 ∧
  ∀ D H' G, H D = none → Same H H' → RowsZ H' D G → G.Perm (spn rows) → (G.Pairwise fun f h => piv f < piv h) → Q (.ref D) H'
theorem piv_lt {W : Nat} {F : List Rw} (R : Rref W F) {f : Rw} (h : f ∈ F) : piv f < W := by
  have := R.pos f h
  rw [← R.len f h]
  exact (piv_spec (not_allZ (j := piv f) (by omega))).1
theorem spn_take {rows : List Rw} {i : Nat} {r : Rw} (h : rows[i]? = some r) : spn (rows.take (i + 1)) = stepS (spn (rows.take i)) r := by
  unfold spn
  rw [List.take_add_one, h, List.foldl_append]; rfl
theorem rref_nodup {W : Nat} {F : List Rw} (R : Rref W F) {i k : Nat} {f g : Rw} (hi : F[i]? = some f) (hk : F[k]? = some g) (ne : k ≠ i) : piv f ≠ piv g := fun e => by
  have z := rref_off R hi hk ne
  have p := R.pos g (List.mem_of_getElem? hk)
  rw [e] at z; omega

theorem asc_piv {K : PySem.W.Frag} {H : Hp} {us : List Addr} {ks : List Nat} {F : List Rw} {D0 : Addr} (h : Paired (fun t (k : Nat) => t ≠ D0 ∧ H t = some (.tup [.int (piv (F.getD k []) : Int), .int (k : Int)])) us ks) (asc : us.Pairwise fun x y => ∀ n m, L2.TupI K H (.ref x) n → L2.TupI K H (.ref y) m → TS.code 64 n ≤ TS.code 64 m) (nd : ks.Nodup) (pl : ∀ k ∈ ks, piv (F.getD k []) < 60 ∧ k < 60) (ne : ∀ i ∈ ks, ∀ k ∈ ks, i ≠ k → piv (F.getD i []) ≠ piv (F.getD k [])) : ks.Pairwise fun i k => piv (F.getD i []) < piv (F.getD k []) := by
  induction h with
  | nil => exact .nil
  | @cons u k us ks hu tl ih =>
    obtain ⟨a1, a2⟩ := List.pairwise_cons.mp asc
    rw [List.nodup_cons] at nd
    refine List.pairwise_cons.mpr ⟨fun g hg => ?_, ih a2 nd.2 (fun e he => pl e (List.mem_cons_of_mem _ he)) fun i hi k hk => ne i (List.mem_cons_of_mem _ hi) k (List.mem_cons_of_mem _ hk)⟩
    obtain ⟨i, hi⟩ := List.mem_iff_getElem?.mp hg
    obtain ⟨c2, e1, e2⟩ := DX.pget tl hi
    have w := a1 c2 (List.mem_of_getElem? e1) [(piv (F.getD k []) : Int), (k : Int)] [(piv (F.getD g []) : Int), (g : Int)] ⟨u, rfl, SqT.of hu.2⟩ ⟨c2, rfl, SqT.of e2.2⟩
    have b1 := pl k (List.mem_cons_self ..)
    have b2 := pl g (List.mem_cons_of_mem _ hg)
    have n1 := ne k (List.mem_cons_self ..) g (List.mem_cons_of_mem _ hg) (fun z => nd.1 (z ▸ hg))
    have w' : (piv (F.getD k []) : Int) * 64 ^ 1 + ((k : Int) * 64 ^ 0 + 0) ≤ (piv (F.getD g []) : Int) * 64 ^ 1 + ((g : Int) * 64 ^ 0 + 0) := w
    omega

abbrev stprimitive : Stmt := top 17
theorem scprimitive : FnScope ["row", "shared", "item"] ["row"] (defScope stprimitive) := ⟨rfl, rfl, rfl, by decide +kernel, rfl, by decide +kernel, by decide +kernel⟩
theorem okprimitive (B : Blt mg) {CZero CHangs : Addr} (Es : ErH K mg CZero CHangs) {fpivot_of : Addr} {fdpivot_of : FuncData} (Dpivot_of : DefAt K mg "pivot_of" stpivot_of ["row"] fpivot_of fdpivot_of) {fprimitive : Addr} {fdprimitive : FuncData} (Dprimitive : DefAt K mg "primitive" stprimitive ["row"] fprimitive fdprimitive) : FnOk P w K mg base CX0 2 fprimitive fdprimitive ["row"] spPr := by
  have OKpivot_of : FnOk P w K mg base CX0 1 fpivot_of fdpivot_of ["row"] spPv := okpivot_of B  Dpivot_of
  refine Dprimitive.F.ok scprimitive (fun vs H Q E h => ?_) (fun cdv A outer s H vs Q E hr h => ?_)
  · obtain ⟨a, xs, rfl, _⟩ := h; rfl
  · have hu := hu_of hr
    refine ⟨_, (pss_cons (ps_set (i := 1) scprimitive.nd rfl (Or.inr rfl) pe_int)
    (pss_cons (ps_for PassesOwn.never rfl (pi_list (pv 0)) (pg_name (i := 2) scprimitive.nd rfl (Or.inl rfl))
      (pss_one (ps_set (i := 1) scprimitive.nd rfl (Or.inr rfl) (pe_callBfun cr_gcd (by rfl) Es.gcd (pa_cons (pv 1) (pa_cons (pv 2) pa_nil))))))
    (Evl.pss_cut (ps_if (pt_cmpR op_lt (pe_ix ix_list (pv 0) (pe_call OKpivot_of (hr.mono (by decide)) rfl Dpivot_of.m Dpivot_of.F.kp Dpivot_of.b .nil pass0 (pa_cons (pv 0) pa_nil)) (fun _ _ => rfl)) pe_int (nomark _)) (pss_one (ps_set (i := 1) scprimitive.nd rfl (Or.inr rfl) (pe_un un_neg (pv 1)))) pss_nil)
    (pss_one (ps_ret (pe_lc (own := [("item", 2)]) (g := gName 2) (tt := tYes) rfl scprimitive.nd (pi_list (pv 0)) (blkOk_by (own := [("item", 2)]) (N := ["row", "shared", "item"]) (sc := defScope stprimitive) (by decide +kernel)) (fun _ _ _ _ _ => (pg_name (i := 2) scprimitive.nd rfl (Or.inl rfl))) (fun _ _ _ _ _ => pts_nil) (fun _ _ _ _ _ => (pe_op op_fdivC (pv 2) (pv 1))))))))), ?_⟩
    obtain ⟨a, xs, rfl, ha, nz, bb, l2, q⟩ := h
    obtain ⟨pl, pn, _⟩ := piv_spec nz
    refine ⟨_, rfl, a, rfl, ⟨_, SqL.of ha⟩, for_list (K := K) (a := a) (xs := xs.map V.int) (fun i σ H' => ∃ v : Option V, σ = [some (.ref a), some (.int ((gcdR (xs.take i) : Nat) : Int)), v] ∧ H' = H) ⟨none, rfl, rfl⟩ (fun i σ H' _ hh => by obtain ⟨_, _, e⟩ := hh; rw [e]; exact SqL.of ha) ?_ ?_⟩
    · rintro i x σ H1 hx ⟨v, rfl, rfl⟩
      obtain ⟨z, hz, rfl⟩ := map_int hx
      refine ⟨_, rfl, _, rfl, _, _, rfl, ?_⟩
      rw [Int.natAbs_natCast, ← gcdR_take hz]
      exact ⟨_, rfl, rfl⟩
    rintro σ H1 ⟨v, rfl, rfl⟩
    rw [List.take_of_length_le (by rw [List.length_map]; exact Nat.le_refl _)]
    refine ⟨fun σ' H' => Same H1 H' ∧ ∃ v : Option V, σ' = [some (.ref a), some (.int (sgR xs)), v], ?_, ?_⟩
    · refine ⟨_, rfl, _, rfl, a, xs, rfl, ha, fun H2 s2 => ?_⟩
      refine ⟨a, _, _, .int (vl xs (piv xs)), rfl, rfl, SqL.of (s2 _ _ ha), ?_, _, _, rfl, rfl, _, rfl, ?_⟩
      · rw [atI_of (by rw [List.length_map]; exact pl), List.getElem?_map, vl_at pl]; rfl
      by_cases neg : vl xs (piv xs) < 0
      · rw [decide_eq_true neg]
        refine iteT ?_
        refine ⟨_, rfl, _, rfl, s2, v, ?_⟩
        unfold sgR
        rw [if_pos neg]; rfl
      · rw [decide_eq_false neg]
        refine iteF ?_
        refine ⟨s2, v, ?_⟩
        unfold sgR
        rw [if_neg neg]
    rintro σ H2 ⟨s2, v, rfl⟩
    have ha2 := s2 _ _ ha
    refine ⟨_, rfl, a, rfl, ⟨_, SqL.of ha2⟩, fun D hD => ?_⟩
    refine lc_list (K := K) (a := a) (xs := xs.map V.int) (fun i H' => Same H2 H' ∧ H' D = some (.lst (((prim xs).take i).map V.int))) ⟨AL.Same.new hD, upd_same⟩ (fun i H' _ hh => SqL.of (hh.1 _ _ ha2)) ?_ ?_
    · rintro i x H3 hx ⟨s3, hd⟩
      obtain ⟨z, hz, rfl⟩ := map_int hx
      have il := (List.getElem?_eq_some_iff.mp hz).1
      refine ⟨rfl, ?_⟩
      refine ⟨_, rfl, _, rfl, _, _, rfl, rfl, ⟨sgR_ne nz, .inl (lt135 (bb.bd z (List.mem_of_getElem? hz)))⟩, _, hd, ?_, AL.Same.updn s3 hD, ?_⟩
      · rw [List.length_map, List.length_take]; exact Nat.lt_of_le_of_lt (by omega : _ ≤ 1000) (by decide)
      · have g : (prim xs)[i]? = some (z.fdiv (sgR xs)) := by unfold prim; rw [List.getElem?_map, hz]; rfl
        rw [upd_same, List.take_add_one, g, List.map_append]; rfl
    rintro H3 ⟨s3, hd⟩
    rw [List.take_of_length_le (by rw [prim_len, List.length_map]; exact Nat.le_refl _)] at hd
    exact q D H3 (by cases e : H1 D with | none => rfl | some o => rw [s2 _ _ e] at hD; cases hD) (s2.trans s3) hd
abbrev stwithout_item : Stmt := top 18
theorem scwithout_item : FnScope ["row", "at", "held", "shared"] ["row", "at", "held"] (defScope stwithout_item) := ⟨rfl, rfl, rfl, by decide +kernel, rfl, by decide +kernel, by decide +kernel⟩
theorem okwithout_item (B : Blt mg) {CZero CHangs : Addr} (Es : ErH K mg CZero CHangs) {fcombined : Addr} {fdcombined : FuncData} (Dcombined : DefAt K mg "combined" stcombined ["many", "one", "times", "other"] fcombined fdcombined) {fwithout_item : Addr} {fdwithout_item : FuncData} (Dwithout_item : DefAt K mg "without_item" stwithout_item ["row", "at", "held"] fwithout_item fdwithout_item) : FnOk P w K mg base CX0 2 fwithout_item fdwithout_item ["row", "at", "held"] spWo := by
  have OKcombined : FnOk P w K mg base CX0 1 fcombined fdcombined ["many", "one", "times", "other"] spCm := okcombined B  Dcombined
  refine Dwithout_item.F.ok scwithout_item (fun vs H Q E h => ?_) (fun cdv A outer s H vs Q E hr h => ?_)
  · obtain ⟨a, h, p, xs, hs, rfl, _⟩ := h; rfl
  · have hu := hu_of hr
    refine ⟨_, (pss_cons (ps_if (pt_cmpR op_eq (pe_ix ix_list (pv 0) (pv 1) (fun _ _ => rfl)) pe_int (nomark _)) (pss_one (ps_ret (pv 0))) pss_nil)
    (pss_cons (ps_set (i := 3) scwithout_item.nd rfl (Or.inl rfl) (pe_callBfun cr_gcd (by rfl) Es.gcd (pa_cons (pe_ix ix_list (pv 0) (pv 1) (fun _ _ => rfl)) (pa_cons (pe_ix ix_list (pv 2) (pv 1) (fun _ _ => rfl)) pa_nil))))
    (pss_one (ps_ret (pe_call OKcombined (hr.mono (by decide)) rfl Dcombined.m Dcombined.F.kp Dcombined.b .nil pass0 (pa_cons (pe_op op_fdivC (pe_ix ix_list (pv 2) (pv 1) (fun _ _ => rfl)) (pv 3)) (pa_cons (pv 0) (pa_cons (pe_un un_neg (pe_op op_fdivC (pe_ix ix_list (pv 0) (pv 1) (fun _ _ => rfl)) (pv 3))) (pa_cons (pv 2) pa_nil))))))))), ?_⟩
    obtain ⟨a, h, p, xs, hs, rfl, ha, hh, hl, hp, pos, bx, bh, l2, q⟩ := h
    have px : p < xs.length := by omega
    have gx : atI (xs.map V.int) ((p : Nat) : Int) = some (.int (vl xs p)) := by rw [atI_of (by rw [List.length_map]; exact px), List.getElem?_map, vl_at px]; rfl
    have gh : atI (hs.map V.int) ((p : Nat) : Int) = some (.int (vl hs p)) := by rw [atI_of (by rw [List.length_map]; exact hp), List.getElem?_map, vl_at hp]; rfl
    refine ⟨_, rfl, _, rfl, a, _, _, _, rfl, rfl, SqL.of ha, gx, rfl, _, rfl, ?_⟩
    by_cases z : vl xs p = 0
    · rw [decide_eq_true (by rw [z])]
      refine iteT ?_
      refine ⟨_, rfl, ?_⟩
      refine q a H (fun _ _ h => h) ?_
      unfold wo
      rw [if_pos z]; exact ha
    rw [decide_eq_false (fun w => z (by injection w))]
    refine iteF ?_
    obtain ⟨g0, d1, d2⟩ := woG_ne (x := xs) pos
    have b1 := bx.at (Nat.le_refl _) p
    have b2 := bh.at (Nat.le_refl _) p
    refine ⟨_, rfl, _, rfl, a, _, _, _, rfl, rfl, SqL.of ha, gx, _, rfl, _, rfl, h, _, _, _, rfl, rfl, SqL.of hh, gh, _, _, rfl, ?_⟩
    refine ⟨_, rfl, _, rfl, h, _, _, _, rfl, rfl, SqL.of hh, gh, _, rfl, _, _, rfl, rfl, ⟨g0, .inl (lt135 b2)⟩, _, rfl, _, rfl, _, rfl, a, _, _, _, rfl, rfl, SqL.of ha, gx, _, rfl, _, _, rfl, rfl, ⟨g0, .inl (lt135 b1)⟩, _, rfl, _, rfl, _, _, a, h, xs, hs, rfl, ha, hh, hl, l2, Nat.lt_of_le_of_lt (fdiv_le g0 d1) b2, ?_, bx.bd, bh.bd, fun D H' hD s hD2 => ?_⟩
    · rw [Int.natAbs_neg]; exact Nat.lt_of_le_of_lt (fdiv_le g0 d2) b1
    · refine q D H' s ?_
      unfold wo
      rw [if_neg z]; exact hD2
abbrev stcleared : Stmt := top 19
theorem sccleared : FnScope ["reduced_rows", "row", "held"] ["reduced_rows", "row"] (defScope stcleared) := ⟨rfl, rfl, rfl, by decide +kernel, rfl, by decide +kernel, by decide +kernel⟩
theorem okcleared (B : Blt mg) {CZero CHangs : Addr} (Es : ErH K mg CZero CHangs) {fpivot_of : Addr} {fdpivot_of : FuncData} (Dpivot_of : DefAt K mg "pivot_of" stpivot_of ["row"] fpivot_of fdpivot_of) {fcombined : Addr} {fdcombined : FuncData} (Dcombined : DefAt K mg "combined" stcombined ["many", "one", "times", "other"] fcombined fdcombined) {fwithout_item : Addr} {fdwithout_item : FuncData} (Dwithout_item : DefAt K mg "without_item" stwithout_item ["row", "at", "held"] fwithout_item fdwithout_item) {fcleared : Addr} {fdcleared : FuncData} (Dcleared : DefAt K mg "cleared" stcleared ["reduced_rows", "row"] fcleared fdcleared) : FnOk P w K mg base CX0 3 fcleared fdcleared ["reduced_rows", "row"] spCl := by
  have OKpivot_of : FnOk P w K mg base CX0 1 fpivot_of fdpivot_of ["row"] spPv := okpivot_of B  Dpivot_of
  have OKwithout_item : FnOk P w K mg base CX0 2 fwithout_item fdwithout_item ["row", "at", "held"] spWo := okwithout_item B Es Dcombined Dwithout_item
  refine Dcleared.F.ok sccleared (fun vs H Q E h => ?_) (fun cdv A outer s H vs Q E hr h => ?_)
  · obtain ⟨w, a, F, xs, W, b, m, rfl, _⟩ := h; rfl
  · have hu := hu_of hr
    refine ⟨_, (pss_cons (ps_for PassesOwn.never rfl (pi_list (pv 0)) (pg_name (i := 2) sccleared.nd rfl (Or.inl rfl))
      (pss_one (ps_set (i := 1) sccleared.nd rfl (Or.inl rfl) (pe_call OKwithout_item (hr.mono (by decide)) rfl Dwithout_item.m Dwithout_item.F.kp Dwithout_item.b .nil pass0 (pa_cons (pv 1) (pa_cons (pe_call OKpivot_of (hr.mono (by decide)) rfl Dpivot_of.m Dpivot_of.F.kp Dpivot_of.b .nil pass0 (pa_cons (pv 2) pa_nil)) (pa_cons (pv 2) pa_nil)))))))
    (pss_one (ps_ret (pv 1)))), ?_⟩
    obtain ⟨w, a, F, xs, W, b, m, rfl, hw, ha, R, lx, hW, bx, bF, hm, hb, q⟩ := h
    obtain ⟨as, W1, W2⟩ := hw
    have la := prd_len W2
    refine ⟨_, rfl, w, rfl, ⟨_, SqL.of W1⟩, for_list (K := K) (a := w) (xs := as.map V.ref) (fun i σ H' => ∃ (c : Addr) (v : Option V), σ = [some (.ref w), some (.ref c), v] ∧ Same H H' ∧ LI H' c (clr (F.take i) xs)) ⟨a, none, rfl, (fun _ _ h => h), ha⟩ (fun i σ H' _ hh => by obtain ⟨_, _, _, s, _⟩ := hh; exact SqL.of (s _ _ W1)) ?_ ?_⟩
    · rintro i x σ H1 hx ⟨c, v, rfl, s1, hc⟩
      obtain ⟨h, hh, rfl⟩ := map_ref hx
      obtain ⟨f, hf, hfa⟩ := prd_get W2 hh
      have mf := List.mem_of_getElem? hf
      have il := (List.getElem?_eq_some_iff.mp hf).1
      have hf1 : LI H1 h f := s1 _ _ hfa
      have R' := rref_take R i
      have lc := (clr_spec (x := xs) R' lx).1
      have bc := clr_bb (x := xs) R'.len R'.pos (fun f hf => bF f (List.mem_of_mem_take hf)) lx bx
      have le : b + (F.take i).length * (m + 1) ≤ 13000 := by
        rw [List.length_take]
        have := Nat.mul_le_mul_right (m + 1) (Nat.min_le_right i F.length)
        omega
      refine ⟨_, rfl, _, rfl, h, f, rfl, hf1, fun H2 s2 => ?_⟩
      refine ⟨_, rfl, c, h, piv f, _, f, rfl, hc.same s2, hf1.same s2, lc.trans (R.len f mf).symm, by rw [R.len f mf]; exact piv_lt R mf, R.pos f mf, bc.mono le, (bF f mf).mono hm, by omega, fun D H3 s3 hD => ?_⟩
      refine ⟨D, _, rfl, (s1.trans s2).trans s3, ?_⟩
      rw [clr_take hf]
      exact hD
    rintro σ H1 ⟨c, v, rfl, s1, hc⟩
    rw [List.length_map, la, List.take_length] at hc
    exact ⟨_, rfl, q c H1 s1 hc⟩
abbrev stspan_of : Stmt := top 20
theorem scspan_of : FnScope ["rows", "found", "row", "at", "held", "places", "k"] ["rows"] (defScope stspan_of) := ⟨rfl, rfl, rfl, by decide +kernel, rfl, by decide +kernel, by decide +kernel⟩
theorem okspan_of (B : Blt mg) {CZero CHangs : Addr} (Es : ErH K mg CZero CHangs) {fpivot_of : Addr} {fdpivot_of : FuncData} (Dpivot_of : DefAt K mg "pivot_of" stpivot_of ["row"] fpivot_of fdpivot_of) {fcombined : Addr} {fdcombined : FuncData} (Dcombined : DefAt K mg "combined" stcombined ["many", "one", "times", "other"] fcombined fdcombined) {fwithout_item : Addr} {fdwithout_item : FuncData} (Dwithout_item : DefAt K mg "without_item" stwithout_item ["row", "at", "held"] fwithout_item fdwithout_item) {fcleared : Addr} {fdcleared : FuncData} (Dcleared : DefAt K mg "cleared" stcleared ["reduced_rows", "row"] fcleared fdcleared) {fprimitive : Addr} {fdprimitive : FuncData} (Dprimitive : DefAt K mg "primitive" stprimitive ["row"] fprimitive fdprimitive) {fspan_of : Addr} {fdspan_of : FuncData} (Dspan_of : DefAt K mg "span_of" stspan_of ["rows"] fspan_of fdspan_of) : FnOk P w K mg base CX0 4 fspan_of fdspan_of ["rows"] spSpn := by
  have OKcleared : FnOk P w K mg base CX0 3 fcleared fdcleared ["reduced_rows", "row"] spCl := okcleared B Es Dpivot_of Dcombined Dwithout_item Dcleared
  have OKpivot_of : FnOk P w K mg base CX0 1 fpivot_of fdpivot_of ["row"] spPv := okpivot_of B  Dpivot_of
  have OKprimitive : FnOk P w K mg base CX0 2 fprimitive fdprimitive ["row"] spPr := okprimitive B Es Dpivot_of Dprimitive
  have OKwithout_item : FnOk P w K mg base CX0 2 fwithout_item fdwithout_item ["row", "at", "held"] spWo := okwithout_item B Es Dcombined Dwithout_item
  refine Dspan_of.F.ok scspan_of (fun vs H Q E h => ?_) (fun cdv A outer s H vs Q E hr h => ?_)
  · obtain ⟨w, rows, W, b, rfl, _⟩ := h; rfl
  · have hu := hu_of hr
    refine ⟨_, (pss_cons (ps_set (i := 1) scspan_of.nd rfl (Or.inr rfl) (pe_lst pa_nil))
    (pss_cons (ps_for PassesOwn.never rfl (pi_list (pv 0)) (pg_name (i := 2) scspan_of.nd rfl (Or.inr rfl))
      (pss_cons (ps_set (i := 2) scspan_of.nd rfl (Or.inr rfl) (pe_call OKcleared (hr.mono (by decide)) rfl Dcleared.m Dcleared.F.kp Dcleared.b .nil pass0 (pa_cons (pv 1) (pa_cons (pv 2) pa_nil))))
    (pss_one (ps_if (pt_val (pe_callB (cr_anyI rfl) (by rfl) B.any_ (by decide +kernel) (pa_cons (pv 2) pa_nil))) (pss_cons (ps_set (i := 2) scspan_of.nd rfl (Or.inr rfl) (pe_call OKprimitive (hr.mono (by decide)) rfl Dprimitive.m Dprimitive.F.kp Dprimitive.b .nil pass0 (pa_cons (pv 2) pa_nil)))
    (pss_cons (ps_set (i := 3) scspan_of.nd rfl (Or.inr rfl) (pe_call OKpivot_of (hr.mono (by decide)) rfl Dpivot_of.m Dpivot_of.F.kp Dpivot_of.b .nil pass0 (pa_cons (pv 2) pa_nil)))
    (pss_one (ps_set (i := 1) scspan_of.nd rfl (Or.inr rfl) (pe_op op_cat (pe_lc (own := [("held", 4)]) (g := gName 4) (tt := tYes) rfl scspan_of.nd (pi_list (pv 1)) (blkOk_by (own := [("held", 4)]) (N := ["rows", "found", "row", "at", "held", "places", "k"]) (sc := defScope stspan_of) (by decide +kernel)) (fun _ _ _ _ _ => (pg_name (i := 4) scspan_of.nd rfl (Or.inl rfl))) (fun _ _ _ _ _ => pts_nil) (fun _ _ _ _ _ => (pe_ifExp (pt_cmpR op_eq (pe_ix (ix_list : IxR _ (rIxL K)) (pv 4) (pv 3) (fun _ _ => rfl)) pe_int (nomark _)) (pv 4) (pe_call OKprimitive (hr.mono (by decide)) rfl Dprimitive.m Dprimitive.F.kp Dprimitive.b .nil pass0 (pa_cons (pe_call OKwithout_item (hr.mono (by decide)) rfl Dwithout_item.m Dwithout_item.F.kp Dwithout_item.b .nil pass0 (pa_cons (pv 4) (pa_cons (pv 3) (pa_cons (pv 2) pa_nil)))) pa_nil))))) (pe_lst (pa_cons (pv 2) pa_nil))))))) pss_nil))))
    (pss_cons (ps_set (i := 5) scspan_of.nd rfl (Or.inl rfl) (pe_callB (cr_sortT (d := 2) (B := 64) (by decide)) (by rfl) B.sorted_ (by decide +kernel) (pa_cons (pe_lc (own := [("k", 6), ("row", 2)]) (g := (gTup K 2 (gCons (gName 6) (gCons (gName 2) gNil)))) (tt := tYes) rfl scspan_of.nd (pi_enum (by rfl) B.enumerate_ (pa_cons (pv 1) pa_nil)) (blkOk_by (own := [("k", 6), ("row", 2)]) (N := ["rows", "found", "row", "at", "held", "places", "k"]) (sc := defScope stspan_of) (by decide +kernel)) (fun _ _ _ _ _ => (pg_tup rfl (pgs_cons (pg_name (i := 6) scspan_of.nd rfl (Or.inl rfl)) (pgs_cons (pg_name (i := 2) scspan_of.nd rfl (Or.inl rfl)) pgs_nil)))) (fun _ _ _ _ _ => pts_nil) (fun _ _ _ _ _ => (pe_tup (pa_cons (pe_call OKpivot_of (hr.mono (by decide)) rfl Dpivot_of.m Dpivot_of.F.kp Dpivot_of.b .nil pass0 (pa_cons (pv 2) pa_nil)) (pa_cons (pv 6) pa_nil))))) pa_nil)))
    (pss_one (ps_ret (pe_lc (own := [("at", 3), ("k", 6)]) (g := (gTup K 2 (gCons (gName 3) (gCons (gName 6) gNil)))) (tt := tYes) rfl scspan_of.nd (pi_list (pv 5)) (blkOk_by (own := [("at", 3), ("k", 6)]) (N := ["rows", "found", "row", "at", "held", "places", "k"]) (sc := defScope stspan_of) (by decide +kernel)) (fun _ _ _ _ _ => (pg_tup rfl (pgs_cons (pg_name (i := 3) scspan_of.nd rfl (Or.inl rfl)) (pgs_cons (pg_name (i := 6) scspan_of.nd rfl (Or.inl rfl)) pgs_nil)))) (fun _ _ _ _ _ => pts_nil) (fun _ _ _ _ _ => (pe_ix (ix_list : IxR _ (rIxL K)) (pv 1) (pv 6) (fun _ _ => rfl))))))))), ?_⟩
    obtain ⟨w, rows, W, b, rfl, hw, hl, hW, hn, hb, hs1, hs2, q⟩ := h
    obtain ⟨as, W1, W2⟩ := hw
    have la := prd_len W2
    have tl : ∀ i, ∀ r ∈ rows.take i, r.length = W := fun i r hr => hl r (List.mem_of_mem_take hr)
    have sz : ∀ i, (spn (rows.take i)).length ≤ rows.length ∧ ∀ f ∈ spn (rows.take i), Bb (szN b rows.length) f := fun i => by
      obtain ⟨z1, z2⟩ := spn_size (b := b) (tl i) fun r hr => hb r (List.mem_of_mem_take hr)
      rw [List.length_take] at z1 z2
      exact ⟨by omega, fun f hf => (z2 f hf).mono (szN_mono b (by omega))⟩
    refine ⟨(by show 0 ≤ sizeLine; decide), fun f0 hf0 => ?_⟩
    have n0 := AL.Same.new (o := .lst []) hf0
    refine ⟨_, rfl, w, rfl, ⟨_, SqL.of (n0 _ _ W1)⟩, for_list (K := K) (a := w) (xs := as.map V.ref) (fun i σ H' => ∃ (fd : Addr) (v2 v3 : Option V), σ = [some (.ref w), some (.ref fd), v2, v3, none, none, none] ∧ Same H H' ∧ H fd = none ∧ RowsZ H' fd (spn (rows.take i))) ⟨f0, none, none, rfl, n0, hf0, [], upd_same, .nil⟩ (fun i σ H' _ hh => by obtain ⟨_, _, _, _, s, _⟩ := hh; exact SqL.of (s _ _ W1)) ?_ ?_⟩
    · rintro i x σ H1 hx ⟨fd, v2, v3, rfl, s1, hfd, hF⟩
      obtain ⟨ra, hra, rfl⟩ := map_ref hx
      obtain ⟨r, hr, hrr⟩ := prd_get W2 hra
      have mr := List.mem_of_getElem? hr
      have lr := hl r mr
      have il := (List.getElem?_eq_some_iff.mp hr).1
      obtain ⟨R, _, _⟩ := spn_spec (tl i)
      obtain ⟨z1, z2⟩ := sz i
      have zn := (sz (i + 1)).2
      rw [spn_take hr] at zn
      have goal : ∀ {fd' : Addr} {v2' v3' : Option V} {H' : Hp}, Same H1 H' → H fd' = none → RowsZ H' fd' (stepS (spn (rows.take i)) r) → ∃ (fd : Addr) (v2 v3 : Option V), [some (V.ref w), some (V.ref fd'), v2', v3', none, none, none] = [some (V.ref w), some (V.ref fd), v2, v3, none, none, none] ∧ Same H H' ∧ H fd = none ∧ RowsZ H' fd (spn (rows.take (i + 1))) := fun s hn h => ⟨_, _, _, rfl, s1.trans s, hn, by rw [spn_take hr]; exact h⟩
      have z3 : (spn (rows.take i)).length ≤ i := by
        have w2 := (spn_size (b := b) (tl i) fun r hr => hb r (List.mem_of_mem_take hr)).1
        have e : (rows.take i).length = i := by rw [List.length_take]; omega
        omega
      generalize spn (rows.take i) = F at hF R z1 z2 zn goal z3
      have le : b + F.length * (szN b rows.length + 1) ≤ 13000 := by
        have := Nat.mul_le_mul_right (szN b rows.length + 1) z1
        omega
      obtain ⟨c1, c2, _⟩ := clr_spec (x := r) R lr
      have cb := clr_bb (x := r) R.len R.pos z2 lr (hb r mr)
      refine ⟨_, rfl, _, rfl, fd, ra, F, r, W, b, szN b rows.length, rfl, hF, s1 _ _ hrr, R, lr, by omega, hb r mr, z2, hs1, le, fun D H2 s2 hD => ?_⟩
      refine ⟨_, rfl, D, _, rfl, SqL.of hD, _, rfl, ?_⟩
      rw [any_allZ]
      have zs : stepS F r = if allZ (clr F r) then F else F.map (upR (prim (clr F r))) ++ [prim (clr F r)] := rfl
      by_cases z : allZ (clr F r)
      · rw [decide_eq_false (fun w => w z)]
        refine iteF ?_
        rw [if_pos z] at zs
        exact goal s2 hfd (by rw [zs]; exact hF.same s2)
      rw [decide_eq_true z]
      refine iteT ?_
      rw [if_neg z] at zs
      refine ⟨_, rfl, D, _, rfl, hD, z, cb.mono le, by omega, fun D2 H3 hD2 s3 hp => ?_⟩
      have lp : (prim (clr F r)).length = W := (prim_len _).trans c1
      have pp : 0 < vl (prim (clr F r)) (piv (prim (clr F r))) := by rw [prim_piv z]; exact prim_pos z
      have pb : Bb 13000 (prim (clr F r)) := (prim_bb z cb).mono le
      have pz : ∀ f ∈ F, vl (prim (clr F r)) (piv f) = 0 := fun f hf => by
        have e := prim_vl z (piv f)
        rw [c2 f hf] at e
        exact (Int.mul_eq_zero.mp e).resolve_left (sgR_ne z)
      rw [zs] at zn goal
      have pl : piv (prim (clr F r)) < W := by rw [← lp]; exact (piv_spec (not_allZ (j := piv (prim (clr F r))) (by omega))).1
      have wb : ∀ f ∈ F, ¬ vl f (piv (prim (clr F r))) = 0 → ¬ allZ (wo f (piv (prim (clr F r))) (prim (clr F r))) ∧ Bb 13000 (wo f (piv (prim (clr F r))) (prim (clr F r))) := fun f hf _ => by
        refine ⟨wo_nz ((R.len f hf).trans lp.symm) pp (R.pos f hf) (pz f hf), ?_⟩
        have w1 := wo_bb (p := piv (prim (clr F r))) ((R.len f hf).trans lp.symm) pp (z2 f hf) (prim_bb z cb)
        refine w1.mono ?_
        have l1 : F.length + 1 ≤ rows.length := by omega
        have := Nat.mul_le_mul_right (szN b rows.length + 1) l1
        rw [Nat.succ_mul] at this
        omega
      generalize prim (clr F r) = pr at hp lp pp pb pz zn goal pl wb
      refine ⟨_, rfl, D2, pr, rfl, hp, fun H4 s4 => ?_⟩
      have s14 := s2.trans (s3.trans s4)
      have hp4 : LI H4 D2 pr := hp.same s4
      obtain ⟨fs, F1, F2⟩ := hF.same s14
      have lf := prd_len F2
      refine ⟨_, rfl, fd, rfl, ⟨_, SqL.of F1⟩, fun D3 hD3 => ?_⟩
      refine lc_list (K := K) (a := fd) (xs := fs.map V.ref) (fun j H' => Same H4 H' ∧ ∃ cs : List Addr, H' D3 = some (.lst (cs.map V.ref)) ∧ Paired (fun a r => a ≠ D3 ∧ H' a = some (.lst (r.map V.int))) cs ((F.map (upR pr)).take j)) ⟨AL.Same.new hD3, [], upd_same, .nil⟩ (fun i H' _ hh => SqL.of (hh.1 _ _ F1)) ?_ ?_
      · rintro j y H5 hy ⟨s5, cs, hd5, pr5⟩
        obtain ⟨h, hh, rfl⟩ := map_ref hy
        obtain ⟨f, hf, hfa⟩ := prd_get F2 hh
        have mf := List.mem_of_getElem? hf
        have lcs := prd_len pr5
        rw [List.length_take, List.length_map] at lcs
        have hf5 : LI H5 h f := s5 _ _ hfa
        have lfW := R.len f mf
        have hne : h ≠ D3 := fun e => by rw [e] at hfa; rw [show H4 D3 = _ from hfa] at hD3; cases hD3
        have g : (F.map (upR pr))[j]? = some (upR pr f) := by rw [List.getElem?_map, hf]; rfl
        have put : ∀ (q0 : Addr) (H6 : Hp), Same H5 H6 → q0 ≠ D3 → LI H6 q0 (upR pr f) → ∃ acc, H6 D3 = some (.lst acc) ∧ acc.length < sizeLine ∧ Same H4 (upd H6 D3 (.lst (acc ++ [.ref q0]))) ∧ ∃ cs : List Addr, upd H6 D3 (.lst (acc ++ [.ref q0])) D3 = some (.lst (cs.map V.ref)) ∧ Paired (fun a r => a ≠ D3 ∧ upd H6 D3 (.lst (acc ++ [.ref q0])) a = some (.lst (r.map V.int))) cs ((F.map (upR pr)).take (j + 1)) := fun q0 H6 s6 qn hq => by
          obtain ⟨r1, r2⟩ := rowsZ_snoc (s6 _ _ hd5) (paired_mono pr5 fun _ _ z => ⟨z.1, s6 _ _ z.2⟩) qn hq
          refine ⟨_, s6 _ _ hd5, ?_, AL.Same.updn (s5.trans s6) hD3, cs ++ [q0], r1, ?_⟩
          · rw [List.length_map]; exact Nat.lt_of_le_of_lt (by omega : _ ≤ 1000) (by decide)
          · rw [List.take_add_one, g]; exact r2
        refine ⟨rfl, ?_⟩
        have gx : atI (f.map V.int) ((piv pr : Nat) : Int) = some (.int (vl f (piv pr))) := by rw [atI_of (by rw [List.length_map]; omega), List.getElem?_map, vl_at (by omega : piv pr < f.length)]; rfl
        refine ⟨_, rfl, _, rfl, h, _, _, _, rfl, rfl, SqL.of hf5, gx, rfl, _, rfl, ?_⟩
        by_cases y0 : vl f (piv pr) = 0
        · rw [decide_eq_true (by rw [y0])]
          refine iteT ?_
          refine ⟨_, rfl, put h H5 (fun _ _ h => h) hne ?_⟩
          unfold upR
          rw [if_pos y0]; exact hf5
        · rw [decide_eq_false (fun w => y0 (by injection w))]
          refine iteF ?_
          obtain ⟨nz, wbb⟩ := wb f mf y0
          refine ⟨_, rfl, _, rfl, _, rfl, h, D2, piv pr, f, pr, rfl, hf5, hp4.same s5, lfW.trans lp.symm, by omega, pp, (z2 f mf).mono hs1, pb, by omega, fun D4 H6 s6 hD4 => ?_⟩
          refine ⟨D4, _, rfl, hD4, nz, wbb, ?_, fun D5 H7 hD5 s7 h7 => ?_⟩
          · have := wo_lin (x := f) (h := pr) (p := piv pr) (lfW.trans lp.symm) pp
            obtain ⟨_, _, _, l7, _⟩ := this
            omega
          · refine put D5 H7 (s6.trans s7) (fun e => ?_) ?_
            · rw [e, s6 _ _ hd5] at hD5; cases hD5
            · unfold upR
              rw [if_neg y0]; exact h7
      rintro H5 ⟨s5, cs, hd5, pr5⟩
      have ltk : (List.map V.ref fs).length = (F.map (upR pr)).length := by rw [List.length_map, List.length_map, lf]
      rw [ltk, List.take_length] at pr5
      have lcs := prd_len pr5
      rw [List.length_map] at lcs
      refine ⟨_, rfl, (by show 1 ≤ sizeLine; decide), fun lr1 hlr1 => ?_⟩
      have n6 := AL.Same.new (o := .lst [.ref D2]) hlr1
      refine ⟨D3, lr1, _, _, rfl, rfl, n6 _ _ hd5, upd_same, ?_, fun lc hlc => ?_⟩
      · rw [List.length_map]; exact Nat.le_trans (by show cs.length + 1 ≤ 100; omega) (by decide)
      have n7 := AL.Same.new (o := .lst (cs.map V.ref ++ [.ref D2])) hlc
      have s17 := s14.trans (s5.trans (n6.trans n7))
      refine goal s17 ?_ ⟨cs ++ [D2], by rw [upd_same, List.map_append]; rfl, prd_snoc (paired_mono pr5 fun _ _ z => (n6.trans n7) _ _ z.2) ((s5.trans (n6.trans n7)) _ _ hp4)⟩
      cases e : H lc with
      | none => rfl
      | some o => rw [n6 _ _ (s5 _ _ (s14 _ _ (s1 _ _ e)))] at hlc; cases hlc
    rintro σ H1 ⟨fd, v2, v3, rfl, s1, hfd, hF⟩
    rw [List.length_map, la, List.take_length] at hF
    obtain ⟨R, _, _⟩ := spn_spec hl
    have z1 := (sz rows.length).1
    rw [List.take_length] at z1
    generalize spn rows = F at hF R z1 q
    obtain ⟨fs, F1, F2⟩ := hF
    have lf := prd_len F2
    refine ⟨_, rfl, fd, _, rfl, SqL.of F1, fun D hD => ?_⟩
    refine lc_it (walk_enum (K := K) (a := fd) (xs := fs.map V.ref)) (fun i H' => Same H1 H' ∧ ∃ ts : List Addr, H' D = some (.lst (ts.map V.ref)) ∧ Paired (fun t k => t ≠ D ∧ H' t = some (.tup [.int (piv (F.getD k []) : Int), .int (k : Int)])) ts (List.range i)) ⟨AL.Same.new hD, [], upd_same, .nil⟩ (fun i H' _ hh => SqL.of (hh.1 _ _ F1)) ?_ ?_
    · rintro i x H0 H1' hi ⟨s0, ts, hd0, pr0⟩ ⟨T0, u1, u2, rfl, hT0, rfl, e1, e2⟩
      cases e1
      obtain ⟨a, ha, rfl⟩ := map_ref e2
      obtain ⟨f, hf, hfa⟩ := prd_get F2 ha
      have lts := prd_len pr0
      rw [List.length_range] at lts
      rw [List.length_map] at hi
      have nT := AL.Same.new (o := .tup [.int (i : Int), .ref a]) hT0
      have sT := s0.trans nT
      refine ⟨T0, _, rfl, SqT.of upd_same, rfl, _, _, rfl, _, _, rfl, rfl, rfl, ?_⟩
      refine ⟨_, rfl, a, f, rfl, (sT _ _ hfa : LI _ a f), fun H2 s2 => ?_⟩
      refine ⟨_, rfl, (by show 2 ≤ sizeLine; decide), fun t ht => ?_⟩
      have nt := AL.Same.new (o := .tup [.int (piv f : Int), .int (i : Int)]) ht
      have s3 := nT.trans (s2.trans nt)
      have hd3 := s3 _ _ hd0
      have tD : t ≠ D := fun e => by rw [e, (nT.trans s2) _ _ hd0] at ht; cases ht
      have gf : F.getD i [] = f := by rw [List.getD_eq_getElem?_getD, hf]; rfl
      refine ⟨_, hd3, ?_, AL.Same.updn (s0.trans s3) hD, ts ++ [t], by rw [upd_same, List.map_append]; rfl, ?_⟩
      · rw [List.length_map]; exact Nat.lt_of_le_of_lt (by omega : _ ≤ 1000) (by decide)
      · rw [List.range_succ]
        refine prd_snoc (paired_mono pr0 fun t' k z => ⟨z.1, Eq.trans (upd_ne z.1) (s3 _ _ z.2)⟩) ⟨tD, ?_⟩
        rw [gf]
        exact Eq.trans (upd_ne tD) upd_same
    rintro H2 ⟨s2, ts, hd2, pr2⟩
    rw [List.length_map, lf] at pr2
    have lts := prd_len pr2
    rw [List.length_range] at lts
    have pl : ∀ k, k < F.length → piv (F.getD k []) < 60 := fun k hk => by
      rw [List.getD_eq_getElem?_getD, List.getElem?_eq_getElem hk]
      exact Nat.lt_of_lt_of_le (piv_lt R (List.getElem_mem hk)) hW
    refine ⟨D, ts.map V.ref, rfl, SqL.of hd2, by rw [List.length_map]; omega, fun x hx => ?_, fun ys p pm asc hp => ?_⟩
    · obtain ⟨t, ht, rfl⟩ := List.mem_map.mp hx
      obtain ⟨i, hi⟩ := List.mem_iff_getElem?.mp ht
      obtain ⟨k, hk, _, htk⟩ := prd_get pr2 hi
      have kl := List.mem_range.mp (List.mem_of_getElem? hk)
      have := pl k kl
      refine ⟨[(piv (F.getD k []) : Int), (k : Int)], ⟨t, rfl, SqT.of htk⟩, rfl, fun m hm => ?_⟩
      rcases List.mem_cons.mp hm with rfl | hm
      · omega
      · rw [List.mem_singleton.mp hm]; omega
    obtain ⟨us, rfl, pu⟩ := vals_addr pm
    obtain ⟨ks, hks, pk⟩ := prd_perm pr2 pu
    have kl : ∀ k ∈ ks, k < F.length := fun k hk => List.mem_range.mp (pk.mem_iff.mp hk)
    have lus := prd_len hks
    have lks : ks.length = F.length := by rw [pk.length_eq, List.length_range]
    have np := AL.Same.new (o := .lst (us.map V.ref)) hp
    have hp3 : upd H2 p (.lst (us.map V.ref)) p = some (.lst (us.map V.ref)) := upd_same
    have hks3 : Paired (fun t k => upd H2 p (.lst (us.map V.ref)) t = some (.tup [.int (piv (F.getD k []) : Int), .int (k : Int)])) us ks := paired_mono hks fun _ _ z => np _ _ z.2
    have s13 := s2.trans np
    generalize upd H2 p (.lst (us.map V.ref)) = H3 at hp3 hks3 s13 ⊢
    refine ⟨_, rfl, p, rfl, ⟨_, SqL.of hp3⟩, fun D' hD' => ?_⟩
    refine lc_list (K := K) (a := p) (xs := us.map V.ref) (fun i H' => Same H3 H' ∧ ∃ cs : List Addr, H' D' = some (.lst (cs.map V.ref)) ∧ Paired (fun a r => a ≠ D' ∧ H' a = some (.lst (r.map V.int))) cs ((ks.map fun k => F.getD k []).take i)) ⟨AL.Same.new hD', [], upd_same, .nil⟩ (fun i H' _ hh => SqL.of (hh.1 _ _ hp3)) ?_ ?_
    · rintro i x H4 hx ⟨s4, cs, hd4, pr4⟩
      obtain ⟨t, ht, rfl⟩ := map_ref hx
      obtain ⟨k, hk, htk⟩ := prd_get hks3 ht
      have hkl := kl k (List.mem_of_getElem? hk)
      have hfk : F[k]? = some (F.getD k []) := by rw [List.getD_eq_getElem?_getD, List.getElem?_eq_getElem hkl]; rfl
      have hka : ∃ a, fs[k]? = some a ∧ H1 a = some (.lst ((F.getD k []).map V.int)) := by
        have lk : k < fs.length := by omega
        obtain ⟨f, e1, e2⟩ := prd_get F2 (List.getElem?_eq_getElem lk)
        rw [hfk] at e1
        cases Option.some.inj e1
        exact ⟨_, List.getElem?_eq_getElem lk, e2⟩
      obtain ⟨a, hka, haF⟩ := hka
      have lcs := prd_len pr4
      rw [List.length_take, List.length_map] at lcs
      have ha4 := s4 _ _ (s13 _ _ haF)
      have aD : a ≠ D' := fun e => by rw [← e, s13 _ _ haF] at hD'; cases hD'
      refine ⟨t, _, rfl, SqT.of (s4 _ _ htk), rfl, _, _, rfl, _, _, rfl, rfl, rfl, ?_⟩
      obtain ⟨r1, r2⟩ := rowsZ_snoc hd4 pr4 aD ha4
      refine ⟨_, rfl, _, rfl, fd, _, _, .ref a, rfl, rfl, SqL.of (s4 _ _ (s13 _ _ F1)), ?_, _, hd4, ?_, AL.Same.updn s4 hD', cs ++ [a], r1, ?_⟩
      · rw [atI_of (by rw [List.length_map]; omega), List.getElem?_map, hka]; rfl
      · rw [List.length_map]; exact Nat.lt_of_le_of_lt (by omega : _ ≤ 1000) (by decide)
      · have g : (ks.map fun k => F.getD k [])[i]? = some (F.getD k []) := by rw [List.getElem?_map, hk]; rfl
        rw [List.take_add_one, g]; exact r2
    rintro H4 ⟨s4, cs, hd4, pr4⟩
    have ltk : (List.map V.ref us).length = (ks.map fun k => F.getD k []).length := by rw [List.length_map, List.length_map, lus]
    rw [ltk, List.take_length] at pr4
    refine q D' H4 (ks.map fun k => F.getD k []) ?_ (s1.trans (s13.trans s4)) ⟨cs, hd4, paired_mono pr4 fun _ _ z => z.2⟩ ?_ ?_
    · cases e : H D' with
      | none => rfl
      | some o => rw [s13 _ _ (s1 _ _ e)] at hD'; cases hD'
    · have e : F = (List.range F.length).map fun k => F.getD k [] := by
        refine List.ext_getElem (by rw [List.length_map, List.length_range]) fun j h1 h2 => ?_
        rw [List.getElem_map, List.getElem_range, List.getD_eq_getElem?_getD, List.getElem?_eq_getElem h1]; rfl
      have w := pk.map fun k => F.getD k []
      rw [← e] at w
      exact w
    · rw [List.pairwise_map]
      have nd : ks.Nodup := (List.Perm.nodup_iff pk).mpr List.nodup_range
      rw [List.pairwise_map] at asc
      have gd : ∀ k, k < F.length → F[k]? = some (F.getD k []) := fun k hk => by rw [List.getD_eq_getElem?_getD, List.getElem?_eq_getElem hk]; rfl
      exact asc_piv hks asc nd (fun k hk => ⟨pl k (kl k hk), by have := kl k hk; omega⟩) fun i hi k hk ne => rref_nodup R (gd i (kl i hi)) (gd k (kl k hk)) (Ne.symm ne)
end
end AL
set_option Elab.async false
set_option maxRecDepth 100000
set_option exponentiation.threshold 70000
set_option maxHeartbeats 1000000
namespace AL
open PySem PySem.Spec PyProof.Rows L2 RZ
section
variable {P : Program} {w : World} {K : PySem.W.Frag} {mg : Str → Option Value} {base : Heap}

theorem sqB_same7 {K : PySem.W.Frag} {H H' : Hp} {a : Addr} {xs : List V} {k : Bool} (h : SqB K H a xs k) (s : Same H H') : SqB K H' a xs k := by
  cases k with
  | true => exact Same.seq s h
  | false => exact same_seqT s h
/-- what is no list: none, an int, a text -/
inductive Atom : V → Prop
  | non : Atom .non
  | int (i : Int) : Atom (.int i)
  | str (s : Str) : Atom (.str s)
def spIsLv (K : PySem.W.Frag) : Sp := fun vs H Q _ => ∃ v : V, vs = [v] ∧ ((∃ (a : Addr) (xs : List V), v = .ref a ∧ (H a = some (.lst xs) ∨ H a = some (.tup xs)) ∧ ∀ H', Same H H' → Q (.bl true) H') ∨ (Atom v ∧ ∀ H', Same H H' → Q (.bl false) H'))
def spWhI : Sp := fun vs H Q _ => ∃ (i : Int), vs = [.int i] ∧ Q (.bl true) H
/-- are_integers(items), ints in a list or a tuple -/
def spAreL : Sp := fun vs H Q _ => ∃ (a : Addr) (xs : List Int), vs = [.ref a] ∧ LT H a xs ∧ xs.length ≤ 200 ∧ ∀ H', Same H H' → Q (.bl true) H'
/-- is_matrix(rows) -/
def spMat : Sp := fun vs H Q _ => ∃ (w : Addr) (n : Nat) (rows : List Rw), vs = [.ref w] ∧ RowsA H w rows ∧ rows ≠ [] ∧ (∀ r ∈ rows, r.length = n) ∧ 0 < n ∧ n ≤ 100 ∧ rows.length ≤ 100 ∧ ∀ H', Same H H' → Q (.bl true) H'
/-- check_matrix(rows, what) -/
def spChM : Sp := fun vs H Q _ => ∃ (w : Addr) (n : Nat) (rows : List Rw) (v : V), vs = [.ref w, v] ∧ RowsA H w rows ∧ rows ≠ [] ∧ (∀ r ∈ rows, r.length = n) ∧ 0 < n ∧ n ≤ 100 ∧ rows.length ≤ 100 ∧ ∀ H', Same H H' → Q .non H'
/-- check_exponents(exponents, result) -/
def spChE : Sp := fun vs H Q _ => ∃ (w r : Addr) (n : Nat) (rows : List Rw) (rs : Rw), vs = [.ref w, .ref r] ∧ RowsA H w rows ∧ rows ≠ [] ∧ (∀ r ∈ rows, r.length = n) ∧ 0 < n ∧ n ≤ 100 ∧ rows.length ≤ 100 ∧ LT H r rs ∧ rs.length = n ∧ ∀ H', Same H H' → Q .non H'
theorem RowsA.same {H H' : Hp} {w : Addr} {ws : List Rw} (h : RowsA H w ws) (s : Same H H') : RowsA H' w ws := by
  obtain ⟨as, h1, h2⟩ := h
  exact ⟨as, h1.imp (s _ _) (s _ _), paired_mono h2 fun _ _ z => z.same s⟩
theorem all_rep (n : Nat) : (List.replicate n true).all id = true := by rw [List.all_eq_true]; intro x hx; rw [List.eq_of_mem_replicate hx]; rfl
theorem bl_snoc (n : Nat) : (List.replicate n true).map V.bl ++ [.bl true] = (List.replicate (n + 1) true).map V.bl := by rw [List.replicate_succ', List.map_append]; rfl

abbrev stis_list : Stmt := top 11
theorem scis_list : FnScope ["value"] ["value"] (defScope stis_list) := ⟨rfl, rfl, rfl, by decide +kernel, rfl, by decide +kernel, by decide +kernel⟩
theorem okis_list (B : Blt mg)  {fis_list : Addr} {fdis_list : FuncData} (Dis_list : DefAt K mg "is_list" stis_list ["value"] fis_list fdis_list) : FnOk P w K mg base CX0 1 fis_list fdis_list ["value"] (spIsLv K) := by
  refine Dis_list.F.ok scis_list (fun vs H Q E h => ?_) (fun cdv A outer s H vs Q E hr h => ?_)
  · obtain ⟨v, rfl, _⟩ := h; rfl
  · have hu := hu_of hr
    refine ⟨_, (pss_one (ps_ret (pe_callB call_isiT (by rfl) B.isinstance_ (by decide +kernel) (pa_cons (pv 0) (pa_cons (pe_tup (pa_cons (pe_bltn (v := .ty "list") (by rfl) B.list_ PyProof.Rows.Boot.«list» rfl) (pa_cons (pe_bltn (v := .ty "tuple") (by rfl) B.tuple_ PyProof.Rows.Boot.«tuple» rfl) pa_nil))) pa_nil))))), ?_⟩
    obtain ⟨v, rfl, h⟩ := h
    rcases h with ⟨a, xs, rfl, ha, q⟩ | ⟨at_, q⟩
    · refine ⟨_, rfl, (by show 2 ≤ sizeLine; decide), fun T hT => ?_⟩
      have n1 := AL.Same.new (o := .tup [.ty "list", .ty "tuple"]) hT
      rcases ha with ha | ha
      · exact ⟨_, T, _, _, _, true, rfl, upd_same, .cons (ClsV.ty _) (.cons (ClsV.ty _) .nil), TyX.base (.lst (n1 _ _ ha)), rfl, q _ n1⟩
      · exact ⟨_, T, _, _, _, true, rfl, upd_same, .cons (ClsV.ty _) (.cons (ClsV.ty _) .nil), TyX.base (.tup (n1 _ _ ha)), rfl, q _ n1⟩
    · refine ⟨_, rfl, (by show 2 ≤ sizeLine; decide), fun T hT => ?_⟩
      have n1 := AL.Same.new (o := .tup [.ty "list", .ty "tuple"]) hT
      cases at_ with
      | non => exact ⟨_, T, _, _, _, false, rfl, upd_same, .cons (ClsV.ty _) (.cons (ClsV.ty _) .nil), TyX.base .non, rfl, q _ n1⟩
      | int i => exact ⟨_, T, _, _, _, false, rfl, upd_same, .cons (ClsV.ty _) (.cons (ClsV.ty _) .nil), TyX.base (.int _), rfl, q _ n1⟩
      | str s => exact ⟨_, T, _, _, _, false, rfl, upd_same, .cons (ClsV.ty _) (.cons (ClsV.ty _) .nil), TyX.base (.str _), rfl, q _ n1⟩
abbrev stis_whole : Stmt := top 10
theorem scis_whole : FnScope ["value"] ["value"] (defScope stis_whole) := ⟨rfl, rfl, rfl, by decide +kernel, rfl, by decide +kernel, by decide +kernel⟩
theorem okis_whole (B : Blt mg)  {fis_whole : Addr} {fdis_whole : FuncData} (Dis_whole : DefAt K mg "is_whole" stis_whole ["value"] fis_whole fdis_whole) : FnOk P w K mg base CX0 1 fis_whole fdis_whole ["value"] spWhI := by
  refine Dis_whole.F.ok scis_whole (fun vs H Q E h => ?_) (fun cdv A outer s H vs Q E hr h => ?_)
  · obtain ⟨i, rfl, _⟩ := h; rfl
  · have hu := hu_of hr
    refine ⟨_, (pss_one (ps_ret (pe_and (pe_callB call_isi (by rfl) B.isinstance_ (by decide +kernel) (pa_cons (pv 0) (pa_cons (pe_bltn (v := .ty "int") (by rfl) B.int_ PyProof.Rows.Boot.«int» rfl) pa_nil))) (pe_one (pe_not (pe_callB call_isi (by rfl) B.isinstance_ (by decide +kernel) (pa_cons (pv 0) (pa_cons (pe_bltn (v := .ty "bool") (by rfl) B.bool_ PyProof.Rows.Boot.«bool» rfl) pa_nil)))))))), ?_⟩
    obtain ⟨i, rfl, q⟩ := h
    refine ⟨_, rfl, _, _, _, _, _, rfl, ClsV.ty _, TyX.base (.int _), rfl, true, rfl, ?_⟩
    refine iteT ?_
    refine ⟨_, rfl, _, _, _, _, _, rfl, ClsV.ty _, TyX.base (.int _), rfl, _, rfl, ?_⟩
    exact q
abbrev stare_integers : Stmt := top 12
theorem scare_integers : FnScope ["items", "item"] ["items"] (defScope stare_integers) := ⟨rfl, rfl, rfl, by decide +kernel, rfl, by decide +kernel, by decide +kernel⟩
theorem okare_integers (B : Blt mg)  {fis_whole : Addr} {fdis_whole : FuncData} (Dis_whole : DefAt K mg "is_whole" stis_whole ["value"] fis_whole fdis_whole) {fare_integers : Addr} {fdare_integers : FuncData} (Dare_integers : DefAt K mg "are_integers" stare_integers ["items"] fare_integers fdare_integers) : FnOk P w K mg base CX0 2 fare_integers fdare_integers ["items"] spAreL := by
  have OKis_whole : FnOk P w K mg base CX0 1 fis_whole fdis_whole ["value"] spWhI := okis_whole B  Dis_whole
  refine Dare_integers.F.ok scare_integers (fun vs H Q E h => ?_) (fun cdv A outer s H vs Q E hr h => ?_)
  · obtain ⟨a, xs, rfl, _⟩ := h; rfl
  · have hu := hu_of hr
    refine ⟨_, (pss_one (ps_ret (pe_callB (cr_all rfl) (by rfl) B.all_ (by decide +kernel) (pa_cons (pe_lc (own := [("item", 1)]) (g := gName 1) (tt := tYes) rfl scare_integers.nd (pi_seq (pv 0)) (blkOk_by (own := [("item", 1)]) (N := ["items", "item"]) (sc := defScope stare_integers) (by decide +kernel)) (fun _ _ _ _ _ => pg_name (i := 1) scare_integers.nd rfl (Or.inl rfl)) (fun _ _ _ _ _ => pts_nil) (fun _ _ _ _ _ => (pe_call OKis_whole (hr.mono (by decide)) rfl Dis_whole.m Dis_whole.F.kp Dis_whole.b .nil pass0 (pa_cons (pv 1) pa_nil)))) pa_nil)))), ?_⟩
    obtain ⟨a, xs, rfl, ha, l2, q⟩ := h
    obtain ⟨kb, hb⟩ := ha.sqb (K := K)
    refine ⟨_, rfl, a, kb, rfl, ⟨_, hb⟩, fun D hD => ?_⟩
    refine lc_seq (K := K) (a := a) (k := kb) (xs := xs.map V.int) (fun i H' => Same H H' ∧ H' D = some (.lst ((List.replicate i true).map V.bl))) ⟨AL.Same.new hD, upd_same⟩ (fun i H' _ hh => sqB_same7 hb hh.1) ?_ ?_
    · rintro i x H1 hx ⟨s1, hd⟩
      obtain ⟨z, hz, rfl⟩ := map_int hx
      have il := (List.getElem?_eq_some_iff.mp hz).1
      refine ⟨rfl, ?_⟩
      refine ⟨_, rfl, z, rfl, _, hd, ?_, AL.Same.updn s1 hD, by rw [upd_same, bl_snoc]⟩
      rw [List.length_map, List.length_replicate]; exact Nat.lt_of_le_of_lt (by omega : _ ≤ 1000) (by decide)
    rintro H1 ⟨s1, hd⟩
    refine ⟨D, _, rfl, SqL.of hd, ?_⟩
    rw [all_rep]
    exact q H1 s1
abbrev stis_matrix : Stmt := top 24
theorem scis_matrix : FnScope ["rows", "row", "width"] ["rows"] (defScope stis_matrix) := ⟨rfl, rfl, rfl, by decide +kernel, rfl, by decide +kernel, by decide +kernel⟩
theorem okis_matrix (B : Blt mg)  {fis_list : Addr} {fdis_list : FuncData} (Dis_list : DefAt K mg "is_list" stis_list ["value"] fis_list fdis_list) {fis_matrix : Addr} {fdis_matrix : FuncData} (Dis_matrix : DefAt K mg "is_matrix" stis_matrix ["rows"] fis_matrix fdis_matrix) : FnOk P w K mg base CX0 2 fis_matrix fdis_matrix ["rows"] spMat := by
  have OKis_list : FnOk P w K mg base CX0 1 fis_list fdis_list ["value"] (spIsLv K) := okis_list B  Dis_list
  refine Dis_matrix.F.ok scis_matrix (fun vs H Q E h => ?_) (fun cdv A outer s H vs Q E hr h => ?_)
  · obtain ⟨w, n, rows, rfl, _⟩ := h; rfl
  · have hu := hu_of hr
    refine ⟨_, (pss_cons (ps_if (PW.pt (pw_or (pt_not (pt_val (pe_call OKis_list (hr.mono (by decide)) rfl Dis_list.m Dis_list.F.kp Dis_list.b .nil pass0 (pa_cons (pv 0) pa_nil)))) (pw_or (pt_cmpR op_eq (pe_callB call_len_seq (by rfl) B.len_ (by decide +kernel) (pa_cons (pv 0) pa_nil)) pe_int (nomark _)) (pw_or1 (pt_not (pt_val (pe_callB (cr_all rfl) (by rfl) B.all_ (by decide +kernel) (pa_cons (pe_lc (own := [("row", 1)]) (g := gName 1) (tt := tYes) rfl scis_matrix.nd (pi_seq (pv 0)) (blkOk_by (own := [("row", 1)]) (N := ["rows", "row", "width"]) (sc := defScope stis_matrix) (by decide +kernel)) (fun _ _ _ _ _ => pg_name (i := 1) scis_matrix.nd rfl (Or.inl rfl)) (fun _ _ _ _ _ => pts_nil) (fun _ _ _ _ _ => (pe_call OKis_list (hr.mono (by decide)) rfl Dis_list.m Dis_list.F.kp Dis_list.b .nil pass0 (pa_cons (pv 1) pa_nil)))) pa_nil)))))))) (pss_one (ps_ret pe_bl)) pss_nil)
    (pss_cons (ps_set (i := 2) scis_matrix.nd rfl (Or.inr rfl) (pe_callB call_len_seq (by rfl) B.len_ (by decide +kernel) (pa_cons (pe_ix (ix_seq : IxR _ (rIx K)) (pv 0) pe_int (fun _ _ => rfl)) pa_nil)))
    (pss_one (ps_ret (pe_and (pe_cmpR op_gt (pv 2) pe_int (nomark _)) (pe_one (pe_callB (cr_all rfl) (by rfl) B.all_ (by decide +kernel) (pa_cons (pe_lc (own := [("row", 1)]) (g := gName 1) (tt := tYes) rfl scis_matrix.nd (pi_seq (pv 0)) (blkOk_by (own := [("row", 1)]) (N := ["rows", "row", "width"]) (sc := defScope stis_matrix) (by decide +kernel)) (fun _ _ _ _ _ => pg_name (i := 1) scis_matrix.nd rfl (Or.inl rfl)) (fun _ _ _ _ _ => pts_nil) (fun _ _ _ _ _ => (pe_cmpR op_eq (pe_callB (call_lenK : CallR _ (.builtin "len") (rLenK K)) (by rfl) B.len_ (by decide +kernel) (pa_cons (pv 1) pa_nil)) (pv 2) (nomark _)))) pa_nil)))))))), ?_⟩
    obtain ⟨w, n, rows, rfl, hw, ne, hl, n0, hn, hm, q⟩ := h
    obtain ⟨as, W1, W2⟩ := hw
    obtain ⟨kk, sq⟩ := sq_of0 (K := K) W1
    have la := prd_len W2
    have lr : 0 < rows.length := List.length_pos_iff.mpr ne
    refine ⟨_, rfl, .ref w, rfl, .inl ⟨w, _, rfl, W1, fun H1 s1 => ⟨true, rfl, ?_⟩⟩⟩
    refine iteF ?_
    refine ⟨_, rfl, w, _, rfl, (W1.imp (fun z => SqL.of (s1 _ _ z)) fun z => SqT.of (s1 _ _ z)), rfl, _, rfl, ?_⟩
    rw [decide_eq_false (fun z => by injection z with z; rw [List.length_map] at z; omega)]
    refine iteF ?_
    refine ⟨_, rfl, w, kk, rfl, ⟨_, sq _ s1⟩, fun D hD => ?_⟩
    refine lc_seq (K := K) (a := w) (k := kk) (xs := as.map V.ref) (fun i H' => Same H1 H' ∧ H' D = some (.lst ((List.replicate i true).map V.bl))) ⟨AL.Same.new hD, upd_same⟩ (fun i H' _ hh => sq _ (s1.trans hh.1)) ?_ ?_
    · rintro i x H2 hx ⟨s2, hd⟩
      obtain ⟨a, ha, rfl⟩ := map_ref hx
      obtain ⟨r, hr, hra⟩ := prd_get W2 ha
      have il := (List.getElem?_eq_some_iff.mp hr).1
      refine ⟨rfl, ?_⟩
      refine ⟨_, rfl, .ref a, rfl, .inl ⟨a, _, rfl, hra.same (s1.trans s2), fun H3 s3 => ⟨_, s3 _ _ hd, ?_, AL.Same.updn (s2.trans s3) hD, by rw [upd_same, bl_snoc]⟩⟩⟩
      rw [List.length_map, List.length_replicate]; exact Nat.lt_of_le_of_lt (by omega : _ ≤ 1000) (by decide)
    rintro H2 ⟨s2, hd⟩
    refine ⟨D, _, rfl, SqL.of hd, _, rfl, ?_⟩
    rw [all_rep]
    refine iteF ?_
    have s12 := s1.trans s2
    obtain ⟨r0, rows', rfl⟩ : ∃ r0 rows', rows = r0 :: rows' := by
      cases rows with
      | nil => exact absurd rfl ne
      | cons r0 rows' => exact ⟨r0, rows', rfl⟩
    obtain ⟨a0, as', rfl⟩ : ∃ a0 as', as = a0 :: as' := by
      cases as with
      | nil => simp at la
      | cons a0 as' => exact ⟨a0, as', rfl⟩
    have h0 : LT H a0 r0 := by cases W2 with | cons z _ => exact z
    have l0 := hl r0 (List.mem_cons_self ..)
    generalize r0 :: rows' = rows at *
    have g0 : atI ((a0 :: as').map V.ref) 0 = some (.ref a0) := atI_of (by rw [List.length_map, List.length_cons]; omega : 0 < _)
    refine ⟨_, rfl, rIx_seq0 (W1.imp (s12 _ _) (s12 _ _)) g0 ?_⟩
    refine ⟨a0, _, rfl, (h0.same s12).seq, ?_⟩
    refine ⟨_, rfl, _, _, rfl, rfl, true, congrArg V.bl (decide_eq_true (by rw [List.length_map]; omega)), ?_⟩
    refine iteT ?_
    refine ⟨_, rfl, w, kk, rfl, ⟨_, sq _ s12⟩, fun D2 hD2 => ?_⟩
    refine lc_seq (K := K) (a := w) (k := kk) (xs := (a0 :: as').map V.ref) (fun i H' => Same H2 H' ∧ H' D2 = some (.lst ((List.replicate i true).map V.bl))) ⟨AL.Same.new hD2, upd_same⟩ (fun i H' _ hh => sq _ (s12.trans hh.1)) ?_ ?_
    · rintro i x H3 hx ⟨s3, hd3⟩
      obtain ⟨a, ha, rfl⟩ := map_ref hx
      obtain ⟨r, hr, hra⟩ := prd_get W2 ha
      have il := (List.getElem?_eq_some_iff.mp hr).1
      have lrr := hl r (List.mem_of_getElem? hr)
      refine ⟨rfl, ?_⟩
      refine ⟨_, rfl, a, _, rfl, (hra.same (s12.trans s3)).seq, _, rfl, rfl, _, hd3, ?_, AL.Same.updn s3 hD2, ?_⟩
      · rw [List.length_map, List.length_replicate]; exact Nat.lt_of_le_of_lt (by omega : _ ≤ 1000) (by decide)
      · rw [List.length_map, List.length_map, lrr, l0, decide_eq_true rfl, upd_same, bl_snoc]
    rintro H3 ⟨s3, hd3⟩
    refine ⟨D2, _, rfl, SqL.of hd3, ?_⟩
    rw [all_rep]
    exact q H3 (s12.trans s3)
end
end AL
set_option Elab.async false
set_option maxRecDepth 100000
set_option exponentiation.threshold 70000
set_option maxHeartbeats 1000000
namespace AL
open PySem PySem.Spec PyProof.Rows L2 RZ
section
variable {P : Program} {w : World} {K : PySem.W.Frag} {mg : Str → Option Value} {base : Heap}

abbrev TC := V ⊕ List V
/-- a value without a list, or a list or a tuple of such -/
def R1 (H : Hp) (v : V) : TC → Prop
  | .inl u => v = u ∧ Atom u
  | .inr xs => ∃ a, v = .ref a ∧ (H a = some (.lst xs) ∨ H a = some (.tup xs)) ∧ xs.length ≤ 100 ∧ ∀ x ∈ xs, Atom x
def Res1 (H : Hp) (y : V) : TC → Prop
  | .inl u => y = u
  | .inr xs => ∃ t, y = .ref t ∧ H t = some (.tup xs)
theorem R1.same {H H' : Hp} {v : V} {c : TC} (h : R1 H v c) (s : Same H H') : R1 H' v c := by
  cases c with
  | inl u => exact h
  | inr xs => obtain ⟨a, h1, h2, h3⟩ := h; exact ⟨a, h1, h2.imp (s _ _) (s _ _), h3⟩
theorem Res1.same {H H' : Hp} {v : V} {c : TC} (h : Res1 H v c) (s : Same H H') : Res1 H' v c := by
  cases c with
  | inl u => exact h
  | inr xs => obtain ⟨a, h1, h2⟩ := h; exact ⟨a, h1, s _ _ h2⟩
def spAs0 : Sp := fun vs H Q _ => ∃ v : V, vs = [v] ∧ Atom v ∧ ∀ H', Same H H' → Q v H'
def spAs1 : Sp := fun vs H Q _ => ∃ (v : V) (c : TC), vs = [v] ∧ R1 H v c ∧ ∀ H' y, Same H H' → Res1 H' y c → Q y H'
/-- as_tuples(value), a list or a tuple -/
def spAs2 : Sp := fun vs H Q _ => ∃ (a : Addr) (us : List V) (cs : List TC), vs = [.ref a] ∧ (H a = some (.lst us) ∨ H a = some (.tup us)) ∧ Paired (R1 H) us cs ∧ us.length ≤ 100 ∧ ∀ t H' ys, Same H H' → H' t = some (.tup ys) → Paired (Res1 H') ys cs → Q (.ref t) H'
theorem res_atoms {H : Hp} : ∀ {ys xs : List V}, Paired (Res1 H) ys (xs.map .inl) → ys = xs
  | [], [], _ => rfl
  | _ :: _, _ :: _, .cons h t => by rw [show _ = _ from h, res_atoms t]
theorem sq_of {K : PySem.W.Frag} {H : Hp} {a : Addr} {us : List V} (h : H a = some (.lst us) ∨ H a = some (.tup us)) : ∃ k, ∀ H', Same H H' → SqB K H' a us k := by
  rcases h with z | z
  · exact ⟨true, fun H' s => SqL.of (s _ _ z)⟩
  · exact ⟨false, fun H' s => SqT.of (s _ _ z)⟩

abbrev stcheck_matrix : Stmt := top 25
theorem sccheck_matrix : FnScope ["rows", "what", "row"] ["rows", "what"] (defScope stcheck_matrix) := ⟨rfl, rfl, rfl, by decide +kernel, rfl, by decide +kernel, by decide +kernel⟩
theorem okcheck_matrix (B : Blt mg)  {fis_whole : Addr} {fdis_whole : FuncData} (Dis_whole : DefAt K mg "is_whole" stis_whole ["value"] fis_whole fdis_whole) {fare_integers : Addr} {fdare_integers : FuncData} (Dare_integers : DefAt K mg "are_integers" stare_integers ["items"] fare_integers fdare_integers) {fis_list : Addr} {fdis_list : FuncData} (Dis_list : DefAt K mg "is_list" stis_list ["value"] fis_list fdis_list) {fis_matrix : Addr} {fdis_matrix : FuncData} (Dis_matrix : DefAt K mg "is_matrix" stis_matrix ["rows"] fis_matrix fdis_matrix) {fcheck_matrix : Addr} {fdcheck_matrix : FuncData} (Dcheck_matrix : DefDf [.str "rows"] K mg "check_matrix" stcheck_matrix ["rows", "what"] fcheck_matrix fdcheck_matrix) : FnOk P w K mg base CX0 3 fcheck_matrix fdcheck_matrix ["rows", "what"] spChM := by
  have OKare_integers : FnOk P w K mg base CX0 2 fare_integers fdare_integers ["items"] spAreL := okare_integers B  Dis_whole Dare_integers
  have OKis_matrix : FnOk P w K mg base CX0 2 fis_matrix fdis_matrix ["rows"] spMat := okis_matrix B  Dis_list Dis_matrix
  refine Dcheck_matrix.F.ok sccheck_matrix (fun vs H Q E h => ?_) (fun cdv A outer s H vs Q E hr h => ?_)
  · obtain ⟨w, n, rows, v, rfl, _⟩ := h; rfl
  · have hu := hu_of hr
    refine ⟨_, PSs.nox (pss_one (ps_if (PW.pt (pw_or (pt_not (pt_val (pe_call OKis_matrix (hr.mono (by decide)) rfl Dis_matrix.m Dis_matrix.F.kp Dis_matrix.b .nil pass0 (pa_cons (pv 0) pa_nil)))) (pw_or1 (pt_not (pt_val (pe_callB (cr_all rfl) (by rfl) B.all_ (by decide +kernel) (pa_cons (pe_lc (own := [("row", 2)]) (g := gName 2) (tt := tYes) rfl sccheck_matrix.nd (pi_seq (pv 0)) (blkOk_by (own := [("row", 2)]) (N := ["rows", "what", "row"]) (sc := defScope stcheck_matrix) (by decide +kernel)) (fun _ _ _ _ _ => pg_name (i := 2) sccheck_matrix.nd rfl (Or.inl rfl)) (fun _ _ _ _ _ => pts_nil) (fun _ _ _ _ _ => (pe_call OKare_integers (hr.mono (by decide)) rfl Dare_integers.m Dare_integers.F.kp Dare_integers.b .nil pass0 (pa_cons (pv 2) pa_nil)))) pa_nil))))))) (pss_one ps_never) pss_nil)), ?_⟩
    obtain ⟨w, n, rows, v, rfl, hw, ne, hl, n0, hn, hm, q⟩ := h
    obtain ⟨as, W1, W2⟩ := id hw
    obtain ⟨kk, sq⟩ := sq_of0 (K := K) W1
    have la := prd_len W2
    refine ⟨_, rfl, w, n, rows, rfl, hw, ne, hl, n0, hn, hm, fun H1 s1 => ⟨true, rfl, ?_⟩⟩
    refine iteF ?_
    refine ⟨_, rfl, w, kk, rfl, ⟨_, sq _ s1⟩, fun D hD => ?_⟩
    refine lc_seq (K := K) (a := w) (k := kk) (xs := as.map V.ref) (fun i H' => Same H1 H' ∧ H' D = some (.lst ((List.replicate i true).map V.bl))) ⟨AL.Same.new hD, upd_same⟩ (fun i H' _ hh => sq _ (s1.trans hh.1)) ?_ ?_
    · rintro i x H2 hx ⟨s2, hd⟩
      obtain ⟨a, ha, rfl⟩ := map_ref hx
      obtain ⟨r, hr, hra⟩ := prd_get W2 ha
      have il := (List.getElem?_eq_some_iff.mp hr).1
      have lrr := hl r (List.mem_of_getElem? hr)
      refine ⟨rfl, ?_⟩
      refine ⟨_, rfl, a, r, rfl, (hra.same (s1.trans s2) : LT _ a r), by omega, fun H3 s3 => ⟨_, s3 _ _ hd, ?_, AL.Same.updn (s2.trans s3) hD, by rw [upd_same, bl_snoc]⟩⟩
      rw [List.length_map, List.length_replicate]; exact Nat.lt_of_le_of_lt (by omega : _ ≤ 1000) (by decide)
    rintro H2 ⟨s2, hd⟩
    refine ⟨D, _, rfl, SqL.of hd, _, rfl, ?_⟩
    rw [all_rep]
    refine iteF ?_
    exact q H2 (s1.trans s2)
abbrev stcheck_exponents : Stmt := top 31
theorem sccheck_exponents : FnScope ["exponents", "result"] ["exponents", "result"] (defScope stcheck_exponents) := ⟨rfl, rfl, rfl, by decide +kernel, rfl, by decide +kernel, by decide +kernel⟩
theorem okcheck_exponents (B : Blt mg)  {fis_whole : Addr} {fdis_whole : FuncData} (Dis_whole : DefAt K mg "is_whole" stis_whole ["value"] fis_whole fdis_whole) {fare_integers : Addr} {fdare_integers : FuncData} (Dare_integers : DefAt K mg "are_integers" stare_integers ["items"] fare_integers fdare_integers) {fis_list : Addr} {fdis_list : FuncData} (Dis_list : DefAt K mg "is_list" stis_list ["value"] fis_list fdis_list) {fis_matrix : Addr} {fdis_matrix : FuncData} (Dis_matrix : DefAt K mg "is_matrix" stis_matrix ["rows"] fis_matrix fdis_matrix) {fcheck_matrix : Addr} {fdcheck_matrix : FuncData} (Dcheck_matrix : DefDf [.str "rows"] K mg "check_matrix" stcheck_matrix ["rows", "what"] fcheck_matrix fdcheck_matrix) {fcheck_exponents : Addr} {fdcheck_exponents : FuncData} (Dcheck_exponents : DefAt K mg "check_exponents" stcheck_exponents ["exponents", "result"] fcheck_exponents fdcheck_exponents) : FnOk P w K mg base CX0 4 fcheck_exponents fdcheck_exponents ["exponents", "result"] spChE := by
  have OKare_integers : FnOk P w K mg base CX0 2 fare_integers fdare_integers ["items"] spAreL := okare_integers B  Dis_whole Dare_integers
  have OKcheck_matrix : FnOk P w K mg base CX0 3 fcheck_matrix fdcheck_matrix ["rows", "what"] spChM := okcheck_matrix B  Dis_whole Dare_integers Dis_list Dis_matrix Dcheck_matrix
  have OKis_list : FnOk P w K mg base CX0 1 fis_list fdis_list ["value"] (spIsLv K) := okis_list B  Dis_list
  refine Dcheck_exponents.F.ok sccheck_exponents (fun vs H Q E h => ?_) (fun cdv A outer s H vs Q E hr h => ?_)
  · obtain ⟨w, r, n, rows, rs, rfl, _⟩ := h; rfl
  · have hu := hu_of hr
    refine ⟨_, (pss_cons (ps_expr (pe_call OKcheck_matrix (hr.mono (by decide)) rfl Dcheck_matrix.m Dcheck_matrix.F.kp Dcheck_matrix.b .nil pass0 (pa_cons (pv 0) (pa_cons pe_str pa_nil))))
    (pss_one (ps_if (PW.pt (pw_or (pt_not (pt_val (pe_call OKis_list (hr.mono (by decide)) rfl Dis_list.m Dis_list.F.kp Dis_list.b .nil pass0 (pa_cons (pv 1) pa_nil)))) (pw_or (pt_cmpR op_ne (pe_callB call_len_seq (by rfl) B.len_ (by decide +kernel) (pa_cons (pv 1) pa_nil)) (pe_callB call_len_seq (by rfl) B.len_ (by decide +kernel) (pa_cons (pe_ix (ix_seq : IxR _ (rIx K)) (pv 0) pe_int (fun _ _ => rfl)) pa_nil)) (nomark _)) (pw_or1 (pt_not (pt_val (pe_call OKare_integers (hr.mono (by decide)) rfl Dare_integers.m Dare_integers.F.kp Dare_integers.b .nil pass0 (pa_cons (pv 1) pa_nil)))))))) (pss_one ps_never) pss_nil))), ?_⟩
    obtain ⟨w, r, n, rows, rs, rfl, hw, ne, hl, n0, hn, hm, hr, lr, q⟩ := h
    refine ⟨_, rfl, w, n, rows, _, rfl, hw, ne, hl, n0, hn, hm, fun H1 s1 => ?_⟩
    obtain ⟨as, W1, W2⟩ := hw.same s1
    have la := prd_len W2
    have hr1 := hr.same s1
    refine ⟨_, rfl, .ref r, rfl, .inl ⟨r, _, rfl, hr1, fun H2 s2 => ⟨true, rfl, ?_⟩⟩⟩
    refine iteF ?_
    obtain ⟨r0, rows', rfl⟩ : ∃ r0 rows', rows = r0 :: rows' := by
      cases rows with
      | nil => exact absurd rfl ne
      | cons r0 rows' => exact ⟨r0, rows', rfl⟩
    obtain ⟨a0, as', rfl⟩ : ∃ a0 as', as = a0 :: as' := by
      cases as with
      | nil => simp at la
      | cons a0 as' => exact ⟨a0, as', rfl⟩
    have h0 : LT H1 a0 r0 := by cases W2 with | cons z _ => exact z
    have l0 := hl r0 (List.mem_cons_self ..)
    have g0 : atI ((a0 :: as').map V.ref) 0 = some (.ref a0) := atI_of (by rw [List.length_map, List.length_cons]; omega : 0 < _)
    refine ⟨_, rfl, r, _, rfl, (hr1.same s2).seq, _, rfl, rIx_seq0 (W1.imp (s2 _ _) (s2 _ _)) g0 ?_⟩
    refine ⟨a0, _, rfl, (h0.same s2).seq, rfl, _, rfl, ?_⟩
    rw [List.length_map, List.length_map, lr, l0, decide_eq_true rfl]
    refine iteF ?_
    refine ⟨_, rfl, r, rs, rfl, (hr1.same s2), by omega, fun H3 s3 => ⟨true, rfl, ?_⟩⟩
    refine iteF ?_
    exact q H3 (s1.trans (s2.trans s3))
abbrev stas_tuples0 : Stmt := top 15
theorem scas_tuples0 : FnScope ["value", "item"] ["value"] (defScope stas_tuples0) := ⟨rfl, rfl, rfl, by decide +kernel, rfl, by decide +kernel, by decide +kernel⟩
theorem okas_tuples0 (B : Blt mg)  {fis_list : Addr} {fdis_list : FuncData} (Dis_list : DefAt K mg "is_list" stis_list ["value"] fis_list fdis_list) {fas_tuples0 : Addr} {fdas_tuples0 : FuncData} (Das_tuples0 : DefAt K mg "as_tuples" stas_tuples0 ["value"] fas_tuples0 fdas_tuples0) : FnOk P w K mg base CX0 2 fas_tuples0 fdas_tuples0 ["value"] spAs0 := by
  have OKFF : FnOk P w K mg base CX0 1 fas_tuples0 fdas_tuples0 ["value"] (fun _ _ _ _ => False) := Das_tuples0.F.ok scas_tuples0 (fun vs H Q E h => h.elim) (fun cdv A outer s H vs Q E hr h => h.elim)
  have OKis_list : FnOk P w K mg base CX0 1 fis_list fdis_list ["value"] (spIsLv K) := okis_list B  Dis_list
  refine Das_tuples0.F.ok scas_tuples0 (fun vs H Q E h => ?_) (fun cdv A outer s H vs Q E hr h => ?_)
  · obtain ⟨v, rfl, _⟩ := h; rfl
  · have hu := hu_of hr
    refine ⟨_, (pss_cons (ps_if (pt_val (pe_call OKis_list (hr.mono (by decide)) rfl Dis_list.m Dis_list.F.kp Dis_list.b .nil pass0 (pa_cons (pv 0) pa_nil))) (pss_one (ps_ret (pe_callTy (call_tupK : CallR _ _ (rTup K)) (by rfl) B.tuple_ (by decide +kernel) (pa_cons (pe_lc (own := [("item", 1)]) (g := gName 1) (tt := tYes) rfl scas_tuples0.nd (pi_seq (pv 0)) (blkOk_by (own := [("item", 1)]) (N := ["value", "item"]) (sc := defScope stas_tuples0) (by decide +kernel)) (fun _ _ _ _ _ => pg_name (i := 1) scas_tuples0.nd rfl (Or.inl rfl)) (fun _ _ _ _ _ => pts_nil) (fun _ _ _ _ _ => (pe_call OKFF (hr.mono (by decide)) rfl Das_tuples0.m Das_tuples0.F.kp Das_tuples0.b .nil pass0 (pa_cons (pv 1) pa_nil)))) pa_nil)))) pss_nil)
    (pss_one (ps_ret (pv 0)))), ?_⟩
    obtain ⟨v, rfl, av, q⟩ := h
    refine ⟨_, rfl, v, rfl, .inr ⟨av, fun H1 s1 => ⟨_, rfl, ?_⟩⟩⟩
    refine iteF ?_
    exact ⟨_, rfl, q _ s1⟩
abbrev stas_tuples1 : Stmt := top 15
theorem scas_tuples1 : FnScope ["value", "item"] ["value"] (defScope stas_tuples1) := ⟨rfl, rfl, rfl, by decide +kernel, rfl, by decide +kernel, by decide +kernel⟩
theorem okas_tuples1 (B : Blt mg)  {fis_list : Addr} {fdis_list : FuncData} (Dis_list : DefAt K mg "is_list" stis_list ["value"] fis_list fdis_list) {fas_tuples0 : Addr} {fdas_tuples0 : FuncData} (Das_tuples0 : DefAt K mg "as_tuples" stas_tuples0 ["value"] fas_tuples0 fdas_tuples0) {fas_tuples1 : Addr} {fdas_tuples1 : FuncData} (Das_tuples1 : DefAt K mg "as_tuples" stas_tuples1 ["value"] fas_tuples1 fdas_tuples1) : FnOk P w K mg base CX0 3 fas_tuples1 fdas_tuples1 ["value"] spAs1 := by
  have OKas_tuples0 : FnOk P w K mg base CX0 2 fas_tuples0 fdas_tuples0 ["value"] spAs0 := okas_tuples0 B  Dis_list Das_tuples0
  have OKis_list : FnOk P w K mg base CX0 1 fis_list fdis_list ["value"] (spIsLv K) := okis_list B  Dis_list
  refine Das_tuples1.F.ok scas_tuples1 (fun vs H Q E h => ?_) (fun cdv A outer s H vs Q E hr h => ?_)
  · obtain ⟨v, c, rfl, _⟩ := h; rfl
  · have hu := hu_of hr
    refine ⟨_, (pss_cons (ps_if (pt_val (pe_call OKis_list (hr.mono (by decide)) rfl Dis_list.m Dis_list.F.kp Dis_list.b .nil pass0 (pa_cons (pv 0) pa_nil))) (pss_one (ps_ret (pe_callTy (call_tupK : CallR _ _ (rTup K)) (by rfl) B.tuple_ (by decide +kernel) (pa_cons (pe_lc (own := [("item", 1)]) (g := gName 1) (tt := tYes) rfl scas_tuples1.nd (pi_seq (pv 0)) (blkOk_by (own := [("item", 1)]) (N := ["value", "item"]) (sc := defScope stas_tuples1) (by decide +kernel)) (fun _ _ _ _ _ => pg_name (i := 1) scas_tuples1.nd rfl (Or.inl rfl)) (fun _ _ _ _ _ => pts_nil) (fun _ _ _ _ _ => (pe_call OKas_tuples0 (hr.mono (by decide)) rfl Das_tuples0.m Das_tuples0.F.kp Das_tuples0.b .nil pass0 (pa_cons (pv 1) pa_nil)))) pa_nil)))) pss_nil)
    (pss_one (ps_ret (pv 0)))), ?_⟩
    obtain ⟨v, c, rfl, rv, q⟩ := h
    cases c with
    | inl u =>
      obtain ⟨rfl, av⟩ := rv
      refine ⟨_, rfl, v, rfl, .inr ⟨av, fun H1 s1 => ⟨_, rfl, ?_⟩⟩⟩
      refine iteF ?_
      exact ⟨_, rfl, q _ _ s1 rfl⟩
    | inr us =>
      obtain ⟨a, rfl, ha, lu, au⟩ := rv
      refine ⟨_, rfl, .ref a, rfl, .inl ⟨a, us, rfl, ha, fun H1 s1 => ⟨true, rfl, ?_⟩⟩⟩
      refine iteT ?_
      obtain ⟨k, sq⟩ := sq_of (K := K) ha
      refine ⟨_, rfl, a, k, rfl, ⟨_, sq _ s1⟩, fun D hD => ?_⟩
      refine lc_seq (K := K) (k := k) (a := a) (xs := us) (fun i H' => Same H1 H' ∧ H' D = some (.lst (us.take i))) ⟨AL.Same.new hD, upd_same⟩ (fun i H' _ hh => sq _ (s1.trans hh.1)) ?_ ?_
      · rintro i x H2 hx ⟨s2, hd⟩
        have il := (List.getElem?_eq_some_iff.mp hx).1
        refine ⟨rfl, ?_⟩
        refine ⟨_, rfl, x, rfl, au x (List.mem_of_getElem? hx), fun H3 s3 => ⟨_, s3 _ _ hd, ?_, AL.Same.updn (s2.trans s3) hD, ?_⟩⟩
        · rw [List.length_take]; exact Nat.lt_of_le_of_lt (by omega : _ ≤ 1000) (by decide)
        · rw [upd_same, List.take_add_one, hx]; rfl
      rintro H2 ⟨s2, hd⟩
      rw [List.take_length] at hd
      refine ⟨D, _, rfl, .inl ⟨SqL.of hd, fun t ht => ?_⟩⟩
      exact q _ _ (s1.trans (s2.trans (AL.Same.new ht))) ⟨t, rfl, upd_same⟩
abbrev stas_tuples : Stmt := top 15
theorem scas_tuples : FnScope ["value", "item"] ["value"] (defScope stas_tuples) := ⟨rfl, rfl, rfl, by decide +kernel, rfl, by decide +kernel, by decide +kernel⟩
theorem okas_tuples (B : Blt mg)  {fis_list : Addr} {fdis_list : FuncData} (Dis_list : DefAt K mg "is_list" stis_list ["value"] fis_list fdis_list) {fas_tuples0 : Addr} {fdas_tuples0 : FuncData} (Das_tuples0 : DefAt K mg "as_tuples" stas_tuples0 ["value"] fas_tuples0 fdas_tuples0) {fas_tuples1 : Addr} {fdas_tuples1 : FuncData} (Das_tuples1 : DefAt K mg "as_tuples" stas_tuples1 ["value"] fas_tuples1 fdas_tuples1) {fas_tuples : Addr} {fdas_tuples : FuncData} (Das_tuples : DefAt K mg "as_tuples" stas_tuples ["value"] fas_tuples fdas_tuples) : FnOk P w K mg base CX0 4 fas_tuples fdas_tuples ["value"] spAs2 := by
  have OKas_tuples1 : FnOk P w K mg base CX0 3 fas_tuples1 fdas_tuples1 ["value"] spAs1 := okas_tuples1 B  Dis_list Das_tuples0 Das_tuples1
  have OKis_list : FnOk P w K mg base CX0 1 fis_list fdis_list ["value"] (spIsLv K) := okis_list B  Dis_list
  refine Das_tuples.F.ok scas_tuples (fun vs H Q E h => ?_) (fun cdv A outer s H vs Q E hr h => ?_)
  · obtain ⟨a, us, cs, rfl, _⟩ := h; rfl
  · have hu := hu_of hr
    refine ⟨_, (pss_cons (ps_if (pt_val (pe_call OKis_list (hr.mono (by decide)) rfl Dis_list.m Dis_list.F.kp Dis_list.b .nil pass0 (pa_cons (pv 0) pa_nil))) (pss_one (ps_ret (pe_callTy (call_tupK : CallR _ _ (rTup K)) (by rfl) B.tuple_ (by decide +kernel) (pa_cons (pe_lc (own := [("item", 1)]) (g := gName 1) (tt := tYes) rfl scas_tuples.nd (pi_seq (pv 0)) (blkOk_by (own := [("item", 1)]) (N := ["value", "item"]) (sc := defScope stas_tuples) (by decide +kernel)) (fun _ _ _ _ _ => pg_name (i := 1) scas_tuples.nd rfl (Or.inl rfl)) (fun _ _ _ _ _ => pts_nil) (fun _ _ _ _ _ => (pe_call OKas_tuples1 (hr.mono (by decide)) rfl Das_tuples1.m Das_tuples1.F.kp Das_tuples1.b .nil pass0 (pa_cons (pv 1) pa_nil)))) pa_nil)))) pss_nil)
    (pss_one (ps_ret (pv 0)))), ?_⟩
    obtain ⟨a, us, cs, rfl, ha, pr, lu, q⟩ := h
    have lc := prd_len pr
    
    refine ⟨_, rfl, .ref a, rfl, .inl ⟨a, us, rfl, ha, fun H1 s1 => ⟨true, rfl, ?_⟩⟩⟩
    refine iteT ?_
    obtain ⟨k, sq⟩ := sq_of (K := K) ha
    refine ⟨_, rfl, a, k, rfl, ⟨_, sq _ s1⟩, fun D hD => ?_⟩
    
    refine lc_seq (K := K) (k := k) (a := a) (xs := us) (fun i H' => Same H1 H' ∧ ∃ ys, H' D = some (.lst ys) ∧ Paired (Res1 H') ys (cs.take i)) ⟨AL.Same.new hD, [], upd_same, .nil⟩ (fun i H' _ hh => sq _ (s1.trans hh.1)) ?_ ?_
    · rintro i x H2 hx ⟨s2, ys, hd, py⟩
      have il := (List.getElem?_eq_some_iff.mp hx).1
      obtain ⟨c, hc, rx⟩ := prd_get pr hx
      have ly := prd_len py
      rw [List.length_take] at ly
      refine ⟨rfl, ?_⟩
      refine ⟨_, rfl, x, c, rfl, rx.same (s1.trans s2), fun H3 y s3 ry => ⟨_, s3 _ _ hd, Nat.lt_of_le_of_lt (by omega : _ ≤ 1000) (by decide), AL.Same.updn (s2.trans s3) hD, ys ++ [y], upd_same, ?_⟩⟩
      have tu := upd_tups (o := .lst (ys ++ [y])) (s3 _ _ hd) (fun _ z => nomatch z)
      have rt : ∀ {v : V} {c : TC}, Res1 H3 v c → Res1 (upd H3 D (.lst (ys ++ [y]))) v c := fun {v c} h => by
        cases c with
        | inl u => exact h
        | inr xs => obtain ⟨t, h1, h2⟩ := h; exact ⟨t, h1, tu _ _ h2⟩
      rw [List.take_add_one, hc]
      exact prd_snoc (paired_mono py fun _ _ z => rt (z.same s3)) (rt ry)
    rintro H2 ⟨s2, ys, hd, py⟩
    rw [List.take_of_length_le (by omega)] at py
    refine ⟨D, _, rfl, .inl ⟨SqL.of hd, fun t ht => ?_⟩⟩
    have nt := AL.Same.new (o := .tup ys) ht
    exact q t _ ys (s1.trans (s2.trans nt)) upd_same (paired_mono py fun _ _ z => z.same nt)
end
end AL
set_option Elab.async false
set_option maxRecDepth 100000
set_option exponentiation.threshold 70000
set_option maxHeartbeats 1000000
namespace AL
open PySem PySem.Spec PyProof.Rows L2 RZ
section
variable {P : Program} {w : World} {K : PySem.W.Frag} {mg : Str → Option Value} {base : Heap}
def lcmD : List Rat → Nat := fun xs => xs.foldl (fun s x => Nat.lcm s x.den) 1
theorem lcm_fold : ∀ (xs : List Rat) (s : Nat), 0 < s → 0 < xs.foldl (fun s x => Nat.lcm s x.den) s ∧ s ∣ xs.foldl (fun s x => Nat.lcm s x.den) s ∧ (∀ x ∈ xs, x.den ∣ xs.foldl (fun s x => Nat.lcm s x.den) s) ∧ ∀ D, s ∣ D → (∀ x ∈ xs, x.den ∣ D) → xs.foldl (fun s x => Nat.lcm s x.den) s ∣ D
  | [], s, h => ⟨h, Nat.dvd_refl _, (fun x hx => nomatch hx), fun D h _ => h⟩
  | y :: r, s, h => by
    obtain ⟨h1, h2, h3, h4⟩ := lcm_fold r (Nat.lcm s y.den) (Nat.lcm_pos h (low_rat y).1)
    refine ⟨h1, Nat.dvd_trans (Nat.dvd_lcm_left _ _) h2, fun x hx => ?_, fun D hs hx => h4 D (Nat.lcm_dvd hs (hx y (List.mem_cons_self ..))) fun x m => hx x (List.mem_cons_of_mem _ m)⟩
    rcases List.mem_cons.mp hx with rfl | hx
    · exact Nat.dvd_trans (Nat.dvd_lcm_right _ _) h2
    · exact h3 x hx
theorem sz_dvd {D B : Nat} {x : Rat} (h : Sz D B x) : x.den ∣ D := by
  obtain ⟨h0, X, hX, e⟩ := h
  obtain ⟨n, d, z, c⟩ := x
  obtain ⟨m, m0, e1, e2⟩ := Rat.mkRat_num_den (by omega) e.symm
  exact ⟨m, e2⟩
/-- common_bottom(ratios) -/
def spCB : Sp := fun vs H Q _ => ∃ (a : Addr) (rs : List Addr) (xs : List Rat) (D : Nat), vs = [.ref a] ∧ H a = some (.lst (rs.map V.ref)) ∧ Paired (RQ H) rs xs ∧ 0 < D ∧ D < 2 ^ 12000 ∧ (∀ x ∈ xs, x.den ∣ D) ∧ Q (.int (lcmD xs : Int)) H

theorem low_rq (a : Int) {b : Nat} (hb : 0 < b) : lowI a (b : Int) = ((mkRat a b).num, ((mkRat a b).den : Int)) := by
  have e := nrm_rat a hb
  unfold nrm at e
  unfold lowI shr
  rw [if_neg (by omega), Int.natAbs_natCast]
  have e1 := congrArg Prod.fst e
  have e2 := congrArg Prod.snd e
  dsimp only at e1 e2
  rw [e1, ← e2]
  refine Prod.ext rfl ?_
  show ((b : Int)).fdiv _ = ((b / Nat.gcd a.natAbs b : Nat) : Int)
  rw [Int.natCast_ediv]
  exact Int.fdiv_eq_ediv_of_nonneg _ (Int.natCast_nonneg _)
theorem mk_den (a : Int) {b : Nat} (hb : 0 < b) : (mkRat a b).den ∣ b := sz_dvd (B := a.natAbs) ⟨hb, a, Nat.le_mul_of_pos_right _ hb, rfl⟩
def wholeR (xs : List Rat) : Rw := xs.map fun x => x.num * ((lcmD xs / x.den : Nat) : Int)
/-- whole_row(ratios) -/
def spWr : Sp := fun vs H Q _ => ∃ (a : Addr) (rs : List Addr) (xs : List Rat) (D : Nat), vs = [.ref a] ∧ H a = some (.lst (rs.map V.ref)) ∧ Paired (RQ H) rs xs ∧ 0 < D ∧ D < 2 ^ 12000 ∧ (∀ x ∈ xs, x.den ∣ D ∧ x.num.natAbs < 2 ^ 13000) ∧ xs.length ≤ 100 ∧ ∀ t d H', Same H H' → H d = none → H' t = some (.tup [.int (lcmD xs : Int), .ref d]) → LI H' d (wholeR xs) → Q (.ref t) H'
def spLm : Sp := fun vs H Q _ => ∃ (a : Addr) (rs : List Addr) (xs : List Rat) (D : Nat), vs = [.ref a] ∧ H a = some (.lst (rs.map V.ref)) ∧ Paired (RQ H) rs xs ∧ 0 < D ∧ D < 2 ^ 12000 ∧ (∀ x ∈ xs, x.den ∣ D ∧ x.num.natAbs < 2 ^ 13000) ∧ xs.length ≤ 100 ∧ ∀ d H', Same H H' → H d = none → LI H' d (wholeR xs) → Q (.ref d) H'

abbrev stlowest : Stmt := top 13
theorem sclowest : FnScope ["top", "bottom", "shared"] ["top", "bottom"] (defScope stlowest) := ⟨rfl, rfl, rfl, by decide +kernel, rfl, by decide +kernel, by decide +kernel⟩
theorem oklowest (B : Blt mg) {CZero CHangs : Addr} (Es : ErH K mg CZero CHangs) {flowest : Addr} {fdlowest : FuncData} (Dlowest : DefAt K mg "lowest" stlowest ["top", "bottom"] flowest fdlowest) : FnOk P w K mg base CX0 1 flowest fdlowest ["top", "bottom"] spLowG := by
  refine Dlowest.F.ok sclowest (fun vs H Q E h => ?_) (fun cdv A outer s H vs Q E hr h => ?_)
  · obtain ⟨a, b, rfl, _⟩ := h; rfl
  · have hu := hu_of hr
    refine ⟨_, (pss_cons (ps_set (i := 2) sclowest.nd rfl (Or.inl rfl) (pe_callBfun cr_gcd (by rfl) Es.gcd (pa_cons (pv 0) (pa_cons (pv 1) pa_nil))))
    (pss_cons (ps_if (pt_cmpR op_lt (pv 1) pe_int (nomark _)) (pss_one (ps_set (i := 2) sclowest.nd rfl (Or.inl rfl) (pe_un un_neg (pv 2)))) pss_nil)
    (pss_one (ps_ret (pe_tup (pa_cons (pe_op op_fdivC (pv 0) (pv 2)) (pa_cons (pe_op op_fdivC (pv 1) (pv 2)) pa_nil))))))), ?_⟩
    obtain ⟨a, b, rfl, hlo, h0, q⟩ := h
    refine ⟨_, rfl, _, rfl, a, b, rfl, ?_⟩
    have hg : Nat.gcd a.natAbs b.natAbs ≠ 0 := fun z => h0 (Int.natAbs_eq_zero.mp (Nat.eq_zero_of_gcd_eq_zero_right z))
    have d1 : ∀ s : Int, s.natAbs = Nat.gcd a.natAbs b.natAbs → CDivC a s ∧ CDivC b s := fun s hs => by
      refine ⟨⟨fun z => hg (by rw [← hs, z]; rfl), ?_⟩, ⟨fun z => hg (by rw [← hs, z]; rfl), ?_⟩⟩
      · exact hlo.elim (fun z => .inl z.1) (fun z => .inr (by rw [hs]; exact z))
      · exact hlo.elim (fun z => .inl z.2) (fun z => .inr (by rw [hs]; exact z))
    refine ⟨_, rfl, _, _, rfl, rfl, _, rfl, ?_⟩
    refine ite2 (fun hneg => ?_) (fun hneg => ?_)
    · have hneg' := of_decide_eq_true hneg
      obtain ⟨c1, c2⟩ := d1 (-((Nat.gcd a.natAbs b.natAbs : Nat) : Int)) (by rw [Int.natAbs_neg, Int.natAbs_natCast])
      refine ⟨_, rfl, _, rfl, _, rfl, _, rfl, _, _, rfl, rfl, c1, _, rfl, _, rfl, _, _, rfl, rfl, c2, (by show 2 ≤ sizeLine; decide), fun t ht => ?_⟩
      have z := q t ht
      unfold lowI shr at z
      rw [if_pos hneg'] at z
      exact z
    · have hneg' : ¬ b < 0 := fun z => hneg (decide_eq_true z)
      obtain ⟨c1, c2⟩ := d1 ((Nat.gcd a.natAbs b.natAbs : Nat) : Int) (Int.natAbs_natCast _)
      refine ⟨_, rfl, _, rfl, _, _, rfl, rfl, c1, _, rfl, _, rfl, _, _, rfl, rfl, c2, (by show 2 ≤ sizeLine; decide), fun t ht => ?_⟩
      have z := q t ht
      unfold lowI shr at z
      rw [if_neg hneg'] at z
      exact z
abbrev stcommon_bottom : Stmt := top 14
theorem sccommon_bottom : FnScope ["ratios", "shared", "ratio"] ["ratios"] (defScope stcommon_bottom) := ⟨rfl, rfl, rfl, by decide +kernel, rfl, by decide +kernel, by decide +kernel⟩
theorem okcommon_bottom (B : Blt mg) {CZero CHangs : Addr} (Es : ErH K mg CZero CHangs) {fcommon_bottom : Addr} {fdcommon_bottom : FuncData} (Dcommon_bottom : DefAt K mg "common_bottom" stcommon_bottom ["ratios"] fcommon_bottom fdcommon_bottom) : FnOk P w K mg base CX0 1 fcommon_bottom fdcommon_bottom ["ratios"] spCB := by
  refine Dcommon_bottom.F.ok sccommon_bottom (fun vs H Q E h => ?_) (fun cdv A outer s H vs Q E hr h => ?_)
  · obtain ⟨a, rs, xs, D, rfl, _⟩ := h; rfl
  · have hu := hu_of hr
    refine ⟨_, (pss_cons (ps_set (i := 1) sccommon_bottom.nd rfl (Or.inl rfl) pe_int)
    (pss_cons (ps_for PassesOwn.never rfl (pi_list (pv 0)) (pg_name (i := 2) sccommon_bottom.nd rfl (Or.inl rfl))
      (pss_one (ps_set (i := 1) sccommon_bottom.nd rfl (Or.inl rfl) (pe_callBfun cr_lcm (by rfl) Es.lcm (pa_cons (pv 1) (pa_cons (pe_ix ix_tup (pv 2) pe_int (fun _ _ => rfl)) pa_nil))))))
    (pss_one (ps_ret (pv 1))))), ?_⟩
    obtain ⟨a, rs, xs, D, rfl, ha, en, hD, hD2, dv, q⟩ := h
    have lx := prd_len en
    refine ⟨_, rfl, a, rfl, ⟨_, SqL.of ha⟩, for_list (K := K) (a := a) (xs := rs.map V.ref) (fun i σ H' => ∃ v : Option V, σ = [some (.ref a), some (.int (lcmD (xs.take i) : Int)), v] ∧ H' = H) ⟨none, rfl, rfl⟩ (fun i σ H' _ hh => let ⟨_, _, e⟩ := hh; e ▸ SqL.of ha) ?_ ?_⟩
    · rintro i y σ H1 hy ⟨v, rfl, rfl⟩
      obtain ⟨r, hr, rfl⟩ := map_ref hy
      obtain ⟨x, hx, rq⟩ := prd_get en hr
      have le : lcmD (xs.take i) < 2 ^ 13000 := by
        have z := (lcm_fold (xs.take i) 1 (by decide)).2.2.2 D (Nat.one_dvd _) fun x hx => dv x (List.mem_of_mem_take hx)
        exact Nat.lt_of_le_of_lt (Nat.le_of_dvd hD z) (Nat.lt_of_lt_of_le hD2 (Nat.pow_le_pow_right (by decide) (by decide)))
      have le2 : x.den < 2 ^ 13000 := Nat.lt_of_le_of_lt (Nat.le_of_dvd hD (dv x (List.mem_of_getElem? hx))) (Nat.lt_of_lt_of_le hD2 (Nat.pow_le_pow_right (by decide) (by decide)))
      refine ⟨_, rfl, _, rfl, r, _, _, _, rfl, rfl, SqT.of rq, rfl, _, _, rfl, by rw [Int.natAbs_natCast]; exact le, by rw [Int.natAbs_natCast]; exact le2, ?_⟩
      refine ⟨some (.ref r), ?_, rfl⟩
      have e : lcmD (xs.take (i + 1)) = Nat.lcm (lcmD (xs.take i)) x.den := by
        unfold lcmD
        rw [List.take_add_one, hx, List.foldl_append]
        rfl
      rw [e, Int.natAbs_natCast, Int.natAbs_natCast]
      rfl
    · rintro σ H1 ⟨v, rfl, rfl⟩
      rw [List.length_map, lx, List.take_length]
      exact ⟨_, rfl, q⟩
abbrev stwhole_row : Stmt := top 21
theorem scwhole_row : FnScope ["ratios", "scale", "top", "bottom"] ["ratios"] (defScope stwhole_row) := ⟨rfl, rfl, rfl, by decide +kernel, rfl, by decide +kernel, by decide +kernel⟩
theorem okwhole_row (B : Blt mg) {CZero CHangs : Addr} (Es : ErH K mg CZero CHangs) {fcommon_bottom : Addr} {fdcommon_bottom : FuncData} (Dcommon_bottom : DefAt K mg "common_bottom" stcommon_bottom ["ratios"] fcommon_bottom fdcommon_bottom) {fwhole_row : Addr} {fdwhole_row : FuncData} (Dwhole_row : DefAt K mg "whole_row" stwhole_row ["ratios"] fwhole_row fdwhole_row) : FnOk P w K mg base CX0 2 fwhole_row fdwhole_row ["ratios"] spWr := by
  have OKcommon_bottom : FnOk P w K mg base CX0 1 fcommon_bottom fdcommon_bottom ["ratios"] spCB := okcommon_bottom B Es Dcommon_bottom
  refine Dwhole_row.F.ok scwhole_row (fun vs H Q E h => ?_) (fun cdv A outer s H vs Q E hr h => ?_)
  · obtain ⟨a, rs, xs, D, rfl, _⟩ := h; rfl
  · have hu := hu_of hr
    refine ⟨_, (pss_cons (ps_set (i := 1) scwhole_row.nd rfl (Or.inr rfl) (pe_call OKcommon_bottom (hr.mono (by decide)) rfl Dcommon_bottom.m Dcommon_bottom.F.kp Dcommon_bottom.b .nil pass0 (pa_cons (pv 0) pa_nil)))
    (pss_one (ps_ret (pe_tup (pa_cons (pv 1) (pa_cons (pe_lc (own := [("top", 2), ("bottom", 3)]) (g := (gTup K 2 (gCons (gName 2) (gCons (gName 3) gNil)))) (tt := tYes) rfl scwhole_row.nd (pi_list (pv 0)) (blkOk_by (own := [("top", 2), ("bottom", 3)]) (N := ["ratios", "scale", "top", "bottom"]) (sc := defScope stwhole_row) (by decide +kernel)) (fun _ _ _ _ _ => (pg_tup rfl (pgs_cons (pg_name (i := 2) scwhole_row.nd rfl (Or.inl rfl)) (pgs_cons (pg_name (i := 3) scwhole_row.nd rfl (Or.inl rfl)) pgs_nil)))) (fun _ _ _ _ _ => pts_nil) (fun _ _ _ _ _ => (pe_op op_mulW (pv 2) (pe_op op_fdivC (pv 1) (pv 3))))) pa_nil)))))), ?_⟩
    obtain ⟨a, rs, xs, D, rfl, ha, en, hD, hD2, dv, l2, q⟩ := h
    have lx := prd_len en
    have lc := lcm_fold xs 1 (by decide)
    have Ld : lcmD xs ∣ D := lc.2.2.2 D (Nat.one_dvd _) fun x hx => (dv x hx).1
    have Lb : lcmD xs < 2 ^ 12000 := Nat.lt_of_le_of_lt (Nat.le_of_dvd hD Ld) hD2
    refine ⟨_, rfl, a, rs, xs, D, rfl, ha, en, hD, hD2, fun x hx => (dv x hx).1, ?_⟩
    refine ⟨_, rfl, _, rfl, a, rfl, ⟨_, SqL.of ha⟩, fun D1 hD1 => ?_⟩
    refine lc_list (K := K) (a := a) (xs := rs.map V.ref) (fun i H' => Same H H' ∧ H' D1 = some (.lst (((wholeR xs).take i).map V.int))) ⟨AL.Same.new hD1, upd_same⟩ (fun i H' _ hh => SqL.of (hh.1 _ _ ha)) ?_ ?_
    · rintro i y H1 hy ⟨s1, hd⟩
      obtain ⟨r, hr, rfl⟩ := map_ref hy
      obtain ⟨x, hx, rq⟩ := prd_get en hr
      have il := (List.getElem?_eq_some_iff.mp hx).1
      have mx := List.mem_of_getElem? hx
      have rq1 : H1 r = some (.tup [.int x.num, .int (x.den : Int)]) := s1 _ _ rq
      have dL : x.den ∣ lcmD xs := lc.2.2.1 x mx
      have d0 := x.den_pos
      have qe : Int.fdiv ((lcmD xs : Nat) : Int) (x.den : Int) = ((lcmD xs / x.den : Nat) : Int) := by
        rw [Int.natCast_ediv]
        exact Int.fdiv_eq_ediv_of_nonneg _ (Int.natCast_nonneg _)
      refine ⟨r, _, rfl, SqT.of rq1, rfl, _, _, rfl, _, _, rfl, rfl, rfl, ?_⟩
      refine ⟨_, rfl, _, rfl, _, rfl, _, _, rfl, rfl, ⟨by omega, .inl ?_⟩, _, _, rfl, rfl, ?_, _, hd, ?_, AL.Same.updn s1 hD1, ?_⟩
      · rw [Int.natAbs_natCast]; exact Nat.lt_trans Lb (Nat.pow_lt_pow_right (by decide) (by decide))
      · rw [qe]
        refine wmul (dv x mx).2 ?_
        rw [Int.natAbs_natCast]
        exact Nat.lt_of_le_of_lt (Nat.div_le_self _ _) (Nat.lt_trans Lb (Nat.pow_lt_pow_right (by decide) (by decide)))
      · rw [List.length_map, List.length_take]; exact Nat.lt_of_le_of_lt (by omega : _ ≤ 1000) (by decide)
      · have g : (wholeR xs)[i]? = some (x.num * ((lcmD xs / x.den : Nat) : Int)) := by unfold wholeR; rw [List.getElem?_map, hx]; rfl
        dsimp only
        rw [qe, upd_same, List.take_add_one, g, List.map_append]; rfl
    rintro H1 ⟨s1, hd⟩
    rw [List.take_of_length_le (by unfold wholeR; rw [List.length_map, List.length_map, lx]; exact Nat.le_refl _)] at hd
    refine ⟨(by show 2 ≤ sizeLine; decide), fun t ht => ?_⟩
    have nt := AL.Same.new (o := .tup [.int (lcmD xs : Int), .ref D1]) ht
    exact q t D1 _ (s1.trans nt) hD1 upd_same (nt _ _ hd)
abbrev stleast_multiple : Stmt := top 22
theorem scleast_multiple : FnScope ["ratios"] ["ratios"] (defScope stleast_multiple) := ⟨rfl, rfl, rfl, by decide +kernel, rfl, by decide +kernel, by decide +kernel⟩
theorem okleast_multiple (B : Blt mg) {CZero CHangs : Addr} (Es : ErH K mg CZero CHangs) {fcommon_bottom : Addr} {fdcommon_bottom : FuncData} (Dcommon_bottom : DefAt K mg "common_bottom" stcommon_bottom ["ratios"] fcommon_bottom fdcommon_bottom) {fwhole_row : Addr} {fdwhole_row : FuncData} (Dwhole_row : DefAt K mg "whole_row" stwhole_row ["ratios"] fwhole_row fdwhole_row) {fleast_multiple : Addr} {fdleast_multiple : FuncData} (Dleast_multiple : DefAt K mg "least_multiple" stleast_multiple ["ratios"] fleast_multiple fdleast_multiple) : FnOk P w K mg base CX0 3 fleast_multiple fdleast_multiple ["ratios"] spLm := by
  have OKwhole_row : FnOk P w K mg base CX0 2 fwhole_row fdwhole_row ["ratios"] spWr := okwhole_row B Es Dcommon_bottom Dwhole_row
  refine Dleast_multiple.F.ok scleast_multiple (fun vs H Q E h => ?_) (fun cdv A outer s H vs Q E hr h => ?_)
  · obtain ⟨a, rs, xs, D, rfl, _⟩ := h; rfl
  · have hu := hu_of hr
    refine ⟨_, (pss_one (ps_ret (pe_ix ix_tup (pe_call OKwhole_row (hr.mono (by decide)) rfl Dwhole_row.m Dwhole_row.F.kp Dwhole_row.b .nil pass0 (pa_cons (pv 0) pa_nil)) pe_int (fun _ _ => rfl)))), ?_⟩
    obtain ⟨a, rs, xs, D, rfl, ha, en, hD, hD2, dv, l2, q⟩ := h
    refine ⟨_, rfl, a, rs, xs, D, rfl, ha, en, hD, hD2, dv, l2, fun t d H1 s1 hn ht hd => ?_⟩
    exact ⟨t, _, _, _, rfl, rfl, SqT.of ht, rfl, q d H1 s1 hn hd⟩
end
end AL
set_option Elab.async false
set_option maxRecDepth 100000
set_option exponentiation.threshold 70000
set_option maxHeartbeats 1000000
namespace AL
open PySem PySem.Spec PyProof.Rows L2 RZ
section
variable {P : Program} {w : World} {K : PySem.W.Frag} {mg : Str → Option Value} {base : Heap}

theorem prd_set {α β : Type} {R : α → β → Prop} {as : List α} {bs : List β} {a : α} {b : β} (h : Paired R as bs) (i : Nat) (r : R a b) : Paired R (as.set i a) (bs.set i b) := by
  induction h generalizing i with
  | nil => exact .nil
  | cons h t ih =>
    cases i with
    | zero => exact .cons r t
    | succ i => exact .cons h (ih i)
/-- the ratios of a group: 1 at free, and what makes up for it at the pivots -/
def rhoX (G : List Rw) (free j : Nat) : Rat := if j = free then 1 else match G.find? (fun f => decide (piv f = j)) with
  | some f => mkRat (-(vl f free)) (vl f j).toNat
  | none => 0
def grX (G : List Rw) (many free : Nat) : List Rat := (List.range many).map (rhoX G free)
def grp (G : List Rw) (many free : Nat) : Rw := wholeR (grX G many free)
def isPv (G : List Rw) (j : Nat) : Bool := G.any fun f => decide (piv f = j)
/-- rising pivots -/
structure Steps (W many : Nat) (G : List Rw) : Prop where
  len : ∀ f ∈ G, f.length = W
  pos : ∀ f ∈ G, 0 < vl f (piv f)
  off : ∀ f ∈ G, ∀ h ∈ G, piv f ≠ piv h → vl f (piv h) = 0
  asc : G.Pairwise fun f h => piv f < piv h
  lt : ∀ f ∈ G, piv f < many
theorem find_snoc {G : List Rw} {f : Rw} (h : ∀ g ∈ G, piv g ≠ piv f) (j : Nat) : (G ++ [f]).find? (fun g => decide (piv g = j)) = if j = piv f then some f else G.find? (fun g => decide (piv g = j)) := by
  rw [List.find?_append]
  by_cases e : j = piv f
  · rw [if_pos e]
    have n : G.find? (fun g => decide (piv g = j)) = none := List.find?_eq_none.mpr fun g hg z => h g hg (by rw [of_decide_eq_true z, e])
    rw [n, List.find?_cons, decide_eq_true e.symm]; rfl
  · rw [if_neg e, List.find?_cons, decide_eq_false (fun z => e z.symm)]
    cases G.find? (fun g => decide (piv g = j)) <;> rfl
theorem asc_ne {G : List Rw} (asc : G.Pairwise fun f h => piv f < piv h) {i : Nat} {f : Rw} (hf : G[i]? = some f) : ∀ g ∈ G.take i, piv g ≠ piv f := fun g hg => by
  obtain ⟨k, hk⟩ := List.mem_iff_getElem?.mp hg
  have kl := (List.getElem?_eq_some_iff.mp hk).1
  rw [List.length_take] at kl
  rw [List.getElem?_take, if_pos (by omega)] at hk
  obtain ⟨l1, e1⟩ := List.getElem?_eq_some_iff.mp hk
  obtain ⟨l2, e2⟩ := List.getElem?_eq_some_iff.mp hf
  have := List.pairwise_iff_getElem.mp asc k i l1 l2 (by omega)
  rw [e1, e2] at this
  omega
theorem rho_set {G : List Rw} (asc : G.Pairwise fun f h => piv f < piv h) {many free i : Nat} {f : Rw} (hf : G[i]? = some f) (ne : piv f ≠ free) : (((List.range many).map (rhoX (G.take i) free)).set (piv f) (mkRat (-(vl f free)) (vl f (piv f)).toNat)) = (List.range many).map (rhoX (G.take (i + 1)) free) := by
  refine List.ext_getElem (by simp) fun j h1 h2 => ?_
  rw [List.getElem_set, List.getElem_map, List.getElem_range, List.getElem_map, List.getElem_range]
  unfold rhoX
  rw [List.take_add_one, hf, show (some f).toList = [f] from rfl, find_snoc (asc_ne asc hf)]
  by_cases e : piv f = j
  · subst e
    rw [if_pos rfl, if_neg ne, if_pos rfl]
  · rw [if_neg e]
    by_cases z : j = free
    · rw [if_pos z, if_pos z]
    · rw [if_neg z, if_neg z, if_neg (fun w => e w.symm)]
theorem rho_zero {many free : Nat} (h : free < many) : ((List.replicate many (0 : Rat)).set free 1) = (List.range many).map (rhoX [] free) := by
  refine List.ext_getElem (by simp) fun j h1 h2 => ?_
  rw [List.getElem_set, List.getElem_map, List.getElem_range, List.getElem_replicate]
  unfold rhoX
  by_cases e : free = j
  · rw [if_pos e, if_pos e.symm]
  · rw [if_neg e, if_neg (fun z => e z.symm)]; rfl
/-- groups, as they are found -/
def GV (N : Hp) (gd : Addr) (H : Hp) (v : V) : Option Rw → Prop
  | none => v = .non
  | some g => ∃ a, a ≠ gd ∧ v = .ref a ∧ LI H a g ∧ N a = none
theorem GV.same {N : Hp} {gd : Addr} {H H' : Hp} {v : V} {o : Option Rw} (h : GV N gd H v o) (s : Same H H') : GV N gd H' v o := by
  cases o with
  | none => exact h
  | some g => obtain ⟨a, h1, h2, h3, h4⟩ := h; exact ⟨a, h1, h2, h3.same s, h4⟩
theorem GV.upd {N : Hp} {gd : Addr} {H : Hp} {v : V} {o : Option Rw} {u : HO} (h : GV N gd H v o) : GV N gd (L2.upd H gd u) v o := by
  cases o with
  | none => exact h
  | some g => obtain ⟨a, h1, h2, h3, h4⟩ := h; exact ⟨a, h1, h2, Eq.trans (upd_ne h1) h3, h4⟩
/-- the first i letters get the group, where they have none -/
def mrg (g : Rw) (i : Nat) (gs : List (Option Rw)) : List (Option Rw) := gs.mapIdx fun j o => if j < i ∧ vl g j ≠ 0 ∧ o = none then some g else o
theorem mrg_len (g : Rw) (i : Nat) (gs : List (Option Rw)) : (mrg g i gs).length = gs.length := List.length_mapIdx ..
theorem mrg_zero (g : Rw) (gs : List (Option Rw)) : mrg g 0 gs = gs := by
  unfold mrg
  refine List.ext_getElem? fun j => ?_
  rw [List.getElem?_mapIdx]
  cases gs[j]? with
  | none => rfl
  | some o => show some (if _ then _ else o) = some o; rw [if_neg (by omega)]
theorem mrg_step {g : Rw} {i : Nat} {gs : List (Option Rw)} {o : Option Rw} (h : gs[i]? = some o) : mrg g (i + 1) gs = if vl g i ≠ 0 ∧ o = none then (mrg g i gs).set i (some g) else mrg g i gs := by
  have go : ∀ j, (mrg g (i + 1) gs)[j]? = (if vl g i ≠ 0 ∧ o = none then (mrg g i gs).set i (some g) else mrg g i gs)[j]? := fun j => by
    have il := (List.getElem?_eq_some_iff.mp h).1
    by_cases e : j = i
    · subst e
      unfold mrg
      rw [List.getElem?_mapIdx, h]
      show some (if _ then _ else o) = _
      by_cases c : vl g j ≠ 0 ∧ o = none
      · rw [if_pos ⟨by omega, c⟩, if_pos c, List.getElem?_set_self (by rw [List.length_mapIdx]; exact il)]
      · rw [if_neg (fun z => c z.2), if_neg c, List.getElem?_mapIdx, h]
        show _ = some (if _ then _ else o)
        rw [if_neg (fun z => c z.2)]
    · have r : (if vl g i ≠ 0 ∧ o = none then (mrg g i gs).set i (some g) else mrg g i gs)[j]? = (mrg g i gs)[j]? := by
        split
        · rw [List.getElem?_set_ne (fun z => e z.symm)]
        · rfl
      rw [r]
      unfold mrg
      rw [List.getElem?_mapIdx, List.getElem?_mapIdx]
      cases gs[j]? with
      | none => rfl
      | some p =>
        show some (if _ then _ else p) = some (if _ then _ else p)
        by_cases c : j < i ∧ vl g j ≠ 0 ∧ p = none
        · rw [if_pos c, if_pos ⟨by omega, c.2⟩]
        · rw [if_neg c, if_neg (fun z => c ⟨by omega, z.2⟩)]
  exact List.ext_getElem? go
def grsS (G : List Rw) (many : Nat) : Nat → List (Option Rw)
  | 0 => List.replicate many none
  | k + 1 => if isPv G k then grsS G many k else mrg (grp G many k) many (grsS G many k)
theorem grsS_len (G : List Rw) (many : Nat) : ∀ k, (grsS G many k).length = many
  | 0 => List.length_replicate ..
  | k + 1 => by
    unfold grsS
    split
    · exact grsS_len G many k
    · rw [mrg_len]; exact grsS_len G many k
/-- what groups tell -/
theorem grsS_spec (G : List Rw) (many : Nat) : ∀ k {j : Nat}, j < many → ∃ o, (grsS G many k)[j]? = some o ∧ (o = none ↔ ∀ free, free < k → isPv G free = false → vl (grp G many free) j = 0) ∧ ∀ g, o = some g → ∃ free, free < k ∧ isPv G free = false ∧ g = grp G many free ∧ vl g j ≠ 0
  | 0, j, hj => ⟨none, by unfold grsS; rw [List.getElem?_replicate, if_pos hj], ⟨fun _ free hf => by omega, fun _ => rfl⟩, fun g h => by cases h⟩
  | k + 1, j, hj => by
    obtain ⟨o, h1, h2, h3⟩ := grsS_spec G many k hj
    unfold grsS
    by_cases p : isPv G k = true
    · rw [if_pos p]
      refine ⟨o, h1, ?_, fun g hg => ?_⟩
      · rw [h2]
        constructor
        · intro z free hf hp
          by_cases e : free = k
          · rw [e, p] at hp; cases hp
          · exact z free (by omega) hp
        · intro z free hf hp; exact z free (by omega) hp
      · obtain ⟨free, a, b⟩ := h3 g hg; exact ⟨free, by omega, b⟩
    · rw [if_neg p]
      have p' : isPv G k = false := by cases z : isPv G k with | true => exact absurd z p | false => rfl
      unfold mrg
      rw [List.getElem?_mapIdx, h1]
      by_cases c : vl (grp G many k) j ≠ 0 ∧ o = none
      · refine ⟨some (grp G many k), ?_, ⟨(fun z => by cases z), fun z => absurd (z k (by omega) p') c.1⟩, fun g hg => ?_⟩
        · show some (if _ then _ else o) = _
          rw [if_pos ⟨hj, c⟩]
        · cases hg
          exact ⟨k, by omega, p', rfl, c.1⟩
      · refine ⟨o, ?_, ?_, fun g hg => ?_⟩
        · show some (if _ then _ else o) = _
          rw [if_neg (fun z => c z.2)]
        · constructor
          · intro z free hf hp
            by_cases e : free = k
            · subst e
              exact Classical.byContradiction fun w => c ⟨w, z⟩
            · exact h2.mp z free (by omega) hp
          · intro z; exact h2.mpr fun free hf hp => z free (by omega) hp
        · obtain ⟨free, a, b⟩ := h3 g hg; exact ⟨free, by omega, b⟩
theorem isPv_eq (G : List Rw) (j : Nat) : inV (.int (j : Int)) ((G.map fun f => (piv f : Int)).map V.int) = isPv G j := by
  unfold inV isPv
  rw [List.map_map, List.any_map]
  congr 1
  funext f
  show ((piv f : Int) == (j : Int)) = decide (piv f = j)
  by_cases e : piv f = j
  · rw [decide_eq_true e, e]; exact beq_self_eq_true _
  · rw [decide_eq_false e]
    exact beq_eq_false_iff_ne.mpr (by omega)
theorem flat_I (xs : List Int) : (xs.map V.int).all flatV = true := by
  rw [List.all_eq_true]
  intro x hx
  obtain ⟨z, _, rfl⟩ := List.mem_map.mp hx
  rfl
/-- the product of the pivots -/
def pvP (G : List Rw) : Nat := (G.map fun f => (vl f (piv f)).toNat).foldr (· * ·) 1
theorem pvP_dvd : ∀ {G : List Rw} {f : Rw}, f ∈ G → (vl f (piv f)).toNat ∣ pvP G
  | h :: G, f, hf => by
    rcases List.mem_cons.mp hf with rfl | hf
    · exact Nat.dvd_mul_right _ _
    · exact Nat.dvd_trans (pvP_dvd hf) (Nat.dvd_mul_left _ _)
theorem pvP_pos : ∀ {G : List Rw}, (∀ f ∈ G, 0 < vl f (piv f)) → 0 < pvP G
  | [], _ => Nat.one_pos
  | h :: G, k => Nat.mul_pos (by have := k h (List.mem_cons_self ..); show 0 < (vl h (piv h)).toNat; omega) (pvP_pos fun f hf => k f (List.mem_cons_of_mem _ hf))
theorem pvP_le {m : Nat} : ∀ {G : List Rw}, (∀ f ∈ G, 0 < vl f (piv f)) → (∀ f ∈ G, Bb m f) → pvP G ≤ 2 ^ (m * G.length)
  | [], _, _ => Nat.le_refl _
  | h :: G, k, b => by
    have ih := pvP_le (G := G) (fun f hf => k f (List.mem_cons_of_mem _ hf)) fun f hf => b f (List.mem_cons_of_mem _ hf)
    have h1 := b h (List.mem_cons_self ..) (piv h)
    rw [List.length_cons, Nat.mul_succ, Nat.add_comm, Nat.pow_add]
    exact Nat.mul_le_mul (by show (vl h (piv h)).toNat ≤ _; omega) ih
theorem rho_ok {W many m free : Nat} {G : List Rw} (S : Steps W many G) (b : ∀ f ∈ G, Bb m f) (hm : m ≤ 6000) (j : Nat) : (rhoX G free j).den ∣ pvP G ∧ (rhoX G free j).num.natAbs < 2 ^ 13000 := by
  unfold rhoX
  split
  · exact ⟨Nat.one_dvd _, by show (1 : Nat) < _; exact Nat.one_lt_two_pow (by decide)⟩
  · split
    · rename_i f hf
      have mf := List.mem_of_find?_eq_some hf
      have pf : piv f = j := by have z := List.find?_some hf; exact of_decide_eq_true z
      have ps := S.pos f mf
      subst pf
      refine ⟨Nat.dvd_trans (mk_den _ (by omega)) (pvP_dvd mf), ?_⟩
      have w := (show Sz (vl f (piv f)).toNat ((vl f free).natAbs) (mkRat (-(vl f free)) (vl f (piv f)).toNat) from ⟨by omega, _, by rw [Int.natAbs_neg]; exact Nat.le_mul_of_pos_right _ (by omega), rfl⟩).le.1
      have e1 := b f mf free
      have e2 := b f mf (piv f)
      refine Nat.lt_of_le_of_lt w ?_
      have e3 : (vl f free).natAbs * (vl f (piv f)).toNat < 2 ^ m * 2 ^ m := Nat.mul_lt_mul'' e1 (by omega)
      refine Nat.lt_of_lt_of_le e3 ?_
      rw [← Nat.pow_add]
      exact Nat.pow_le_pow_right (by decide) (by omega)
    · exact ⟨Nat.one_dvd _, by show (0 : Nat) < _; exact Nat.two_pow_pos _⟩
theorem asc_len {many : Nat} : ∀ {G : List Rw} {k : Nat}, (G.Pairwise fun f h => piv f < piv h) → (∀ f ∈ G, k ≤ piv f ∧ piv f < many) → k ≤ many → G.length + k ≤ many
  | [], k, _, _, h => by simpa using h
  | f :: G, k, a, h, _ => by
    obtain ⟨a1, a2⟩ := List.pairwise_cons.mp a
    obtain ⟨h1, h2⟩ := h f (List.mem_cons_self ..)
    have ih := asc_len (G := G) (k := piv f + 1) a2 (fun g hg => ⟨a1 g hg, (h g (List.mem_cons_of_mem _ hg)).2⟩) h2
    rw [List.length_cons]; omega
theorem ixN_of {n j : Nat} (h : j < n) : ixN n (j : Int) = some j := by
  unfold ixN
  rw [if_pos (by omega), if_pos (by omega)]
  show some ((j : Int)).toNat = some j
  rw [Int.toNat_natCast]
theorem nn_eq (v : Int) (h : v ≠ 0) : (!decide (V.int v = V.int 0)) = true := by rw [decide_eq_false (fun w => h (by injection w))]; rfl
theorem nn_z : (!decide (V.int 0 = V.int 0)) = false := by rw [decide_eq_true rfl]; rfl
/-- letter_groups(steps, many) -/
def spLgr : Sp := fun vs H Q _ => ∃ (w : Addr) (W many m : Nat) (G : List Rw), vs = [.ref w, .int (many : Int)] ∧ RowsZ H w G ∧ Steps W many G ∧ many ≤ W ∧ W ≤ 60 ∧ (∀ f ∈ G, Bb m f) ∧ m * G.length < 12000 ∧ m ≤ 6000 ∧
  ∀ gd H' gv, H gd = none → Same H H' → H' gd = some (.lst gv) → Paired (GV H gd H') gv (grsS G many many) → Q (.ref gd) H'

abbrev stletter_groups : Stmt := top 30
theorem scletter_groups : FnScope ["steps", "many", "pivots", "row", "groups", "free", "ratios", "at", "group", "item"] ["steps", "many"] (defScope stletter_groups) := ⟨rfl, rfl, rfl, by decide +kernel, rfl, by decide +kernel, by decide +kernel⟩
theorem okletter_groups (B : Blt mg) {CZero CHangs : Addr} (Es : ErH K mg CZero CHangs) {fcommon_bottom : Addr} {fdcommon_bottom : FuncData} (Dcommon_bottom : DefAt K mg "common_bottom" stcommon_bottom ["ratios"] fcommon_bottom fdcommon_bottom) {fwhole_row : Addr} {fdwhole_row : FuncData} (Dwhole_row : DefAt K mg "whole_row" stwhole_row ["ratios"] fwhole_row fdwhole_row) {fleast_multiple : Addr} {fdleast_multiple : FuncData} (Dleast_multiple : DefAt K mg "least_multiple" stleast_multiple ["ratios"] fleast_multiple fdleast_multiple) {flowest : Addr} {fdlowest : FuncData} (Dlowest : DefAt K mg "lowest" stlowest ["top", "bottom"] flowest fdlowest) {fpivot_of : Addr} {fdpivot_of : FuncData} (Dpivot_of : DefAt K mg "pivot_of" stpivot_of ["row"] fpivot_of fdpivot_of) {fletter_groups : Addr} {fdletter_groups : FuncData} (Dletter_groups : DefAt K mg "letter_groups" stletter_groups ["steps", "many"] fletter_groups fdletter_groups) : FnOk P w K mg base CX0 4 fletter_groups fdletter_groups ["steps", "many"] spLgr := by
  have OKleast_multiple : FnOk P w K mg base CX0 3 fleast_multiple fdleast_multiple ["ratios"] spLm := okleast_multiple B Es Dcommon_bottom Dwhole_row Dleast_multiple
  have OKlowest : FnOk P w K mg base CX0 1 flowest fdlowest ["top", "bottom"] spLowG := oklowest B Es Dlowest
  have OKpivot_of : FnOk P w K mg base CX0 1 fpivot_of fdpivot_of ["row"] spPv := okpivot_of B  Dpivot_of
  refine Dletter_groups.F.ok scletter_groups (fun vs H Q E h => ?_) (fun cdv A outer s H vs Q E hr h => ?_)
  · obtain ⟨w, W, many, m, G, rfl, _⟩ := h; rfl
  · have hu := hu_of hr
    refine ⟨_, (pss_cons (ps_setLc (i := 2) (own := [("row", 3)]) (g := gName 3) (tt := tYes) rfl scletter_groups.nd rfl rfl (sw_true rfl rfl rfl (by decide +kernel)) (pi_list (pv 0)) (blkOk_by (own := [("row", 3)]) (N := ["steps", "many", "pivots", "row", "groups", "free", "ratios", "at", "group", "item"]) (sc := defScope stletter_groups) (by decide +kernel)) (fun _ _ _ _ _ => (pg_name (i := 3) scletter_groups.nd rfl (Or.inl rfl))) (fun _ _ _ _ _ => pts_nil) (fun _ _ _ _ _ => (pe_call OKpivot_of (hr.mono (by decide)) rfl Dpivot_of.m Dpivot_of.F.kp Dpivot_of.b .nil pass0 (pa_cons (pv 3) pa_nil))))
    (pss_cons (ps_set (i := 4) scletter_groups.nd rfl (Or.inl rfl) (pe_op op_rep (pe_lst (pa_cons pe_non pa_nil)) (pv 1)))
    (pss_cons (ps_for PassesOwn.never rfl (pi_range1 rfl B.range_ (pa_cons (pv 1) pa_nil)) (pg_name (i := 5) scletter_groups.nd rfl (Or.inl rfl))
      (pss_one (ps_if (pt_cmpR op_notIn_seq (pv 5) (pv 2) rfl) (pss_cons (ps_set (i := 6) scletter_groups.nd rfl (Or.inl rfl) (pe_op op_rep (pe_lst (pa_cons (pe_tup (pa_cons pe_int (pa_cons pe_int pa_nil))) pa_nil)) (pv 1)))
    (pss_cons (ps_asg (pe_tup (pa_cons pe_int (pa_cons pe_int pa_nil))) (pg_sub (pv 6) (pv 5) set_list))
    (pss_cons (ps_for PassesOwn.never rfl (pi_zip (by rfl) B.zip_ (pa_cons (pv 2) (pa_cons (pv 0) pa_nil))) (pg_tup rfl (pgs_cons (pg_name (i := 7) scletter_groups.nd rfl (Or.inl rfl)) (pgs_cons (pg_name (i := 3) scletter_groups.nd rfl (Or.inl rfl)) pgs_nil)))
      (pss_one (ps_asg (pe_call OKlowest (hr.mono (by decide)) rfl Dlowest.m Dlowest.F.kp Dlowest.b .nil pass0 (pa_cons (pe_un un_neg (pe_ix ix_list (pv 3) (pv 5) (fun _ _ => rfl))) (pa_cons (pe_ix ix_list (pv 3) (pv 7) (fun _ _ => rfl)) pa_nil))) (pg_sub (pv 6) (pv 7) set_list))))
    (pss_cons (ps_set (i := 8) scletter_groups.nd rfl (Or.inl rfl) (pe_call OKleast_multiple (hr.mono (by decide)) rfl Dleast_multiple.m Dleast_multiple.F.kp Dleast_multiple.b .nil pass0 (pa_cons (pv 6) pa_nil)))
    (pss_one (ps_for PassesOwn.never rfl (pi_enum (by rfl) B.enumerate_ (pa_cons (pv 8) pa_nil)) (pg_tup rfl (pgs_cons (pg_name (i := 7) scletter_groups.nd rfl (Or.inl rfl)) (pgs_cons (pg_name (i := 9) scletter_groups.nd rfl (Or.inl rfl)) pgs_nil)))
      (pss_one (ps_if (PW.pt (pw_and (pt_cmpR op_ne (pv 9) pe_int (nomark _)) (pw_and1 (pt_cmpR op_isN (pe_ix ix_list (pv 4) (pv 7) (fun _ _ => rfl)) pe_non (nomark _))))) (pss_one (ps_asg (pv 8) (pg_sub (pv 4) (pv 7) set_list))) pss_nil)))))))) pss_nil)))
    (pss_one (ps_ret (pv 4)))))), ?_⟩
    obtain ⟨w, W, many, m, G, rfl, hw, S, hmW, hW, hb, hm1, hm2, q⟩ := h
    obtain ⟨as, W1, W2⟩ := hw
    have la := prd_len W2
    have lG : G.length ≤ 60 := by
      have := asc_len (k := 0) S.asc (fun f hf => ⟨Nat.zero_le _, S.lt f hf⟩) (Nat.zero_le _)
      omega
    refine ⟨_, rfl, w, rfl, ⟨_, SqL.of W1⟩, fun pd hpd => ?_⟩
    refine lc_list (K := K) (a := w) (xs := as.map V.ref) (fun i H' => Same H H' ∧ H' pd = some (.lst (((G.map fun f => (piv f : Int)).take i).map V.int))) ⟨AL.Same.new hpd, upd_same⟩ (fun i H' _ hh => SqL.of (hh.1 _ _ W1)) ?_ ?_
    · rintro i x H1 hx ⟨s1, hd⟩
      obtain ⟨a, ha, rfl⟩ := map_ref hx
      obtain ⟨f, hf, hfa⟩ := prd_get W2 ha
      have il := (List.getElem?_eq_some_iff.mp hf).1
      refine ⟨rfl, ?_⟩
      refine ⟨_, rfl, a, f, rfl, (s1 _ _ hfa : LI _ a f), fun H2 s2 => ⟨_, s2 _ _ hd, ?_, AL.Same.updn (s1.trans s2) hpd, ?_⟩⟩
      · rw [List.length_map, List.length_take, List.length_map]; exact Nat.lt_of_le_of_lt (by omega : _ ≤ 1000) (by decide)
      · rw [upd_same, List.take_add_one, List.getElem?_map, hf, List.map_append]; rfl
    rintro H1 ⟨s1, hd1⟩
    rw [List.take_of_length_le (by rw [List.length_map, List.length_map, la]; exact Nat.le_refl _)] at hd1
    refine ⟨(by show 1 ≤ sizeLine; decide), fun l1 hl1 => ?_⟩
    have n1 := AL.Same.new (o := .lst [.non]) hl1
    have hM : many ≤ 60 := by omega
    refine ⟨_, rfl, l1, _, [.non], rfl, rfl, upd_same, by omega, by omega, ?_, fun gd hgd => ?_⟩
    · rw [Int.toNat_natCast]; exact Nat.le_trans (by show 1 * many ≤ 100; omega) (by decide)
    rw [Int.toNat_natCast, List.flatten_replicate_singleton]
    have s0 : Same H (upd H1 l1 (.lst [.non])) := s1.trans n1
    have hp0 := n1 _ _ hd1
    generalize upd H1 l1 (.lst [.non]) = H0 at hgd s0 hp0 ⊢
    have W10 := s0 _ _ W1
    have W20 : Paired (fun a (r : Rw) => H0 a = some (.lst (r.map V.int))) as G := paired_mono W2 fun _ _ z => s0 _ _ z
    refine ⟨_, rfl, _, rfl, by omega, by omega, for_range (lo := 0) (n := ((many : Int)).toNat) (fun k σ H' => ∃ v3 v5 v6 v7 v8 v9 : Option V, σ = [some (.ref w), some (.int (many : Int)), some (.ref pd), v3, some (.ref gd), v5, v6, v7, v8, v9] ∧ Same H0 H' ∧ ∃ gv, H' gd = some (.lst gv) ∧ Paired (GV H gd H') gv (grsS G many k)) ⟨none, none, none, none, none, none, rfl, AL.Same.new hgd, _, upd_same, ?_⟩ ?_ ?_⟩
    · show Paired _ _ (List.replicate many none)
      clear hM
      induction many with
      | zero => exact .nil
      | succ n ih =>
        rw [List.replicate_succ, List.replicate_succ]
        refine .cons rfl ?_
        have go : ∀ n : Nat, ∀ {HH : Hp}, Paired (GV H gd HH) (List.replicate n V.non) (List.replicate n none) := fun n => by
          induction n with
          | zero => intro HH; exact .nil
          | succ n ih => intro HH; rw [List.replicate_succ, List.replicate_succ]; exact .cons rfl ih
        exact go n
    · rintro k σ H2 hk ⟨v3, v5, v6, v7, v8, v9, rfl, s2, gv, hgv, pgv⟩
      rw [Int.toNat_natCast] at hk
      have zk : (0 : Int) + (k : Int) = ((k : Nat) : Int) := Int.zero_add _
      rw [zk]
      have lgv := prd_len pgv
      rw [grsS_len] at lgv
      refine ⟨_, rfl, _, rfl, pd, _, rfl, .inl (SqL.of (s2 _ _ hp0)), rfl, flat_I _, _, rfl, ?_⟩
      show (if (!inV (V.int (k : Int)) ((G.map fun f => (piv f : Int)).map V.int)) = true then _ else _)
      rw [isPv_eq]
      by_cases pk : isPv G k = true
      · rw [pk]
        refine iteF ?_
        refine ⟨_, _, _, _, _, _, rfl, s2, gv, hgv, ?_⟩
        unfold grsS
        rw [if_pos pk]; exact pgv
      have pk' : isPv G k = false := by cases z : isPv G k with | true => exact absurd z pk | false => rfl
      rw [pk']
      refine iteT ?_
      have gS : grsS G many (k + 1) = mrg (grp G many k) many (grsS G many k) := by
        show (if isPv G k then _ else _) = _
        rw [if_neg pk]
      generalize grsS G many k = gs at pgv gS
      have lgs := prd_len pgv
      refine ⟨(by show 2 ≤ sizeLine; decide), fun z0 hz0 => ?_⟩
      have n3 := AL.Same.new (o := .tup [.int 0, .int 1]) hz0
      refine ⟨(by show 1 ≤ sizeLine; decide), fun l2 hl2 => ?_⟩
      have n4 := AL.Same.new (o := .lst [.ref z0]) hl2
      refine ⟨_, rfl, l2, _, [.ref z0], rfl, rfl, upd_same, by omega, by omega, ?_, fun rd hrd => ?_⟩
      · rw [Int.toNat_natCast]; exact Nat.le_trans (by show 1 * many ≤ 100; omega) (by decide)
      rw [Int.toNat_natCast, List.flatten_replicate_singleton]
      have s24 := n3.trans n4
      have hz4 : RQ (upd (upd H2 z0 (.tup [.int 0, .int 1])) l2 (.lst [.ref z0])) z0 0 := n4 _ _ upd_same
      generalize upd (upd H2 z0 (.tup [.int 0, .int 1])) l2 (.lst [.ref z0]) = H4 at hrd s24 hz4 ⊢
      have n5 := AL.Same.new (o := .lst (List.replicate many (.ref z0))) hrd
      refine ⟨(by show 2 ≤ sizeLine; decide), fun z1 hz1 => ?_⟩
      have n6 := AL.Same.new (o := .tup [.int 1, .int 1]) hz1
      have hrd6 := n6 _ _ (upd_same : upd H4 rd (.lst (List.replicate many (.ref z0))) rd = _)
      have z1rd : z1 ≠ rd := fun e => by rw [e] at hz1; rw [upd_same] at hz1; cases hz1
      refine ⟨_, rfl, _, rfl, rd, _, _, _, rfl, rfl, hrd6, ixN_of (by rw [List.length_replicate]; exact hk), ?_⟩
      have s46 : Same H4 (upd (upd (upd H4 rd (.lst (List.replicate many (.ref z0)))) z1 (.tup [.int 1, .int 1])) rd (.lst ((List.replicate many (V.ref z0)).set k (.ref z1)))) := AL.Same.updn (n5.trans n6) hrd
      have hr7 : upd (upd (upd H4 rd (.lst (List.replicate many (.ref z0)))) z1 (.tup [.int 1, .int 1])) rd (.lst ((List.replicate many (V.ref z0)).set k (.ref z1))) rd = some (.lst (((List.replicate many z0).set k z1).map V.ref)) := by
        rw [upd_same, List.map_set, List.map_replicate]
      have z0rd : z0 ≠ rd := fun e => by rw [e] at hz4; rw [show H4 rd = _ from hz4] at hrd; cases hrd
      have pr7 : Paired (fun r x => r ≠ rd ∧ RQ (upd (upd (upd H4 rd (.lst (List.replicate many (.ref z0)))) z1 (.tup [.int 1, .int 1])) rd (.lst ((List.replicate many (V.ref z0)).set k (.ref z1)))) r x) ((List.replicate many z0).set k z1) ((List.range many).map (rhoX (G.take 0) k)) := by
        rw [List.take_zero, ← rho_zero hk]
        refine prd_set ?_ k ⟨z1rd, Eq.trans (upd_ne z1rd) upd_same⟩
        have c : z0 ≠ rd ∧ RQ (upd (upd (upd H4 rd (.lst (List.replicate many (.ref z0)))) z1 (.tup [.int 1, .int 1])) rd (.lst ((List.replicate many (V.ref z0)).set k (.ref z1)))) z0 0 := ⟨z0rd, s46 _ _ hz4⟩
        have go : ∀ {R : Addr → Rat → Prop}, R z0 0 → ∀ n : Nat, Paired R (List.replicate n z0) (List.replicate n 0) := fun r n => by
          induction n with
          | zero => exact .nil
          | succ n ih => rw [List.replicate_succ, List.replicate_succ]; exact .cons r ih
        exact go (R := fun r x => r ≠ rd ∧ RQ _ r x) c many
      generalize upd (upd (upd H4 rd (.lst (List.replicate many (.ref z0)))) z1 (.tup [.int 1, .int 1])) rd (.lst ((List.replicate many (V.ref z0)).set k (.ref z1))) = H7 at s46 hr7 pr7 ⊢
      clear n5 n6 hrd6 hz1 n3 n4 hz0 hl2 hz4
      have s04 := s2.trans s24
      have hp4 := s04 _ _ hp0
      have W14 := s04 _ _ W10
      have W24 : Paired (fun a (r : Rw) => H4 a = some (.lst (r.map V.int))) as G := paired_mono W20 fun _ _ z => s04 _ _ z
      refine ⟨_, rfl, _, rfl, pd, w, _, _, rfl, SqL.of (s46 _ _ hp4), SqL.of (s46 _ _ W14), for_it (walk_zip (K := K) (a := pd) (b := w) (xs := (G.map fun f => (piv f : Int)).map V.int) (ys := as.map V.ref) (n := G.length) (by rw [List.length_map, List.length_map, List.length_map, la]; omega)) (fun i σ H' => ∃ v3 v7 : Option V, σ = [some (.ref w), some (.int (many : Int)), some (.ref pd), v3, some (.ref gd), some (.int (k : Int)), some (.ref rd), v7, v8, v9] ∧ Same H4 H' ∧ ∃ rs : List Addr, H' rd = some (.lst (rs.map V.ref)) ∧ Paired (fun r x => r ≠ rd ∧ RQ H' r x) rs ((List.range many).map (rhoX (G.take i) k))) ⟨v3, v7, rfl, s46, _, hr7, pr7⟩ (fun i σ H' _ hh => by obtain ⟨_, _, _, s, _⟩ := hh; exact ⟨SqL.of (s _ _ hp4), SqL.of (s _ _ W14)⟩) ?_ ?_⟩
      · rintro i x σ H8 H9 hi ⟨v3, v7, rfl, s8, rs, hrs, prs⟩ ⟨T0, u1, u2, rfl, hT0, rfl, e1, e2⟩
        obtain ⟨zi, hz, rfl⟩ := map_int e1
        rw [List.getElem?_map] at hz
        obtain ⟨a, ha, rfl⟩ := map_ref e2
        obtain ⟨f, hf, hfa⟩ := prd_get W24 ha
        rw [hf] at hz
        cases Option.some.inj hz
        have mf := List.mem_of_getElem? hf
        have nT := AL.Same.new (o := .tup [.int (piv f : Int), .ref a]) hT0
        have s9 := s8.trans nT
        have fa9 : LI (upd H8 T0 (.tup [.int (piv f : Int), .ref a])) a f := s9 _ _ hfa
        have lf := S.len f mf
        have pl := S.lt f mf
        have ps := S.pos f mf
        have pne : piv f ≠ k := fun e => by
          have : isPv G k = true := List.any_eq_true.mpr ⟨f, mf, decide_eq_true e⟩
          rw [pk'] at this; cases this
        have g1 : atI (f.map V.int) ((k : Nat) : Int) = some (.int (vl f k)) := by rw [atI_of (by rw [List.length_map]; omega), List.getElem?_map, vl_at (by omega : k < f.length)]; rfl
        have g2 : atI (f.map V.int) ((piv f : Nat) : Int) = some (.int (((vl f (piv f)).toNat : Nat) : Int)) := by
          rw [atI_of (by rw [List.length_map]; omega), List.getElem?_map, vl_at (by omega : piv f < f.length), Int.toNat_of_nonneg (by omega)]; rfl
        have b1 := hb f mf k
        have b2 := hb f mf (piv f)
        have le : 2 ^ m ≤ 2 ^ 13500 := Nat.pow_le_pow_right (by decide) (by omega)
        refine ⟨T0, _, rfl, SqT.of upd_same, rfl, _, _, rfl, _, _, rfl, rfl, ?_⟩
        refine ⟨_, rfl, _, rfl, a, _, _, _, rfl, rfl, SqL.of fa9, g1, _, rfl, _, rfl, _, rfl, a, _, _, _, rfl, rfl, SqL.of fa9, g2, _, _, rfl, .inl ⟨by rw [Int.natAbs_neg]; omega, by rw [Int.natAbs_natCast]; omega⟩, by omega, fun t ht => ?_⟩
        have nt := AL.Same.new (o := .tup [.int (lowI (-(vl f k)) (((vl f (piv f)).toNat : Nat) : Int)).1, .int (lowI (-(vl f k)) (((vl f (piv f)).toNat : Nat) : Int)).2]) ht
        have s10 := nT.trans nt
        have hrs10 := s10 _ _ hrs
        have lrs := prd_len prs
        rw [List.length_map, List.length_range] at lrs
        have trd : t ≠ rd := fun e => by rw [e, nT _ _ hrs] at ht; cases ht
        refine ⟨_, rfl, _, rfl, rd, _, _, _, rfl, rfl, hrs10, ixN_of (by rw [List.length_map]; omega), ?_⟩
        refine ⟨_, _, rfl, AL.Same.updn (s8.trans s10) hrd, rs.set (piv f) t, by rw [upd_same, List.map_set], ?_⟩
        rw [← rho_set S.asc hf pne]
        refine prd_set (paired_mono prs fun r x z => ⟨z.1, Eq.trans (upd_ne z.1) (s10 _ _ z.2)⟩) (piv f) ⟨trd, Eq.trans (upd_ne trd) ?_⟩
        have e := low_rq (-(vl f k)) (b := (vl f (piv f)).toNat) (by omega)
        rw [e]
        exact upd_same
      rintro σ H8 ⟨v3, v7, rfl, s8, rs, hrs, prs⟩
      rw [List.take_length] at prs
      have lrs := prd_len prs
      rw [List.length_map, List.length_range] at lrs
      have pvb : pvP G < 2 ^ 12000 := Nat.lt_of_le_of_lt (pvP_le S.pos hb) (Nat.pow_lt_pow_right (by decide) hm1)
      refine ⟨_, rfl, rd, rs, grX G many k, pvP G, rfl, hrs, paired_mono prs fun _ _ z => z.2, pvP_pos S.pos, pvb, fun x hx => ?_, by unfold grX; rw [List.length_map, List.length_range]; omega, fun d H9 s9 hdn hg => ?_⟩
      · unfold grX at hx
        obtain ⟨j, _, rfl⟩ := List.mem_map.mp hx
        exact rho_ok S hb hm2 j
      have hg' : LI H9 d (grp G many k) := hg
      have lgr : (grp G many k).length = many := by unfold grp wholeR grX; rw [List.length_map, List.length_map, List.length_range]
      generalize grp G many k = gr at hg' gS lgr
      have s49 := s8.trans s9
      have s29 := s24.trans s49
      have hgd9 := s29 _ _ hgv
      have dgd : d ≠ gd := fun e => by
        rw [e, (s24.trans s8) _ _ hgv] at hdn
        cases hdn
      refine ⟨_, rfl, d, _, rfl, SqL.of hg', for_it (walk_enum (K := K) (a := d) (xs := gr.map V.int)) (fun i σ H' => ∃ v7 v9 : Option V, σ = [some (.ref w), some (.int (many : Int)), some (.ref pd), v3, some (.ref gd), some (.int (k : Int)), some (.ref rd), v7, some (.ref d), v9] ∧ (∀ c o, c ≠ gd → H9 c = some o → H' c = some o) ∧ ∃ gv, H' gd = some (.lst gv) ∧ Paired (GV H gd H') gv (mrg gr i gs)) ⟨v7, v9, rfl, (fun _ _ _ h => h), gv, hgd9, by rw [mrg_zero]; exact paired_mono pgv fun _ _ z => z.same s29⟩ (fun i σ H' _ hh => by obtain ⟨_, _, _, s, _⟩ := hh; exact SqL.of (s _ _ dgd hg')) ?_ ?_⟩
      · rintro i x σ H10 H11 hi ⟨v7, v9, rfl, k10, gv1, hgv1, pgv1⟩ ⟨T0, u1, u2, rfl, hT0, rfl, e1, e2⟩
        cases e1
        obtain ⟨z, hz, rfl⟩ := map_int e2
        have ez := vl_get hz
        have il := (List.getElem?_eq_some_iff.mp hz).1
        have nT := AL.Same.new (o := .tup [.int (i : Int), .int z]) hT0
        have hgv11 := nT _ _ hgv1
        have lg1 := prd_len pgv1
        rw [mrg_len] at lg1
        have pg11 := paired_mono pgv1 fun _ _ z => z.same nT
        have kk : ∀ c o, c ≠ gd → H9 c = some o → upd H10 T0 (.tup [.int (i : Int), .int z]) c = some o := fun c o n h => nT _ _ (k10 c o n h)
        obtain ⟨oi, hoi⟩ : ∃ o, gs[i]? = some o := ⟨_, List.getElem?_eq_getElem (by omega)⟩
        have ms := mrg_step (g := gr) hoi
        refine ⟨T0, _, rfl, SqT.of upd_same, rfl, _, _, rfl, _, _, rfl, rfl, ?_⟩
        refine ⟨_, rfl, rfl, _, rfl, ?_⟩
        by_cases z00 : z = 0
        · subst z00
          rw [nn_z]
          refine iteF ?_
          refine ⟨_, _, rfl, kk, gv1, hgv11, ?_⟩
          rw [ms, if_neg (fun w => w.1 ez)]; exact pg11
        rw [nn_eq z z00]
        refine iteT ?_
        have hmi : (mrg gr i gs)[i]? = some oi := by
          unfold mrg
          rw [List.getElem?_mapIdx, hoi]
          show some (if _ then _ else oi) = _
          rw [if_neg (fun w => absurd w.1 (Nat.lt_irrefl _))]
        obtain ⟨vi, hvi, gvi⟩ : ∃ v, gv1[i]? = some v ∧ GV H gd (upd H10 T0 (.tup [.int (i : Int), .int z])) v oi := by
          have lt : i < gv1.length := by omega
          obtain ⟨o', e1, e2⟩ := prd_get pg11 (List.getElem?_eq_getElem lt)
          rw [hmi] at e1
          cases Option.some.inj e1
          exact ⟨_, List.getElem?_eq_getElem lt, e2⟩
        refine ⟨_, rfl, _, rfl, gd, _, _, vi, rfl, rfl, SqL.of hgv11, by rw [atI_of (by omega)]; exact hvi, rfl, _, rfl, ?_⟩
        cases oi with
        | some g0 =>
          obtain ⟨a0, _, rfl, _⟩ := gvi
          refine iteF ?_
          refine ⟨_, _, rfl, kk, gv1, hgv11, ?_⟩
          rw [ms, if_neg (fun w => by cases w.2)]; exact pg11
        | none =>
          obtain rfl : vi = .non := gvi
          refine iteT ?_
          refine ⟨_, rfl, _, rfl, _, rfl, gd, _, _, _, rfl, rfl, hgv11, ixN_of (by omega), ?_⟩
          refine ⟨_, _, rfl, fun c o n h => by rw [upd_ne n]; exact kk c o n h, gv1.set i (.ref d), upd_same, ?_⟩
          rw [ms, if_pos ⟨by rw [ez]; exact z00, rfl⟩]
          exact prd_set (paired_mono pg11 fun _ _ z => z.upd) i ⟨d, dgd, rfl, Eq.trans (upd_ne dgd) (kk d _ dgd hg'), (by cases e : H d with | none => rfl | some o => rw [(s0.trans (s2.trans (s24.trans s8))) _ _ e] at hdn; cases hdn)⟩
      rintro σ H10 ⟨v7, v9, rfl, k10, gv1, hgv1, pgv1⟩
      rw [List.length_map, lgr, ← gS] at pgv1
      refine ⟨_, _, _, _, _, _, rfl, fun c o h => k10 c o (fun e => by rw [e, hgd] at h; cases h) (s29 _ _ (s2 _ _ h)), gv1, hgv1, pgv1⟩
    rintro σ H2 ⟨v3, v5, v6, v7, v8, v9, rfl, s2, gv, hgv, pgv⟩
    rw [Int.toNat_natCast] at pgv
    refine ⟨_, rfl, q gd H2 gv ?_ (s0.trans s2) hgv pgv⟩
    cases e : H gd with
    | none => rfl
    | some o => rw [s0 _ _ e] at hgd; cases hgd
end
end AL
set_option Elab.async false
set_option maxRecDepth 100000
set_option exponentiation.threshold 70000
set_option maxHeartbeats 1000000
namespace AL
open PySem PySem.Spec PyProof.Rows L2 RZ
section
variable {P : Program} {w : World} {K : PySem.W.Frag} {mg : Str → Option Value} {base : Heap}

structure IniA (K : PySem.W.Frag) (x qual : Str) (st : Stmt) (ps : List Str) (C f : Addr) (fd : FuncData) : Prop where
  F : Fun K x qual st f fd
  b : Binds K fd ps []
  M : Mk K C f
def rListK (K : PySem.W.Frag) : List V → Hp → VK → Prop := fun xs H Q => ∃ p ys, xs = [V.ref p] ∧ (SqL K H p ys ∨ SqT K H p ys) ∧ ∀ l, H l = none → Q (.ref l) (upd H l (.lst ys))
theorem call_listK {X : Cx} : CallR X (.type "list") (rListK X.K) := call_list_of
/-- Zero.__init__ -/
def spZI (CZ : Addr) : Sp := fun vs H Q _ => ∃ (z dz a : Addr) (us : List V) (cs : List TC), vs = [.ref z, .ref a] ∧ H z = some (.ins CZ dz []) ∧ (H a = some (.lst us) ∨ H a = some (.tup us)) ∧ Paired (R1 H) us cs ∧ us.length ≤ 100 ∧
  ∀ t H' ys, (∀ b o, b ≠ z → H b = some o → H' b = some o) → H' z = some (.ins CZ dz [("change", .ref t)]) → H' t = some (.tup ys) → Paired (Res1 H') ys cs → Q .non H'
/-- Hangs.__init__ -/
def spHI (CH : Addr) : Sp := fun vs H Q _ => ∃ (z dz a1 a2 a3 a4 : Addr) (u1 u2 u3 u4 : List V) (c1 c2 c3 c4 : List TC), vs = [.ref z, .ref a1, .ref a2, .ref a3, .ref a4] ∧ H z = some (.ins CH dz []) ∧ (H a1 = some (.lst u1) ∨ H a1 = some (.tup u1)) ∧ (H a2 = some (.lst u2) ∨ H a2 = some (.tup u2)) ∧ (H a3 = some (.lst u3) ∨ H a3 = some (.tup u3)) ∧ (H a4 = some (.lst u4) ∨ H a4 = some (.tup u4)) ∧ Paired (R1 H) u1 c1 ∧ Paired (R1 H) u2 c2 ∧ Paired (R1 H) u3 c3 ∧ Paired (R1 H) u4 c4 ∧ u1.length ≤ 100 ∧ u2.length ≤ 100 ∧ u3.length ≤ 100 ∧ u4.length ≤ 100 ∧
  ∀ t1 t2 t3 t4 H' y1 y2 y3 y4, (∀ b o, b ≠ z → H b = some o → H' b = some o) → H' z = some (.ins CH dz [("kinds", .ref t1), ("powers", .ref t2), ("groups", .ref t3), ("changes", .ref t4)]) → H' t1 = some (.tup y1) → H' t2 = some (.tup y2) → H' t3 = some (.tup y3) → H' t4 = some (.tup y4) → Paired (Res1 H') y1 c1 → Paired (Res1 H') y2 c2 → Paired (Res1 H') y3 c3 → Paired (Res1 H') y4 c4 → Q .non H'
theorem R1.but {H H' : Hp} {z C dz : Addr} {fs : List (Str × V)} {v : V} {c : TC} (h : R1 H v c) (hz : H z = some (.ins C dz fs)) (k : ∀ b o, b ≠ z → H b = some o → H' b = some o) : R1 H' v c := by
  cases c with
  | inl u => exact h
  | inr xs =>
    obtain ⟨a, h1, h2, h3⟩ := h
    refine ⟨a, h1, ?_, h3⟩
    rcases h2 with w | w
    · exact .inl (k _ _ (fun e => by rw [e, hz] at w; cases w) w)
    · exact .inr (k _ _ (fun e => by rw [e, hz] at w; cases w) w)
theorem Res1.but {H H' : Hp} {z C dz : Addr} {fs : List (Str × V)} {v : V} {c : TC} (h : Res1 H v c) (hz : H z = some (.ins C dz fs)) (k : ∀ b o, b ≠ z → H b = some o → H' b = some o) : Res1 H' v c := by
  cases c with
  | inl u => exact h
  | inr xs =>
    obtain ⟨t, h1, h2⟩ := h
    exact ⟨t, h1, k _ _ (fun e => by rw [e, hz] at h2; cases h2) h2⟩

abbrev stZ_init : Stmt := inClass (top 27) 0
theorem scZ_init : FnScope ["self", "change"] ["self", "change"] (defScope stZ_init) := ⟨rfl, rfl, rfl, by decide +kernel, rfl, by decide +kernel, by decide +kernel⟩
theorem okZ_init (B : Blt mg) {CZero CHangs : Addr} (Es : ErH K mg CZero CHangs) {fis_list : Addr} {fdis_list : FuncData} (Dis_list : DefAt K mg "is_list" stis_list ["value"] fis_list fdis_list) {fas_tuples0 : Addr} {fdas_tuples0 : FuncData} (Das_tuples0 : DefAt K mg "as_tuples" stas_tuples0 ["value"] fas_tuples0 fdas_tuples0) {fas_tuples1 : Addr} {fdas_tuples1 : FuncData} (Das_tuples1 : DefAt K mg "as_tuples" stas_tuples1 ["value"] fas_tuples1 fdas_tuples1) {fas_tuples : Addr} {fdas_tuples : FuncData} (Das_tuples : DefAt K mg "as_tuples" stas_tuples ["value"] fas_tuples fdas_tuples) {fZ_init : Addr} {fdZ_init : FuncData} (DZ_init : IniA K "__init__" "Zero.__init__" stZ_init ["self", "change"] CZero fZ_init fdZ_init) : FnOk P w K mg base CX0 5 fZ_init fdZ_init ["self", "change"] (spZI CZero) := by
  have OKas_tuples : FnOk P w K mg base CX0 4 fas_tuples fdas_tuples ["value"] spAs2 := okas_tuples B  Dis_list Das_tuples0 Das_tuples1 Das_tuples
  refine DZ_init.F.ok scZ_init (fun vs H Q E h => ?_) (fun cdv A outer s H vs Q E hr h => ?_)
  · obtain ⟨z, dz, a, us, cs, rfl, _⟩ := h; rfl
  · have hu := hu_of hr
    refine ⟨_, (pss_one (ps_fld (pv 0) (pe_call OKas_tuples (hr.mono (by decide)) rfl Das_tuples.m Das_tuples.F.kp Das_tuples.b .nil pass0 (pa_cons (pv 1) pa_nil)) rfl)), ?_⟩
    obtain ⟨z, dz, a, us, cs, rfl, hz, ha, pr, lu, q⟩ := h
    refine ⟨_, rfl, a, us, cs, rfl, ha, pr, lu, fun t H1 ys s1 ht py => ?_⟩
    refine ⟨_, rfl, z, CZero, dz, [], rfl, s1 _ _ hz, Es.clZ, Es.zC, (by show 0 < 1000; decide), ?_⟩
    have k1 : ∀ b o, b ≠ z → H b = some o → upd H1 z (.ins CZero dz (putF "change" (V.ref t) [])) b = some o := fun b o n w => by rw [upd_ne n]; exact s1 _ _ w
    have tz : t ≠ z := fun e => by rw [e, s1 _ _ hz] at ht; cases ht
    exact q t _ ys k1 upd_same (Eq.trans (upd_ne tz) ht) (paired_mono py fun _ _ w => w.but (s1 _ _ hz) fun b o n w => by rw [upd_ne n]; exact w)
abbrev stH_init : Stmt := inClass (top 28) 0
theorem scH_init : FnScope ["self", "kinds", "powers", "groups", "changes"] ["self", "kinds", "powers", "groups", "changes"] (defScope stH_init) := ⟨rfl, rfl, rfl, by decide +kernel, rfl, by decide +kernel, by decide +kernel⟩
theorem okH_init (B : Blt mg) {CZero CHangs : Addr} (Es : ErH K mg CZero CHangs) {fis_list : Addr} {fdis_list : FuncData} (Dis_list : DefAt K mg "is_list" stis_list ["value"] fis_list fdis_list) {fas_tuples0 : Addr} {fdas_tuples0 : FuncData} (Das_tuples0 : DefAt K mg "as_tuples" stas_tuples0 ["value"] fas_tuples0 fdas_tuples0) {fas_tuples1 : Addr} {fdas_tuples1 : FuncData} (Das_tuples1 : DefAt K mg "as_tuples" stas_tuples1 ["value"] fas_tuples1 fdas_tuples1) {fas_tuples : Addr} {fdas_tuples : FuncData} (Das_tuples : DefAt K mg "as_tuples" stas_tuples ["value"] fas_tuples fdas_tuples) {fH_init : Addr} {fdH_init : FuncData} (DH_init : IniA K "__init__" "Hangs.__init__" stH_init ["self", "kinds", "powers", "groups", "changes"] CHangs fH_init fdH_init) : FnOk P w K mg base CX0 5 fH_init fdH_init ["self", "kinds", "powers", "groups", "changes"] (spHI CHangs) := by
  have OKas_tuples : FnOk P w K mg base CX0 4 fas_tuples fdas_tuples ["value"] spAs2 := okas_tuples B  Dis_list Das_tuples0 Das_tuples1 Das_tuples
  refine DH_init.F.ok scH_init (fun vs H Q E h => ?_) (fun cdv A outer s H vs Q E hr h => ?_)
  · obtain ⟨z, dz, a1, a2, a3, a4, u1, u2, u3, u4, c1, c2, c3, c4, rfl, _⟩ := h; rfl
  · have hu := hu_of hr
    refine ⟨_, (pss_cons (ps_fld (pv 0) (pe_call OKas_tuples (hr.mono (by decide)) rfl Das_tuples.m Das_tuples.F.kp Das_tuples.b .nil pass0 (pa_cons (pv 1) pa_nil)) rfl)
    (pss_cons (ps_fld (pv 0) (pe_call OKas_tuples (hr.mono (by decide)) rfl Das_tuples.m Das_tuples.F.kp Das_tuples.b .nil pass0 (pa_cons (pv 2) pa_nil)) rfl)
    (pss_cons (ps_fld (pv 0) (pe_call OKas_tuples (hr.mono (by decide)) rfl Das_tuples.m Das_tuples.F.kp Das_tuples.b .nil pass0 (pa_cons (pv 3) pa_nil)) rfl)
    (pss_one (ps_fld (pv 0) (pe_call OKas_tuples (hr.mono (by decide)) rfl Das_tuples.m Das_tuples.F.kp Das_tuples.b .nil pass0 (pa_cons (pv 4) pa_nil)) rfl))))), ?_⟩
    obtain ⟨z, dz, a1, a2, a3, a4, u1, u2, u3, u4, c1, c2, c3, c4, rfl, hz, h1, h2, h3, h4, p1, p2, p3, p4, l1, l2, l3, l4, q⟩ := h
    have nz1 : a1 ≠ z := fun e => by rcases h1 with h | h <;> (rw [e, hz] at h; cases h)
    have nz2 : a2 ≠ z := fun e => by rcases h2 with h | h <;> (rw [e, hz] at h; cases h)
    have nz3 : a3 ≠ z := fun e => by rcases h3 with h | h <;> (rw [e, hz] at h; cases h)
    have nz4 : a4 ≠ z := fun e => by rcases h4 with h | h <;> (rw [e, hz] at h; cases h)
    refine ⟨_, rfl, a1, u1, c1, rfl, h1, p1, l1, fun t1 HA1 y1 s1 ht1 py1 => ?_⟩
    have hz1 := s1 _ _ hz
    have tz1 : t1 ≠ z := fun e => by rw [e, hz1] at ht1; cases ht1
    refine ⟨_, rfl, z, CHangs, dz, [], rfl, hz1, Es.clH, Es.hK, (by show 0 < 1000; decide), ?_⟩
    have kb1 : ∀ b o, b ≠ z → HA1 b = some o → upd HA1 z (.ins CHangs dz (putF "kinds" (V.ref t1) [])) b = some o := fun b o n w => by rw [upd_ne n]; exact w
    have ze1 : upd HA1 z (.ins CHangs dz (putF "kinds" (V.ref t1) [])) z = some (.ins CHangs dz [("kinds", .ref t1)]) := upd_same
    replace ht1 := kb1 _ _ tz1 ht1
    replace py1 := paired_mono py1 fun _ _ w => w.but hz1 kb1
    have kk1 : ∀ b o, b ≠ z → H b = some o → upd HA1 z (.ins CHangs dz (putF "kinds" (V.ref t1) [])) b = some o := fun b o n w => kb1 b o n (s1 _ _ w)
    generalize upd HA1 z (.ins CHangs dz (putF "kinds" (V.ref t1) [])) = HB1 at kb1 ze1 ht1 py1 kk1 ⊢
    clear kb1
    replace h2 := h2.imp (kk1 _ _ nz2) (kk1 _ _ nz2)
    replace p2 := paired_mono p2 fun _ _ w => w.but hz kk1
    replace h3 := h3.imp (kk1 _ _ nz3) (kk1 _ _ nz3)
    replace p3 := paired_mono p3 fun _ _ w => w.but hz kk1
    replace h4 := h4.imp (kk1 _ _ nz4) (kk1 _ _ nz4)
    replace p4 := paired_mono p4 fun _ _ w => w.but hz kk1
    replace hz := ze1
    refine ⟨_, rfl, a2, u2, c2, rfl, h2, p2, l2, fun t2 HA2 y2 s2 ht2 py2 => ?_⟩
    have hz2 := s2 _ _ hz
    have tz2 : t2 ≠ z := fun e => by rw [e, hz2] at ht2; cases ht2
    refine ⟨_, rfl, z, CHangs, dz, [("kinds", .ref t1)], rfl, hz2, Es.clH, Es.hP, (by show 1 < 1000; decide), ?_⟩
    have kb2 : ∀ b o, b ≠ z → HA2 b = some o → upd HA2 z (.ins CHangs dz (putF "powers" (V.ref t2) [("kinds", .ref t1)])) b = some o := fun b o n w => by rw [upd_ne n]; exact w
    have ze2 : upd HA2 z (.ins CHangs dz (putF "powers" (V.ref t2) [("kinds", .ref t1)])) z = some (.ins CHangs dz [("kinds", .ref t1), ("powers", .ref t2)]) := upd_same
    replace ht2 := kb2 _ _ tz2 ht2
    replace py2 := paired_mono py2 fun _ _ w => w.but hz2 kb2
    have kk2 : ∀ b o, b ≠ z → HB1 b = some o → upd HA2 z (.ins CHangs dz (putF "powers" (V.ref t2) [("kinds", .ref t1)])) b = some o := fun b o n w => kb2 b o n (s2 _ _ w)
    generalize upd HA2 z (.ins CHangs dz (putF "powers" (V.ref t2) [("kinds", .ref t1)])) = HB2 at kb2 ze2 ht2 py2 kk2 ⊢
    clear kb2
    replace h3 := h3.imp (kk2 _ _ nz3) (kk2 _ _ nz3)
    replace p3 := paired_mono p3 fun _ _ w => w.but hz kk2
    replace h4 := h4.imp (kk2 _ _ nz4) (kk2 _ _ nz4)
    replace p4 := paired_mono p4 fun _ _ w => w.but hz kk2
    have tz21 : t1 ≠ z := fun e => by rw [e, hz] at ht1; cases ht1
    replace ht1 := kk2 _ _ tz21 ht1
    replace py1 := paired_mono py1 fun _ _ w => w.but hz kk2
    replace hz := ze2
    refine ⟨_, rfl, a3, u3, c3, rfl, h3, p3, l3, fun t3 HA3 y3 s3 ht3 py3 => ?_⟩
    have hz3 := s3 _ _ hz
    have tz3 : t3 ≠ z := fun e => by rw [e, hz3] at ht3; cases ht3
    refine ⟨_, rfl, z, CHangs, dz, [("kinds", .ref t1), ("powers", .ref t2)], rfl, hz3, Es.clH, Es.hG, (by show 2 < 1000; decide), ?_⟩
    have kb3 : ∀ b o, b ≠ z → HA3 b = some o → upd HA3 z (.ins CHangs dz (putF "groups" (V.ref t3) [("kinds", .ref t1), ("powers", .ref t2)])) b = some o := fun b o n w => by rw [upd_ne n]; exact w
    have ze3 : upd HA3 z (.ins CHangs dz (putF "groups" (V.ref t3) [("kinds", .ref t1), ("powers", .ref t2)])) z = some (.ins CHangs dz [("kinds", .ref t1), ("powers", .ref t2), ("groups", .ref t3)]) := upd_same
    replace ht3 := kb3 _ _ tz3 ht3
    replace py3 := paired_mono py3 fun _ _ w => w.but hz3 kb3
    have kk3 : ∀ b o, b ≠ z → HB2 b = some o → upd HA3 z (.ins CHangs dz (putF "groups" (V.ref t3) [("kinds", .ref t1), ("powers", .ref t2)])) b = some o := fun b o n w => kb3 b o n (s3 _ _ w)
    generalize upd HA3 z (.ins CHangs dz (putF "groups" (V.ref t3) [("kinds", .ref t1), ("powers", .ref t2)])) = HB3 at kb3 ze3 ht3 py3 kk3 ⊢
    clear kb3
    replace h4 := h4.imp (kk3 _ _ nz4) (kk3 _ _ nz4)
    replace p4 := paired_mono p4 fun _ _ w => w.but hz kk3
    have tz31 : t1 ≠ z := fun e => by rw [e, hz] at ht1; cases ht1
    replace ht1 := kk3 _ _ tz31 ht1
    replace py1 := paired_mono py1 fun _ _ w => w.but hz kk3
    have tz32 : t2 ≠ z := fun e => by rw [e, hz] at ht2; cases ht2
    replace ht2 := kk3 _ _ tz32 ht2
    replace py2 := paired_mono py2 fun _ _ w => w.but hz kk3
    replace hz := ze3
    refine ⟨_, rfl, a4, u4, c4, rfl, h4, p4, l4, fun t4 HA4 y4 s4 ht4 py4 => ?_⟩
    have hz4 := s4 _ _ hz
    have tz4 : t4 ≠ z := fun e => by rw [e, hz4] at ht4; cases ht4
    refine ⟨_, rfl, z, CHangs, dz, [("kinds", .ref t1), ("powers", .ref t2), ("groups", .ref t3)], rfl, hz4, Es.clH, Es.hC, (by show 3 < 1000; decide), ?_⟩
    have kb4 : ∀ b o, b ≠ z → HA4 b = some o → upd HA4 z (.ins CHangs dz (putF "changes" (V.ref t4) [("kinds", .ref t1), ("powers", .ref t2), ("groups", .ref t3)])) b = some o := fun b o n w => by rw [upd_ne n]; exact w
    have ze4 : upd HA4 z (.ins CHangs dz (putF "changes" (V.ref t4) [("kinds", .ref t1), ("powers", .ref t2), ("groups", .ref t3)])) z = some (.ins CHangs dz [("kinds", .ref t1), ("powers", .ref t2), ("groups", .ref t3), ("changes", .ref t4)]) := upd_same
    replace ht4 := kb4 _ _ tz4 ht4
    replace py4 := paired_mono py4 fun _ _ w => w.but hz4 kb4
    have kk4 : ∀ b o, b ≠ z → HB3 b = some o → upd HA4 z (.ins CHangs dz (putF "changes" (V.ref t4) [("kinds", .ref t1), ("powers", .ref t2), ("groups", .ref t3)])) b = some o := fun b o n w => kb4 b o n (s4 _ _ w)
    generalize upd HA4 z (.ins CHangs dz (putF "changes" (V.ref t4) [("kinds", .ref t1), ("powers", .ref t2), ("groups", .ref t3)])) = HB4 at kb4 ze4 ht4 py4 kk4 ⊢
    clear kb4
    have tz41 : t1 ≠ z := fun e => by rw [e, hz] at ht1; cases ht1
    replace ht1 := kk4 _ _ tz41 ht1
    replace py1 := paired_mono py1 fun _ _ w => w.but hz kk4
    have tz42 : t2 ≠ z := fun e => by rw [e, hz] at ht2; cases ht2
    replace ht2 := kk4 _ _ tz42 ht2
    replace py2 := paired_mono py2 fun _ _ w => w.but hz kk4
    have tz43 : t3 ≠ z := fun e => by rw [e, hz] at ht3; cases ht3
    replace ht3 := kk4 _ _ tz43 ht3
    replace py3 := paired_mono py3 fun _ _ w => w.but hz kk4
    replace hz := ze4
    exact q t1 t2 t3 t4 HB4 y1 y2 y3 y4 (fun b o n w => kk4 b o n (kk3 b o n (kk2 b o n (kk1 b o n w)))) hz ht1 ht2 ht3 ht4 py1 py2 py3 py4
end
end AL
set_option Elab.async false
set_option maxRecDepth 100000
set_option exponentiation.threshold 70000
set_option maxHeartbeats 1000000
namespace AL
open PySem PySem.Spec PyProof.Rows L2 RZ
section
variable {P : Program} {w : World} {K : PySem.W.Frag} {mg : Str → Option Value} {base : Heap}

theorem cutL_from {xs : List V} {j : Nat} (h : j ≤ xs.length) : cutV xs (some (j : Int)) none = xs.drop j := by
  unfold cutV
  rw [HT.sIx_none, HT.sIx_nat, Nat.min_eq_left h, List.take_of_length_le (by rw [List.length_drop]; omega)]
def rowH (E : List Rw) (rs : Rw) (n i : Nat) : Rw := (E.map fun e => vl e i) ++ [vl rs i] ++ unitR n i
/-- what is reduced: a row for each base unit -/
def rowsH (E : List Rw) (rs : Rw) (n : Nat) : List Rw := (List.range n).map (rowH E rs n)
theorem rowsH_len (E : List Rw) (rs : Rw) (n : Nat) : (rowsH E rs n).length = n := by unfold rowsH; rw [List.length_map, List.length_range]
theorem rowH_len (E : List Rw) (rs : Rw) (n i : Nat) : (rowH E rs n i).length = E.length + 1 + n := by unfold rowH; rw [List.length_append, List.length_append, List.length_map, unitR_len]; rfl
/-- the row of a letter that is fixed, among some rows -/
def fixT (T : List Rw) (gs : List (Option Rw)) (j : Nat) : Option Rw := match T.find? (fun f => decide (piv f = j)) with
  | some f => if gs.getD j none = none then some f else none
  | none => none
theorem fix_step {G : List Rw} (asc : G.Pairwise fun f h => piv f < piv h) {gs : List (Option Rw)} {i : Nat} {f : Rw} (hf : G[i]? = some f) (j : Nat) : fixT (G.take (i + 1)) gs j = if j = piv f ∧ gs.getD j none = none then some f else fixT (G.take i) gs j := by
  unfold fixT
  rw [List.take_add_one, hf, show (some f).toList = [f] from rfl, find_snoc (asc_ne asc hf)]
  by_cases e : j = piv f
  · rw [if_pos e]
    have n : (G.take i).find? (fun g => decide (piv g = j)) = none := List.find?_eq_none.mpr fun g hg z => asc_ne asc hf g hg (by rw [of_decide_eq_true z, e])
    rw [n]
    by_cases c : gs.getD j none = none
    · rw [if_pos ⟨e, c⟩]; show (if _ then _ else _) = _; rw [if_pos c]
    · rw [if_neg (fun z => c z.2)]; show (if _ then _ else _) = _; rw [if_neg c]
  · rw [if_neg e, if_neg (fun z => e z.1)]
theorem fix_set {β : Type} (φ : Option Rw → β) {G : List Rw} (asc : G.Pairwise fun f h => piv f < piv h) {gs : List (Option Rw)} {i many : Nat} {f : Rw} (hf : G[i]? = some f) (c : gs.getD (piv f) none = none) : ((List.range many).map fun j => φ (fixT (G.take i) gs j)).set (piv f) (φ (some f)) = (List.range many).map fun j => φ (fixT (G.take (i + 1)) gs j) := by
  refine List.ext_getElem (by simp) fun j h1 h2 => ?_
  rw [List.getElem_set, List.getElem_map, List.getElem_range, List.getElem_map, List.getElem_range, fix_step asc hf]
  by_cases e : piv f = j
  · subst e; rw [if_pos rfl, if_pos ⟨rfl, c⟩]
  · rw [if_neg e, if_neg (fun z => e z.1.symm)]
theorem fix_same {β : Type} (φ : Option Rw → β) {G : List Rw} (asc : G.Pairwise fun f h => piv f < piv h) {gs : List (Option Rw)} {i many : Nat} {f : Rw} (hf : G[i]? = some f) (c : gs.getD (piv f) none ≠ none) : ((List.range many).map fun j => φ (fixT (G.take i) gs j)) = (List.range many).map fun j => φ (fixT (G.take (i + 1)) gs j) := by
  refine List.map_congr_left fun j _ => ?_
  rw [fix_step asc hf, if_neg (fun z => c (by rw [← z.1]; exact z.2))]
def kindS (many : Nat) : Option Rw → Str
  | none => "free"
  | some f => if vl f many = 0 then "none" else "fixed"
def powO (many : Nat) : Option Rw → Option Rat := Option.map fun f => mkRat (vl f many) (vl f (piv f)).toNat
def chR (many : Nat) : Option Rw → Option Rw := Option.map fun f => f.drop (many + 1)
def fixA (S : List Rw) (many j : Nat) : Option Rw := fixT S (grsS S many many) j
/-- a power: none or a ratio -/
def PwV (H : Hp) (v : V) : Option Rat → Prop
  | none => v = .non
  | some x => ∃ t, v = .ref t ∧ RQ H t x
/-- a row of whole numbers in a tuple, or none -/
def RwV (H : Hp) (v : V) : Option Rw → Prop
  | none => v = .non
  | some g => ∃ t, v = .ref t ∧ H t = some (.tup (g.map V.int))
/-- a Zero -/
def ZeroAt (CZ : Addr) (H : Hp) (z : Addr) (c : Rw) : Prop := ∃ dz t, H z = some (.ins CZ dz [("change", .ref t)]) ∧ H t = some (.tup (c.map V.int))
/-- a Hangs -/
def HangsAt (CH : Addr) (H : Hp) (z : Addr) (S : List Rw) (many : Nat) : Prop := ∃ dz t1 t2 t3 t4 y2 y3 y4, H z = some (.ins CH dz [("kinds", .ref t1), ("powers", .ref t2), ("groups", .ref t3), ("changes", .ref t4)]) ∧
  H t1 = some (.tup ((List.range many).map fun j => V.str (kindS many (fixA S many j)))) ∧ H t2 = some (.tup y2) ∧ H t3 = some (.tup y3) ∧ H t4 = some (.tup y4) ∧
  Paired (PwV H) y2 ((List.range many).map fun j => powO many (fixA S many j)) ∧ Paired (RwV H) y3 (grsS S many many) ∧ Paired (RwV H) y4 ((List.range many).map fun j => chR many (fixA S many j))
/-- hangs(exponents, result) -/
def spHg (CZ CH : Addr) : Sp := fun vs H Q _ => ∃ (w r : Addr) (n b : Nat) (E : List Rw) (rs : Rw), vs = [.ref w, .ref r] ∧ RowsA H w E ∧ E ≠ [] ∧ (∀ e ∈ E, e.length = n) ∧ 0 < n ∧ n ≤ 20 ∧ E.length + 1 + n ≤ 60 ∧ LT H r rs ∧ rs.length = n ∧ 1 ≤ b ∧ (∀ e ∈ E, Bb b e) ∧ Bb b rs ∧ szN b n ≤ 6000 ∧ b + n * (szN b n + 1) ≤ 13000 ∧ szN b n * n < 12000 ∧
  ∀ G : List Rw, G.Perm (spn (rowsH E rs n)) → (G.Pairwise fun f h => piv f < piv h) →
    (∀ z H' g, Same H H' → g ∈ G → piv g = E.length → ZeroAt CZ H' z (g.drop (E.length + 1)) → Q (.ref z) H') ∧
    (∀ z H', Same H H' → (∀ g ∈ G, piv g ≠ E.length) → HangsAt CH H' z (G.filter fun f => decide (piv f ≤ E.length)) E.length → Q (.ref z) H')
theorem rowH_bb {E : List Rw} {rs : Rw} {n b i : Nat} (hb1 : 1 ≤ b) (hb : ∀ e ∈ E, Bb b e) (hr : Bb b rs) : Bb b (rowH E rs n i) := by
  have h : Bd b (rowH E rs n i) := fun v hv => by
    unfold rowH at hv
    rcases List.mem_append.mp hv with hv | hv
    · rcases List.mem_append.mp hv with hv | hv
      · obtain ⟨e, he, rfl⟩ := List.mem_map.mp hv; exact hb e he i
      · rw [List.mem_singleton.mp hv]; exact hr i
    · unfold unitR at hv
      obtain ⟨k, _, rfl⟩ := List.mem_map.mp hv
      have : 2 ≤ 2 ^ b := by have := Nat.pow_le_pow_right (n := 2) (by decide) hb1; simpa using this
      split
      · show 1 < 2 ^ b; omega
      · exact Nat.two_pow_pos b
  exact h.vl
theorem asc_last {G : List Rw} (asc : G.Pairwise fun f h => piv f < piv h) {last : Rw} (hl : G.getLast? = some last) : ∀ g ∈ G, piv g ≤ piv last := fun g hg => by
  obtain ⟨i, hi⟩ := List.mem_iff_getElem?.mp hg
  obtain ⟨il, ie⟩ := List.getElem?_eq_some_iff.mp hi
  rw [List.getLast?_eq_getElem?] at hl
  obtain ⟨ll, e⟩ := List.getElem?_eq_some_iff.mp hl
  by_cases z : i = G.length - 1
  · subst z
    rw [ie] at e
    rw [e]; exact Nat.le_refl _
  · have := List.pairwise_iff_getElem.mp asc i (G.length - 1) il ll (by omega)
    rw [ie, e] at this
    omega
theorem atI_last {xs : List V} {x : V} (h : xs.getLast? = some x) : atI xs (-1) = some x := by
  rw [List.getLast?_eq_getElem?] at h
  obtain ⟨hl, _⟩ := List.getElem?_eq_some_iff.mp h
  unfold atI ixN
  rw [if_neg (by omega), if_pos (by omega)]
  show xs[((-1 : Int) + (xs.length : Int)).toNat]? = _
  rw [show ((-1 : Int) + (xs.length : Int)).toNat = xs.length - 1 by omega]
  exact h
theorem filter_take {G : List Rw} {p : Rw → Bool} {i : Nat} {f : Rw} (h : G[i]? = some f) : (G.take (i + 1)).filter p = (G.take i).filter p ++ (if p f = true then [f] else []) := by
  rw [List.take_add_one, h, List.filter_append]
  congr 1
  show List.filter p [f] = _
  rw [List.filter_cons]
  split <;> rfl
/-- rows in a list that is none of three -/
def ChV (kd pd cd : Addr) (H : Hp) (v : V) : Option Rw → Prop
  | none => v = .non
  | some g => ∃ a, a ≠ kd ∧ a ≠ pd ∧ a ≠ cd ∧ v = .ref a ∧ LI H a g
theorem ChV.keep {kd pd cd : Addr} {H H' : Hp} {v : V} {o : Option Rw} (h : ChV kd pd cd H v o) (k : ∀ c u, c ≠ kd → c ≠ pd → c ≠ cd → H c = some u → H' c = some u) : ChV kd pd cd H' v o := by
  cases o with
  | none => exact h
  | some g => obtain ⟨a, h1, h2, h3, h4, h5⟩ := h; exact ⟨a, h1, h2, h3, h4, k _ _ h1 h2 h3 h5⟩
theorem PwV.keep {H H' : Hp} {v : V} {o : Option Rat} (h : PwV H v o) (k : ∀ c ys, H c = some (.tup ys) → H' c = some (.tup ys)) : PwV H' v o := by
  cases o with
  | none => exact h
  | some x => obtain ⟨t, h1, h2⟩ := h; exact ⟨t, h1, k _ _ h2⟩
/-- what is given over to tuples -/
def pwC : Option Rat → TC
  | none => .inl .non
  | some x => .inr [.int x.num, .int (x.den : Int)]
def rwC : Option Rw → TC
  | none => .inl .non
  | some g => .inr (g.map V.int)
theorem atomI (g : Rw) : ∀ x ∈ g.map V.int, Atom x := fun x hx => by
  obtain ⟨z, _, rfl⟩ := List.mem_map.mp hx; exact .int z
theorem pw_r1 {H : Hp} {v : V} {o : Option Rat} (h : PwV H v o) : R1 H v (pwC o) := by
  cases o with
  | none => exact ⟨h, .non⟩
  | some x =>
    obtain ⟨t, h1, h2⟩ := h
    refine ⟨t, h1, .inr h2, by show 2 ≤ 100; decide, fun y hy => ?_⟩
    rcases List.mem_cons.mp hy with rfl | hy
    · exact .int _
    · rw [List.mem_singleton.mp hy]; exact .int _
theorem pw_res {H : Hp} {y : V} {o : Option Rat} (h : Res1 H y (pwC o)) : PwV H y o := by
  cases o with
  | none => exact h
  | some x => exact h
theorem gv_r1 {N : Hp} {gd : Addr} {H : Hp} {v : V} {o : Option Rw} (h : GV N gd H v o) (l : ∀ g, o = some g → g.length ≤ 100) : R1 H v (rwC o) := by
  cases o with
  | none => exact ⟨h, .non⟩
  | some g =>
    obtain ⟨a, _, h1, h2, _⟩ := h
    exact ⟨a, h1, .inl h2, by rw [List.length_map]; exact l g rfl, atomI g⟩
theorem rw_res {H : Hp} {y : V} {o : Option Rw} (h : Res1 H y (rwC o)) : RwV H y o := by
  cases o with
  | none => exact h
  | some x => exact h
theorem ch_r1 {kd pd cd : Addr} {H : Hp} {v : V} {o : Option Rw} (h : ChV kd pd cd H v o) (l : ∀ g, o = some g → g.length ≤ 100) : R1 H v (rwC o) := by
  cases o with
  | none => exact ⟨h, .non⟩
  | some g =>
    obtain ⟨a, _, _, _, h1, h2⟩ := h
    exact ⟨a, h1, .inl h2, by rw [List.length_map]; exact l g rfl, fun x hx => by obtain ⟨z, _, rfl⟩ := List.mem_map.mp hx; exact .int z⟩
theorem prd_mapR {α β γ : Type} {R : α → β → Prop} {S : α → γ → Prop} {c : β → γ} {as : List α} {bs : List β} (h : Paired R as bs) (k : ∀ a b, b ∈ bs → R a b → S a (c b)) : Paired S as (bs.map c) := by
  induction h with
  | nil => exact .nil
  | cons r _ ih => exact .cons (k _ _ (List.mem_cons_self ..) r) (ih fun a b hb => k a b (List.mem_cons_of_mem _ hb))
theorem prd_mapS {α β γ : Type} {R : α → β → Prop} {S : α → γ → Prop} {c : β → γ} : ∀ {as : List α} {bs : List β}, Paired S as (bs.map c) → (∀ a b, b ∈ bs → S a (c b) → R a b) → Paired R as bs
  | [], [], _, _ => .nil
  | _ :: _, _ :: _, .cons r t, k => .cons (k _ _ (List.mem_cons_self ..) r) (prd_mapS t fun a b hb => k a b (List.mem_cons_of_mem _ hb))
theorem grp_len (G : List Rw) (many free : Nat) : (grp G many free).length = many := by unfold grp wholeR grX; rw [List.length_map, List.length_map, List.length_range]
theorem grsS_lenR (G : List Rw) (many : Nat) : ∀ k, ∀ g, some g ∈ grsS G many k → g.length = many
  | 0, g, h => by unfold grsS at h; have := List.eq_of_mem_replicate h; cases this
  | k + 1, g, h => by
    unfold grsS at h
    split at h
    · exact grsS_lenR G many k g h
    · unfold mrg at h
      obtain ⟨j, hj⟩ := List.mem_iff_getElem?.mp h
      rw [List.getElem?_mapIdx] at hj
      cases e : (grsS G many k)[j]? with
      | none => rw [e] at hj; cases hj
      | some o =>
        rw [e] at hj
        have hj' : (if j < many ∧ vl (grp G many k) j ≠ 0 ∧ o = none then some (grp G many k) else o) = some g := Option.some.inj hj
        split at hj'
        · cases hj'; exact grp_len G many k
        · rw [hj'] at e; exact grsS_lenR G many k g (List.mem_of_getElem? e)
theorem gv_rep {R : V → Option Rw → Prop} (r : R .non none) : ∀ n : Nat, Paired R (List.replicate n V.non) (List.replicate n none)
  | 0 => .nil
  | n + 1 => by rw [List.replicate_succ, List.replicate_succ]; exact .cons r (gv_rep r n)
theorem gv_repQ {R : V → Option Rat → Prop} (r : R .non none) : ∀ n : Nat, Paired R (List.replicate n V.non) (List.replicate n none)
  | 0 => .nil
  | n + 1 => by rw [List.replicate_succ, List.replicate_succ]; exact .cons r (gv_repQ r n)
theorem rep_map {β : Type} (b : β) (n : Nat) : List.replicate n b = (List.range n).map fun _ => b := by
  refine List.ext_getElem (by simp) fun j h1 h2 => ?_
  rw [List.getElem_replicate, List.getElem_map]

abbrev sthangs : Stmt := top 29
theorem schangs : FnScope ["exponents", "result", "many", "rows", "row", "end", "unit", "steps", "kinds", "powers", "changes", "groups", "at"] ["exponents", "result"] (defScope sthangs) := ⟨rfl, rfl, rfl, by decide +kernel, rfl, by decide +kernel, by decide +kernel⟩
theorem okhangs (B : Blt mg) {CZero CHangs : Addr} (Es : ErH K mg CZero CHangs) {fis_list : Addr} {fdis_list : FuncData} (Dis_list : DefAt K mg "is_list" stis_list ["value"] fis_list fdis_list) {fas_tuples0 : Addr} {fdas_tuples0 : FuncData} (Das_tuples0 : DefAt K mg "as_tuples" stas_tuples0 ["value"] fas_tuples0 fdas_tuples0) {fas_tuples1 : Addr} {fdas_tuples1 : FuncData} (Das_tuples1 : DefAt K mg "as_tuples" stas_tuples1 ["value"] fas_tuples1 fdas_tuples1) {fas_tuples : Addr} {fdas_tuples : FuncData} (Das_tuples : DefAt K mg "as_tuples" stas_tuples ["value"] fas_tuples fdas_tuples) {fH_init : Addr} {fdH_init : FuncData} (DH_init : IniA K "__init__" "Hangs.__init__" stH_init ["self", "kinds", "powers", "groups", "changes"] CHangs fH_init fdH_init) {fZ_init : Addr} {fdZ_init : FuncData} (DZ_init : IniA K "__init__" "Zero.__init__" stZ_init ["self", "change"] CZero fZ_init fdZ_init) {fis_whole : Addr} {fdis_whole : FuncData} (Dis_whole : DefAt K mg "is_whole" stis_whole ["value"] fis_whole fdis_whole) {fare_integers : Addr} {fdare_integers : FuncData} (Dare_integers : DefAt K mg "are_integers" stare_integers ["items"] fare_integers fdare_integers) {fis_matrix : Addr} {fdis_matrix : FuncData} (Dis_matrix : DefAt K mg "is_matrix" stis_matrix ["rows"] fis_matrix fdis_matrix) {fcheck_matrix : Addr} {fdcheck_matrix : FuncData} (Dcheck_matrix : DefDf [.str "rows"] K mg "check_matrix" stcheck_matrix ["rows", "what"] fcheck_matrix fdcheck_matrix) {fcheck_exponents : Addr} {fdcheck_exponents : FuncData} (Dcheck_exponents : DefAt K mg "check_exponents" stcheck_exponents ["exponents", "result"] fcheck_exponents fdcheck_exponents) {fidentity : Addr} {fdidentity : FuncData} (Didentity : DefAt K mg "identity" stidentity ["many"] fidentity fdidentity) {fcommon_bottom : Addr} {fdcommon_bottom : FuncData} (Dcommon_bottom : DefAt K mg "common_bottom" stcommon_bottom ["ratios"] fcommon_bottom fdcommon_bottom) {fwhole_row : Addr} {fdwhole_row : FuncData} (Dwhole_row : DefAt K mg "whole_row" stwhole_row ["ratios"] fwhole_row fdwhole_row) {fleast_multiple : Addr} {fdleast_multiple : FuncData} (Dleast_multiple : DefAt K mg "least_multiple" stleast_multiple ["ratios"] fleast_multiple fdleast_multiple) {flowest : Addr} {fdlowest : FuncData} (Dlowest : DefAt K mg "lowest" stlowest ["top", "bottom"] flowest fdlowest) {fpivot_of : Addr} {fdpivot_of : FuncData} (Dpivot_of : DefAt K mg "pivot_of" stpivot_of ["row"] fpivot_of fdpivot_of) {fletter_groups : Addr} {fdletter_groups : FuncData} (Dletter_groups : DefAt K mg "letter_groups" stletter_groups ["steps", "many"] fletter_groups fdletter_groups) {fcombined : Addr} {fdcombined : FuncData} (Dcombined : DefAt K mg "combined" stcombined ["many", "one", "times", "other"] fcombined fdcombined) {fwithout_item : Addr} {fdwithout_item : FuncData} (Dwithout_item : DefAt K mg "without_item" stwithout_item ["row", "at", "held"] fwithout_item fdwithout_item) {fcleared : Addr} {fdcleared : FuncData} (Dcleared : DefAt K mg "cleared" stcleared ["reduced_rows", "row"] fcleared fdcleared) {fprimitive : Addr} {fdprimitive : FuncData} (Dprimitive : DefAt K mg "primitive" stprimitive ["row"] fprimitive fdprimitive) {fspan_of : Addr} {fdspan_of : FuncData} (Dspan_of : DefAt K mg "span_of" stspan_of ["rows"] fspan_of fdspan_of) {ftransposed : Addr} {fdtransposed : FuncData} (Dtransposed : DefAt K mg "transposed" sttransposed ["rows"] ftransposed fdtransposed) {fhangs : Addr} {fdhangs : FuncData} (Dhangs : DefAt K mg "hangs" sthangs ["exponents", "result"] fhangs fdhangs) : FnOk P w K mg base CX0 8 fhangs fdhangs ["exponents", "result"] (spHg CZero CHangs) := by
  have OKH_init : FnOk P w K mg base CX0 5 fH_init fdH_init ["self", "kinds", "powers", "groups", "changes"] (spHI CHangs) := okH_init B Es Dis_list Das_tuples0 Das_tuples1 Das_tuples DH_init
  have OKZ_init : FnOk P w K mg base CX0 5 fZ_init fdZ_init ["self", "change"] (spZI CZero) := okZ_init B Es Dis_list Das_tuples0 Das_tuples1 Das_tuples DZ_init
  have OKcheck_exponents : FnOk P w K mg base CX0 4 fcheck_exponents fdcheck_exponents ["exponents", "result"] spChE := okcheck_exponents B  Dis_whole Dare_integers Dis_list Dis_matrix Dcheck_matrix Dcheck_exponents
  have OKidentity : FnOk P w K mg base CX0 1 fidentity fdidentity ["many"] spId := okidentity B  Didentity
  have OKletter_groups : FnOk P w K mg base CX0 4 fletter_groups fdletter_groups ["steps", "many"] spLgr := okletter_groups B Es Dcommon_bottom Dwhole_row Dleast_multiple Dlowest Dpivot_of Dletter_groups
  have OKlowest : FnOk P w K mg base CX0 1 flowest fdlowest ["top", "bottom"] spLowG := oklowest B Es Dlowest
  have OKpivot_of : FnOk P w K mg base CX0 1 fpivot_of fdpivot_of ["row"] spPv := okpivot_of B  Dpivot_of
  have OKspan_of : FnOk P w K mg base CX0 4 fspan_of fdspan_of ["rows"] spSpn := okspan_of B Es Dpivot_of Dcombined Dwithout_item Dcleared Dprimitive Dspan_of
  have OKtransposed : FnOk P w K mg base CX0 1 ftransposed fdtransposed ["rows"] spTrA := oktransposed B  Dtransposed
  refine Dhangs.F.ok schangs (fun vs H Q E h => ?_) (fun cdv A outer s H vs Q E hr h => ?_)
  · obtain ⟨w, r, n, b, E, rs, rfl, _⟩ := h; rfl
  · have hu := hu_of hr
    refine ⟨_, (pss_cons (ps_expr (pe_call OKcheck_exponents (hr.mono (by decide)) rfl Dcheck_exponents.m Dcheck_exponents.F.kp Dcheck_exponents.b .nil pass0 (pa_cons (pv 0) (pa_cons (pv 1) pa_nil))))
    (pss_cons (ps_set (i := 2) schangs.nd rfl (Or.inr rfl) (pe_callB call_len_seq (by rfl) B.len_ (by decide +kernel) (pa_cons (pv 0) pa_nil)))
    (pss_cons (ps_setLc (i := 3) (own := [("row", 4), ("end", 5), ("unit", 6)]) (g := (gTup K 3 (gCons (gName 4) (gCons (gName 5) (gCons (gName 6) gNil))))) (tt := tYes) rfl schangs.nd rfl rfl (sw_true rfl rfl rfl (by decide +kernel)) (pi_zip3 (by rfl) B.zip_ (pa_cons (pe_call OKtransposed (hr.mono (by decide)) rfl Dtransposed.m Dtransposed.F.kp Dtransposed.b .nil pass0 (pa_cons (pv 0) pa_nil)) (pa_cons (pv 1) (pa_cons (pe_call OKidentity (hr.mono (by decide)) rfl Didentity.m Didentity.F.kp Didentity.b .nil pass0 (pa_cons (pe_callB (call_lenK : CallR _ (.builtin "len") (rLenK K)) (by rfl) B.len_ (by decide +kernel) (pa_cons (pv 1) pa_nil)) pa_nil)) pa_nil)))) (blkOk_by (own := [("row", 4), ("end", 5), ("unit", 6)]) (N := ["exponents", "result", "many", "rows", "row", "end", "unit", "steps", "kinds", "powers", "changes", "groups", "at"]) (sc := defScope sthangs) (by decide +kernel)) (fun _ _ _ _ _ => (pg_tup rfl (pgs_cons (pg_name (i := 4) schangs.nd rfl (Or.inl rfl)) (pgs_cons (pg_name (i := 5) schangs.nd rfl (Or.inl rfl)) (pgs_cons (pg_name (i := 6) schangs.nd rfl (Or.inl rfl)) pgs_nil))))) (fun _ _ _ _ _ => pts_nil) (fun _ _ _ _ _ => (pe_op op_cat (pe_op op_cat (pe_callTy (call_listK : CallR _ _ (rListK K)) (by rfl) B.list_ (by decide +kernel) (pa_cons (pv 4) pa_nil)) (pe_lst (pa_cons (pv 5) pa_nil))) (pv 6))))
    (pss_cons (ps_setLc (i := 7) (own := [("row", 4)]) (g := gName 4) rfl schangs.nd rfl rfl (sw_true rfl rfl rfl (by decide +kernel)) (pi_list (pe_call OKspan_of (hr.mono (by decide)) rfl Dspan_of.m Dspan_of.F.kp Dspan_of.b .nil pass0 (pa_cons (pv 3) pa_nil))) (blkOk_by (own := [("row", 4)]) (N := ["exponents", "result", "many", "rows", "row", "end", "unit", "steps", "kinds", "powers", "changes", "groups", "at"]) (sc := defScope sthangs) (by decide +kernel)) (fun _ _ _ _ _ => (pg_name (i := 4) schangs.nd rfl (Or.inl rfl))) (fun _ _ _ _ _ => (pts_one (pt_cmpR op_le (pe_call OKpivot_of (hr.mono (by decide)) rfl Dpivot_of.m Dpivot_of.F.kp Dpivot_of.b .nil pass0 (pa_cons (pv 4) pa_nil)) (pv 2) (nomark _)))) (fun _ _ _ _ _ => (pv 4)))
    (Evl.pss_cut (ps_if (PW.pt (pw_and (pt_truth (pv 7) (fun _ => rfl)) (pw_and1 (pt_cmpR op_eq (pe_call OKpivot_of (hr.mono (by decide)) rfl Dpivot_of.m Dpivot_of.F.kp Dpivot_of.b .nil pass0 (pa_cons (pe_ix ix_list (pv 7) (pe_un un_neg pe_int) (fun _ _ => rfl)) pa_nil)) (pv 2) (nomark _))))) (pss_one (ps_ret (pe_make DZ_init.M OKZ_init (hr.mono (by decide)) rfl Es.mZ DZ_init.b .nil pass0 (pa_cons (pe_slice sl_list (pe_ix ix_list (pv 7) (pe_un un_neg pe_int) (fun _ _ => rfl)) (po_some (pe_op op_add (pv 2) pe_int)) po_none) pa_nil)))) pss_nil)
    (pss_cons (ps_set (i := 8) schangs.nd rfl (Or.inl rfl) (pe_op op_rep (pe_lst (pa_cons pe_str pa_nil)) (pv 2)))
    (pss_cons (ps_set (i := 9) schangs.nd rfl (Or.inl rfl) (pe_op op_rep (pe_lst (pa_cons pe_non pa_nil)) (pv 2)))
    (pss_cons (ps_set (i := 10) schangs.nd rfl (Or.inl rfl) (pe_op op_rep (pe_lst (pa_cons pe_non pa_nil)) (pv 2)))
    (pss_cons (ps_set (i := 11) schangs.nd rfl (Or.inl rfl) (pe_call OKletter_groups (hr.mono (by decide)) rfl Dletter_groups.m Dletter_groups.F.kp Dletter_groups.b .nil pass0 (pa_cons (pv 7) (pa_cons (pv 2) pa_nil))))
    (pss_cons (ps_for PassesOwn.never rfl (pi_list (pv 7)) (pg_name (i := 4) schangs.nd rfl (Or.inl rfl))
      (pss_cons (ps_set (i := 12) schangs.nd rfl (Or.inl rfl) (pe_call OKpivot_of (hr.mono (by decide)) rfl Dpivot_of.m Dpivot_of.F.kp Dpivot_of.b .nil pass0 (pa_cons (pv 4) pa_nil)))
    (pss_one (ps_if (pt_cmpR op_isN (pe_ix ix_list (pv 11) (pv 12) (fun _ _ => rfl)) pe_non (nomark _)) (pss_cons (ps_asg (pe_call OKlowest (hr.mono (by decide)) rfl Dlowest.m Dlowest.F.kp Dlowest.b .nil pass0 (pa_cons (pe_ix ix_list (pv 4) (pv 2) (fun _ _ => rfl)) (pa_cons (pe_ix ix_list (pv 4) (pv 12) (fun _ _ => rfl)) pa_nil))) (pg_sub (pv 9) (pv 12) set_list))
    (pss_cons (ps_asg (pe_ifExp (pt_cmpR op_eq (pe_ix ix_list (pv 4) (pv 2) (fun _ _ => rfl)) pe_int (nomark _)) pe_str pe_str) (pg_sub (pv 8) (pv 12) set_list))
    (pss_one (ps_asg (pe_slice sl_list (pv 4) (po_some (pe_op op_add (pv 2) pe_int)) po_none) (pg_sub (pv 10) (pv 12) set_list))))) pss_nil))))
    (pss_one (ps_ret (pe_make DH_init.M OKH_init (hr.mono (by decide)) rfl Es.mH DH_init.b .nil pass0 (pa_cons (pv 8) (pa_cons (pv 9) (pa_cons (pv 11) (pa_cons (pv 10) pa_nil))))))))))))))))), ?_⟩
    obtain ⟨w, r, n, b, E, rs, rfl, hw, ne, hl, n0, hn, hW, hr, lr, hb1, hb, hbr, hz1, hz2, hz3, q⟩ := h
    refine ⟨_, rfl, _, rfl, w, r, n, E, rs, rfl, hw, ne, hl, n0, by omega, by omega, hr, lr, fun H1 s1 => ?_⟩
    obtain ⟨es, W1, W2⟩ := hw.same s1
    have le := prd_len W2
    refine ⟨_, rfl, w, _, rfl, (W1.imp SqL.of SqT.of), ?_⟩
    rw [List.length_map, le]
    refine ⟨_, rfl, w, n, E, rfl, ⟨es, W1, W2⟩, ne, hl, by omega, by omega, fun td H2 htd s2 hT => ?_⟩
    have hr2 := hr.same (s1.trans s2)
    refine ⟨_, rfl, _, rfl, r, _, rfl, hr2.seq, n, (by rw [List.length_map, lr]; rfl), by omega, fun idd H3 hid s3 hI => ?_⟩
    obtain ⟨ts, T1, T2⟩ := hT.same s3
    obtain ⟨is_, I1, I2⟩ := hI
    have hr3 := hr2.same s3
    have lts := prd_len T2
    have lis := prd_len I2
    rw [trM_len] at lts
    rw [idM_len] at lis
    obtain ⟨kr, sr⟩ := sq_of0 (K := K) hr3
    refine ⟨td, r, idd, true, kr, true, _, _, _, rfl, SqL.of T1, sr _ (fun _ _ h => h), SqL.of I1, fun D hD => ?_⟩
    refine lc_it (walk_zip3 (K := K) (a := td) (b := r) (c := idd) (k := true) (l := kr) (m := true) (xs := ts.map V.ref) (ys := rs.map V.int) (zs := is_.map V.ref) (n := n) (by rw [List.length_map, List.length_map, List.length_map, lts, lis, lr]; omega)) (fun i H' => Same H3 H' ∧ ∃ cs : List Addr, H' D = some (.lst (cs.map V.ref)) ∧ Paired (fun a r => a ≠ D ∧ H' a = some (.lst (r.map V.int))) cs ((rowsH E rs n).take i)) ⟨AL.Same.new hD, [], upd_same, .nil⟩ (fun i H' _ hh => ⟨SqL.of (hh.1 _ _ T1), sr _ hh.1, SqL.of (hh.1 _ _ I1)⟩) ?_ ?_
    · rintro i x H4 H5 hi ⟨s4, cs, hd4, pr4⟩ ⟨T0, u1, u2, u3, rfl, hT0, rfl, e1, e2, e3⟩
      obtain ⟨a1, ha1, rfl⟩ := map_ref e1
      obtain ⟨z2, hz2', rfl⟩ := map_int e2
      obtain ⟨a3, ha3, rfl⟩ := map_ref e3
      obtain ⟨c1, hc1, hc1a⟩ := prd_get T2 ha1
      obtain ⟨c3, hc3, hc3a⟩ := prd_get I2 ha3
      have ec1 : c1 = E.map fun e => vl e i := by
        unfold trM at hc1
        rw [List.getElem?_map, List.getElem?_range hi] at hc1
        exact (Option.some.inj hc1).symm
      have ec3 : c3 = unitR n i := by
        unfold idM at hc3
        rw [List.getElem?_map, List.getElem?_range hi] at hc3
        exact (Option.some.inj hc3).symm
      have ez2 := vl_get hz2'
      subst ec1 ec3 ez2
      have nT := AL.Same.new (o := .tup [.ref a1, .int (vl rs i), .ref a3]) hT0
      have s5 := s4.trans nT
      have lcs := prd_len pr4
      rw [List.length_take, rowsH_len] at lcs
      refine ⟨T0, _, rfl, SqT.of upd_same, rfl, _, _, rfl, _, _, rfl, _, _, rfl, rfl, rfl, ?_⟩
      refine ⟨_, rfl, a1, _, rfl, .inl (SqL.of (s5 _ _ hc1a)), fun l1 hl1 => ?_⟩
      have n1 := AL.Same.new (o := .lst ((E.map fun e => vl e i).map V.int)) hl1
      refine ⟨_, rfl, (by show 1 ≤ sizeLine; decide), fun l2 hl2 => ?_⟩
      have n2 := AL.Same.new (o := .lst [.int (vl rs i)]) hl2
      refine ⟨l1, l2, _, _, rfl, rfl, n2 _ _ upd_same, upd_same, ?_, fun l3 hl3 => ?_⟩
      · rw [List.length_map, List.length_map]; exact Nat.le_trans (by show E.length + 1 ≤ 100; omega) (by decide)
      have n3 := AL.Same.new (o := .lst ((E.map fun e => vl e i).map V.int ++ [.int (vl rs i)])) hl3
      have s35 := nT.trans (n1.trans (n2.trans n3))
      refine ⟨_, rfl, l3, a3, _, _, rfl, rfl, upd_same, (s4.trans s35) _ _ hc3a, ?_, fun l4 hl4 => ?_⟩
      · rw [List.length_append, List.length_map, List.length_map, List.length_map, unitR_len]; exact Nat.le_trans (by show E.length + 1 + n ≤ 100; omega) (by decide)
      have n4 := AL.Same.new (o := .lst ((E.map fun e => vl e i).map V.int ++ [.int (vl rs i)] ++ (unitR n i).map V.int)) hl4
      have s36 := s35.trans n4
      have l4D : l4 ≠ D := fun e => by rw [e, s35 _ _ hd4] at hl4; cases hl4
      obtain ⟨r1, r2⟩ := rowsZ_snoc (s36 _ _ hd4) (paired_mono pr4 fun _ _ z => ⟨z.1, s36 _ _ z.2⟩) l4D (r := rowH E rs n i) (by rw [upd_same]; unfold rowH; rw [List.map_append, List.map_append]; rfl)
      refine ⟨_, s36 _ _ hd4, ?_, AL.Same.updn (s4.trans s36) hD, cs ++ [l4], r1, ?_⟩
      · rw [List.length_map]; exact Nat.lt_of_le_of_lt (by omega : _ ≤ 1000) (by decide)
      · have g : (rowsH E rs n)[i]? = some (rowH E rs n i) := by unfold rowsH; rw [List.getElem?_map, List.getElem?_range hi]; rfl
        rw [List.take_add_one, g]; exact r2
    rintro H4 ⟨s4, cs, hd4, pr4⟩
    rw [List.take_of_length_le (by rw [rowsH_len]; exact Nat.le_refl _)] at pr4
    have rl : ∀ x ∈ rowsH E rs n, x.length = E.length + 1 + n := fun x hx => by
      unfold rowsH at hx
      obtain ⟨i, _, rfl⟩ := List.mem_map.mp hx
      exact rowH_len E rs n i
    have rb : ∀ x ∈ rowsH E rs n, Bb b x := fun x hx => by
      unfold rowsH at hx
      obtain ⟨i, _, rfl⟩ := List.mem_map.mp hx
      exact rowH_bb hb1 hb hbr
    have s14 := s2.trans (s3.trans s4)
    obtain ⟨R, _, _⟩ := spn_spec rl
    obtain ⟨zl, zb⟩ := spn_size rl rb
    rw [rowsH_len] at zl zb
    refine ⟨_, rfl, D, rowsH E rs n, E.length + 1 + n, b, rfl, ⟨cs, hd4, paired_mono pr4 fun _ _ z => z.2⟩, rl, hW, by rw [rowsH_len]; exact hn, rb, by rw [rowsH_len]; omega, by rw [rowsH_len]; omega, fun gd H5 G hgd s5 hG pG asc => ?_⟩
    obtain ⟨qZ, qH⟩ := q G pG asc
    obtain ⟨gs0, G1, G2⟩ := hG
    have lgs := prd_len G2
    have lG : G.length ≤ n := by rw [pG.length_eq]; exact zl
    have Gl : ∀ f ∈ G, f.length = E.length + 1 + n := fun f hf => R.len f (pG.mem_iff.mp hf)
    have Gp : ∀ f ∈ G, 0 < vl f (piv f) := fun f hf => R.pos f (pG.mem_iff.mp hf)
    have Gb : ∀ f ∈ G, Bb (szN b n) f := fun f hf => zb f (pG.mem_iff.mp hf)
    have Go : ∀ f ∈ G, ∀ h ∈ G, piv f ≠ piv h → vl f (piv h) = 0 := fun f hf h hh nn => by
      obtain ⟨i, hi⟩ := List.mem_iff_getElem?.mp (pG.mem_iff.mp hf)
      obtain ⟨k, hk⟩ := List.mem_iff_getElem?.mp (pG.mem_iff.mp hh)
      exact rref_off R hk hi (fun e => nn (by subst e; rw [hi] at hk; rw [Option.some.inj hk]))
    clear R zl zb pG pr4 rl rb
    refine ⟨gd, rfl, ⟨_, SqL.of G1⟩, fun sd hsd => ?_⟩
    refine lc_list (K := K) (a := gd) (xs := gs0.map V.ref) (fun i H' => Same H5 H' ∧ ∃ cs : List Addr, H' sd = some (.lst (cs.map V.ref)) ∧ Paired (fun a r => a ≠ sd ∧ H' a = some (.lst (r.map V.int))) cs ((G.take i).filter fun f => decide (piv f ≤ E.length))) ⟨AL.Same.new hsd, [], upd_same, .nil⟩ (fun i H' _ hh => SqL.of (hh.1 _ _ G1)) ?_ ?_
    · rintro i x H6 hx ⟨s6, cs, hd6, pr6⟩
      obtain ⟨a, ha, rfl⟩ := map_ref hx
      obtain ⟨f, hf, hfa⟩ := prd_get G2 ha
      have hfa6 : LI H6 a f := s6 _ _ hfa
      have lcs := prd_len pr6
      have lf := List.length_filter_le (fun f => decide (piv f ≤ E.length)) (G.take i)
      rw [List.length_take] at lf
      have aS : a ≠ sd := fun e => by rw [← e, hfa] at hsd; cases hsd
      refine ⟨rfl, ?_⟩
      refine ⟨_, rfl, a, f, rfl, hfa6, fun H7 s7 => ⟨_, rfl, _, _, rfl, rfl, _, rfl, ?_⟩⟩
      have ft := filter_take (p := fun f => decide (piv f ≤ E.length)) hf
      by_cases c : piv f ≤ E.length
      · rw [decide_eq_true (by omega : ((piv f : Nat) : Int) ≤ ((E.length : Nat) : Int))]
        refine iteT ?_
        rw [if_pos (decide_eq_true c)] at ft
        obtain ⟨r1, r2⟩ := rowsZ_snoc (s7 _ _ hd6) (paired_mono pr6 fun _ _ z => ⟨z.1, s7 _ _ z.2⟩) aS (hfa6.same s7)
        refine ⟨_, rfl, _, s7 _ _ hd6, ?_, AL.Same.updn (s6.trans s7) hsd, cs ++ [a], r1, ?_⟩
        · rw [List.length_map]; exact Nat.lt_of_le_of_lt (by omega : _ ≤ 1000) (by decide)
        · rw [ft]; exact r2
      · rw [decide_eq_false (by omega : ¬ ((piv f : Nat) : Int) ≤ ((E.length : Nat) : Int))]
        refine iteF ?_
        rw [if_neg (by rw [decide_eq_true_iff]; exact c), List.append_nil] at ft
        refine ⟨s6.trans s7, cs, s7 _ _ hd6, ?_⟩
        rw [ft]
        exact paired_mono pr6 fun _ _ z => ⟨z.1, s7 _ _ z.2⟩
    rintro H6 ⟨s6, cs, hd6, pr6⟩
    rw [List.length_map, lgs, List.take_length] at pr6
    replace pr6 := paired_mono pr6 fun _ _ z => z.2
    have sub : (G.filter fun f => decide (piv f ≤ E.length)).Sublist G := List.filter_sublist
    have memS : ∀ f, f ∈ (G.filter fun f => decide (piv f ≤ E.length)) ↔ f ∈ G ∧ piv f ≤ E.length := fun f => by rw [List.mem_filter, decide_eq_true_iff]
    have lS := List.length_filter_le (fun f => decide (piv f ≤ E.length)) G
    have ascS := asc.sublist sub
    generalize hS : (G.filter fun f => decide (piv f ≤ E.length)) = S at pr6 sub memS lS ascS qH
    have lcs := prd_len pr6
    have s16 := s14.trans (s5.trans s6)
    have s06 := s1.trans s16
    clear G1 G2 T1 T2 I1 I2 W1 W2 hr3 hr2 hd4 s14 s2 s3 s4 s5 s6 hT
    refine ⟨fun σ' H' => σ' = [some (.ref w), some (.ref r), some (.int (E.length : Int)), some (.ref D), none, none, none, some (.ref sd), none, none, none, none, none] ∧ Same H6 H' ∧ ∀ g ∈ G, piv g ≠ E.length, ?_, ?_⟩
    · refine ⟨_, rfl, _, .inl ⟨_, SqL.of hd6, rfl⟩, ?_⟩
      cases hlast : S.getLast? with
      | none =>
        have S0 : S = [] := List.getLast?_eq_none_iff.mp hlast
        rw [S0] at lcs
        have c0 : cs = [] := List.eq_nil_of_length_eq_zero lcs
        rw [c0]
        refine iteF ?_
        refine ⟨rfl, (fun _ _ h => h), fun g hg e => ?_⟩
        have := (memS g).mpr ⟨hg, by omega⟩
        rw [S0] at this; cases this
      | some last =>
        have lastS := List.mem_of_getLast? hlast
        have hlast' := hlast
        rw [List.getLast?_eq_getElem?] at hlast'
        have ll := (List.getElem?_eq_some_iff.mp hlast').1
        obtain ⟨ca, hca, hcaf⟩ : ∃ ca, cs[S.length - 1]? = some ca ∧ LI H6 ca last := by
          have lt : S.length - 1 < cs.length := by omega
          obtain ⟨f, e1, e2⟩ := prd_get pr6 (List.getElem?_eq_getElem lt)
          rw [hlast'] at e1
          cases Option.some.inj e1
          exact ⟨_, List.getElem?_eq_getElem lt, e2⟩
        have cne : (cs.map V.ref).isEmpty = false := by
          cases cs with
          | nil => simp at lcs; omega
          | cons _ _ => rfl
        rw [cne]
        refine iteT ?_
        have gl : (cs.map V.ref).getLast? = some (.ref ca) := by rw [List.getLast?_eq_getElem?, List.length_map, lcs, List.getElem?_map, hca]; rfl
        refine ⟨_, rfl, _, rfl, sd, _, _, _, rfl, rfl, SqL.of hd6, atI_last gl, ca, last, rfl, hcaf, fun H7 s7 => ⟨_, rfl, rfl, _, rfl, ?_⟩⟩
        have mx := asc_last ascS hlast
        by_cases c : piv last = E.length
        · rw [decide_eq_true (by rw [c])]
          refine iteT ?_
          have hc7 := hcaf.same s7
          have lastG := (memS last).mp lastS
          refine ⟨_, rfl, _, rfl, sd, _, _, _, rfl, rfl, SqL.of (s7 _ _ hd6), atI_last gl, ?_⟩
          refine ⟨_, rfl, _, _, rfl, rfl, _, rfl, ca, _, rfl, SqL.of hc7, fun l7 hl7 => ?_⟩
          have ce : cutV (last.map V.int) (some ((E.length : Int) + 1)) none = (last.drop (E.length + 1)).map V.int := by
            rw [show ((E.length : Int) + 1) = ((E.length + 1 : Nat) : Int) by omega, cutL_from (by rw [List.length_map, Gl last lastG.1]; omega), List.map_drop]
          have n7 := AL.Same.new (o := .lst (cutV (last.map V.int) (some ((E.length : Int) + 1)) none)) hl7
          intro z dz h1 h2 h3
          have s0 : Same _ (upd (upd _ dz (.own z)) z (.ins CZero dz [])) := fun b o e => by
            rw [upd_ne (ne_of_none e h1), upd_ne (ne_of_none e h2)]; exact e
          refine ⟨z, dz, l7, _, ((last.drop (E.length + 1)).map V.int).map .inl, rfl, upd_same, .inl (s0 _ _ (by rw [upd_same, ce])), ?_, ?_, fun t H8 ys k8 hz8 ht8 py => ⟨rfl, ?_⟩⟩
          · have go : ∀ {HH : Hp} (g : Rw), Paired (R1 HH) (g.map V.int) ((g.map V.int).map .inl) := fun g => by
              induction g with
              | nil => exact .nil
              | cons x g ih => exact .cons ⟨rfl, .int x⟩ ih
            exact go _
          · rw [List.length_map, List.length_drop, Gl last lastG.1]; omega
          · have e := res_atoms py
            rw [e] at ht8
            refine qZ z H8 last ?_ lastG.1 c ⟨dz, t, hz8, ht8⟩
            exact fun b o e => k8 b o (ne_of_none ((s06.trans (s7.trans n7)) _ _ e) h1) (s0 _ _ ((s06.trans (s7.trans n7)) _ _ e))
        · rw [decide_eq_false (fun w => c (by injection w with w; omega))]
          refine iteF ?_
          refine ⟨rfl, s7, fun g hg e => ?_⟩
          have := mx g ((memS g).mpr ⟨hg, by omega⟩)
          have := ((memS last).mp lastS).2
          omega
    rintro σ H7 ⟨rfl, s7, nom⟩
    have hd7 := s7 _ _ hd6
    have pr7 : Paired (fun a (r : Rw) => H7 a = some (.lst (r.map V.int))) cs S := paired_mono pr6 fun _ _ z => s7 _ _ z
    have s07 := s06.trans s7
    have St : Steps (E.length + 1 + n) E.length S := ⟨fun f hf => Gl f ((memS f).mp hf).1, fun f hf => Gp f ((memS f).mp hf).1, fun f hf h hh => Go f ((memS f).mp hf).1 h ((memS h).mp hh).1, ascS, fun f hf => by have := (memS f).mp hf; have := nom f this.1; omega⟩
    have Sb : ∀ f ∈ S, Bb (szN b n) f := fun f hf => Gb f ((memS f).mp hf).1
    have hM : E.length ≤ 58 := by omega
    clear s06 s16 hd6 pr6 hsd
    have rb : ∀ x : V, ([x] : List V).length * ((E.length : Nat) : Int).toNat ≤ sizeLine := fun x => by
      rw [Int.toNat_natCast]; exact Nat.le_trans (by show 1 * E.length ≤ 100; omega) (by decide)
    refine ⟨(by show 1 ≤ sizeLine; decide), fun l1 hl1 => ?_⟩
    have n1 := AL.Same.new (o := .lst [.str "free"]) hl1
    refine ⟨_, rfl, l1, _, [.str "free"], rfl, rfl, upd_same, by omega, by omega, rb _, fun kd hkd => ?_⟩
    rw [Int.toNat_natCast, List.flatten_replicate_singleton]
    have n2 := AL.Same.new (o := .lst (List.replicate E.length (V.str "free"))) hkd
    have hk8 : upd (upd H7 l1 (.lst [.str "free"])) kd (.lst (List.replicate E.length (V.str "free"))) kd = some (.lst (List.replicate E.length (V.str "free"))) := upd_same
    have s78 := n1.trans n2
    have kdn : H7 kd = none := by cases e : H7 kd with | none => rfl | some o => rw [n1 _ _ e] at hkd; cases hkd
    generalize upd (upd H7 l1 (.lst [.str "free"])) kd (.lst (List.replicate E.length (V.str "free"))) = H8 at hk8 s78 ⊢
    clear n1 n2 hl1 hkd
    refine ⟨(by show 1 ≤ sizeLine; decide), fun l2 hl2 => ?_⟩
    have n1 := AL.Same.new (o := .lst [.non]) hl2
    refine ⟨_, rfl, l2, _, [.non], rfl, rfl, upd_same, by omega, by omega, rb _, fun pd hpd => ?_⟩
    rw [Int.toNat_natCast, List.flatten_replicate_singleton]
    have n2 := AL.Same.new (o := .lst (List.replicate E.length V.non)) hpd
    have hp9 : upd (upd H8 l2 (.lst [.non])) pd (.lst (List.replicate E.length V.non)) pd = some (.lst (List.replicate E.length V.non)) := upd_same
    have s89 := n1.trans n2
    have hk9 := s89 _ _ hk8
    have pdn : H8 pd = none := by cases e : H8 pd with | none => rfl | some o => rw [n1 _ _ e] at hpd; cases hpd
    generalize upd (upd H8 l2 (.lst [.non])) pd (.lst (List.replicate E.length V.non)) = H9 at hp9 hk9 s89 ⊢
    clear n1 n2 hl2 hpd
    refine ⟨(by show 1 ≤ sizeLine; decide), fun l3 hl3 => ?_⟩
    have n1 := AL.Same.new (o := .lst [.non]) hl3
    refine ⟨_, rfl, l3, _, [.non], rfl, rfl, upd_same, by omega, by omega, rb _, fun cd hcd => ?_⟩
    rw [Int.toNat_natCast, List.flatten_replicate_singleton]
    have n2 := AL.Same.new (o := .lst (List.replicate E.length V.non)) hcd
    have hc10 : upd (upd H9 l3 (.lst [.non])) cd (.lst (List.replicate E.length V.non)) cd = some (.lst (List.replicate E.length V.non)) := upd_same
    have sA := n1.trans n2
    have cdn : H9 cd = none := by cases e : H9 cd with | none => rfl | some o => rw [n1 _ _ e] at hcd; cases hcd
    have hk10 := sA _ _ hk9
    have hp10 := sA _ _ hp9
    generalize upd (upd H9 l3 (.lst [.non])) cd (.lst (List.replicate E.length V.non)) = HA at hc10 hk10 hp10 sA ⊢
    clear n1 n2 hl3 hcd hk9
    have s7A := s78.trans (s89.trans sA)
    have kp : kd ≠ pd := fun e => by rw [← e, hk8] at pdn; cases pdn
    have kc : kd ≠ cd := fun e => by rw [← e, s89 _ _ hk8] at cdn; cases cdn
    have pc : pd ≠ cd := fun e => by rw [← e, hp9] at cdn; cases cdn
    have pdn7 : H7 pd = none := by cases e : H7 pd with | none => rfl | some o => rw [s78 _ _ e] at pdn; cases pdn
    have cdn7 : H7 cd = none := by cases e : H7 cd with | none => rfl | some o => rw [(s78.trans s89) _ _ e] at cdn; cases cdn
    clear hk8 hp9 pdn cdn s78 s89 sA
    refine ⟨_, rfl, _, rfl, sd, E.length + 1 + n, E.length, szN b n, S, rfl, ⟨cs, s7A _ _ hd7, paired_mono pr7 fun _ _ z => s7A _ _ z⟩, St, by omega, hW, Sb, ?_, hz1, fun gd HB gv gdn sB hgd pgv => ?_⟩
    · exact Nat.lt_of_le_of_lt (Nat.mul_le_mul_left _ (by omega)) hz3
    have gsl : ∀ g, some g ∈ grsS S E.length E.length → g.length = E.length := grsS_lenR S E.length E.length
    have gsn := grsS_len S E.length E.length
    have fixE : ∀ j, fixA S E.length j = fixT S (grsS S E.length E.length) j := fun _ => rfl
    generalize hgs : grsS S E.length E.length = gs at pgv gsl gsn fixE
    have lgv := prd_len pgv
    have hkB := sB _ _ hk10
    have hpB := sB _ _ hp10
    have hcB := sB _ _ hc10
    have s7B := s7A.trans sB
    have hdB := s7B _ _ hd7
    have prB : Paired (fun a (r : Rw) => HB a = some (.lst (r.map V.int))) cs S := paired_mono pr7 fun _ _ z => s7B _ _ z
    have fresh : ∀ a, (H7 a).isSome = true → a ≠ kd ∧ a ≠ pd ∧ a ≠ cd := fun a h => ⟨(fun e => by rw [e, kdn] at h; cases h), (fun e => by rw [e, pdn7] at h; cases h), (fun e => by rw [e, cdn7] at h; cases h)⟩
    have fsd := fresh sd (by rw [hd7]; rfl)
    have fcs : ∀ (i : Nat) (a : Addr), cs[i]? = some a → a ≠ kd ∧ a ≠ pd ∧ a ≠ cd := fun i a h => by
      obtain ⟨f, _, e⟩ := prd_get pr7 h
      exact fresh a (by rw [e]; rfl)
    refine ⟨_, rfl, sd, rfl, ⟨_, SqL.of hdB⟩, for_list (K := K) (a := sd) (xs := cs.map V.ref) (fun i σ H' => ∃ v4 v12 : Option V, σ = [some (.ref w), some (.ref r), some (.int (E.length : Int)), some (.ref D), v4, none, none, some (.ref sd), some (.ref kd), some (.ref pd), some (.ref cd), some (.ref gd), v12] ∧ (∀ c o, c ≠ kd → c ≠ pd → c ≠ cd → HB c = some o → H' c = some o) ∧ H' kd = some (.lst ((List.range E.length).map fun j => V.str (kindS E.length (fixT (S.take i) gs j)))) ∧ (∃ pv, H' pd = some (.lst pv) ∧ Paired (PwV H') pv ((List.range E.length).map fun j => powO E.length (fixT (S.take i) gs j))) ∧ ∃ cv, H' cd = some (.lst cv) ∧ Paired (ChV kd pd cd H') cv ((List.range E.length).map fun j => chR E.length (fixT (S.take i) gs j))) ⟨none, none, rfl, (fun _ _ _ _ _ h => h), ?_, ⟨_, hpB, ?_⟩, _, hcB, ?_⟩ (fun i σ H' _ hh => by obtain ⟨_, _, _, k, _⟩ := hh; exact SqL.of (k _ _ fsd.1 fsd.2.1 fsd.2.2 hdB)) ?_ ?_⟩
    · rw [hkB, rep_map]; rfl
    · rw [show ((List.range E.length).map fun j => powO E.length (fixT (S.take 0) gs j)) = List.replicate E.length none by rw [rep_map]; rfl]
      exact gv_repQ rfl _
    · rw [show ((List.range E.length).map fun j => chR E.length (fixT (S.take 0) gs j)) = List.replicate E.length none by rw [rep_map]; rfl]
      exact gv_rep rfl _
    · rintro i x σ H2 hx ⟨v4, v12, rfl, k2, hk2, ⟨pv, hp2, ppv⟩, cv, hc2, pcv⟩
      obtain ⟨a, ha, rfl⟩ := map_ref hx
      obtain ⟨f, hf, hfa⟩ := prd_get prB ha
      have mf := List.mem_of_getElem? hf
      obtain ⟨fa1, fa2, fa3⟩ := fcs i a ha
      have hfa2 : LI H2 a f := k2 _ _ fa1 fa2 fa3 hfa
      have lf := St.len f mf
      have pl := St.lt f mf
      have ps := St.pos f mf
      have bf := Sb f mf
      refine ⟨_, rfl, a, f, rfl, hfa2, fun H3 s3 => ?_⟩
      have hfa3 := hfa2.same s3
      have hk3 := s3 _ _ hk2
      have hp3 := s3 _ _ hp2
      have hc3 := s3 _ _ hc2
      have k3 : ∀ c o, c ≠ kd → c ≠ pd → c ≠ cd → HB c = some o → H3 c = some o := fun c o x y z h => s3 _ _ (k2 c o x y z h)
      have ppv3 := paired_mono ppv fun _ _ z => PwV.keep z fun c ys h => s3 _ _ h
      have pcv3 := paired_mono pcv fun _ _ z => ChV.keep z fun c u _ _ _ h => s3 _ _ h
      have lpv := prd_len ppv
      rw [List.length_map, List.length_range] at lpv
      have lcv := prd_len pcv
      rw [List.length_map, List.length_range] at lcv
      -- groups
      have gdk : gd ≠ kd ∧ gd ≠ pd ∧ gd ≠ cd := ⟨(fun e => by rw [e, hk10] at gdn; cases gdn), (fun e => by rw [e, hp10] at gdn; cases gdn), (fun e => by rw [e, hc10] at gdn; cases gdn)⟩
      have hgd3 := k3 _ _ gdk.1 gdk.2.1 gdk.2.2 hgd
      obtain ⟨o, ho⟩ : ∃ o, gs[piv f]? = some o := ⟨_, List.getElem?_eq_getElem (by omega)⟩
      have hoD : gs.getD (piv f) none = o := by rw [List.getD_eq_getElem?_getD, ho]; rfl
      obtain ⟨vg, hvg, gvg⟩ : ∃ v, gv[piv f]? = some v ∧ GV HA gd HB v o := by
        have lt : piv f < gv.length := by omega
        obtain ⟨o', e1, e2⟩ := prd_get pgv (List.getElem?_eq_getElem lt)
        rw [ho] at e1
        cases Option.some.inj e1
        exact ⟨_, List.getElem?_eq_getElem lt, e2⟩
      refine ⟨_, rfl, _, rfl, gd, _, _, vg, rfl, rfl, SqL.of hgd3, by rw [atI_of (by omega)]; exact hvg, rfl, _, rfl, ?_⟩
      cases o with
      | some g0 =>
        obtain ⟨ag, _, rfl, _⟩ := gvg
        refine iteF ?_
        have c : gs.getD (piv f) none ≠ none := by rw [hoD]; exact fun z => by cases z
        refine ⟨_, _, rfl, k3, ?_, ⟨pv, hp3, ?_⟩, cv, hc3, ?_⟩
        · rw [← fix_same (fun o => V.str (kindS E.length o)) ascS hf c]; exact hk3
        · rw [← fix_same (fun o => powO E.length o) ascS hf c]; exact ppv3
        · rw [← fix_same (fun o => chR E.length o) ascS hf c]; exact pcv3
      | none =>
        obtain rfl : vg = .non := gvg
        refine iteT ?_
        have c : gs.getD (piv f) none = none := hoD
        have g1 : atI (f.map V.int) ((E.length : Nat) : Int) = some (.int (vl f E.length)) := by rw [atI_of (by rw [List.length_map]; omega), List.getElem?_map, vl_at (by omega : E.length < f.length)]; rfl
        have g2 : atI (f.map V.int) ((piv f : Nat) : Int) = some (.int (((vl f (piv f)).toNat : Nat) : Int)) := by
          rw [atI_of (by rw [List.length_map]; omega), List.getElem?_map, vl_at (by omega : piv f < f.length), Int.toNat_of_nonneg (by omega)]; rfl
        have b1 := bf E.length
        have b2 := bf (piv f)
        have le : 2 ^ szN b n ≤ 2 ^ 13500 := Nat.pow_le_pow_right (by decide) (by omega)
        refine ⟨_, rfl, _, rfl, a, _, _, _, rfl, rfl, SqL.of hfa3, g1, _, rfl, _, rfl, a, _, _, _, rfl, rfl, SqL.of hfa3, g2, _, _, rfl, .inl ⟨by omega, by rw [Int.natAbs_natCast]; omega⟩, by omega, fun t ht => ?_⟩
        have nt := AL.Same.new (o := .tup [.int (lowI (vl f E.length) (((vl f (piv f)).toNat : Nat) : Int)).1, .int (lowI (vl f E.length) (((vl f (piv f)).toNat : Nat) : Int)).2]) ht
        have rqt : RQ (upd H3 t (.tup [.int (lowI (vl f E.length) (((vl f (piv f)).toNat : Nat) : Int)).1, .int (lowI (vl f E.length) (((vl f (piv f)).toNat : Nat) : Int)).2])) t (mkRat (vl f E.length) (vl f (piv f)).toNat) := by
          rw [low_rq (vl f E.length) (b := (vl f (piv f)).toNat) (by omega)]; exact upd_same
        generalize upd H3 t (.tup [.int (lowI (vl f E.length) (((vl f (piv f)).toNat : Nat) : Int)).1, .int (lowI (vl f E.length) (((vl f (piv f)).toNat : Nat) : Int)).2]) = H4 at nt rqt ⊢
        have hk4 := nt _ _ hk3
        have hp4 := nt _ _ hp3
        have hc4 := nt _ _ hc3
        have hfa4 := hfa3.same nt
        refine ⟨_, rfl, _, rfl, pd, _, _, _, rfl, rfl, hp4, ixN_of (by omega), ?_⟩
        have tu := upd_tups (o := .lst (pv.set (piv f) (.ref t))) hp4 (fun _ z => nomatch z)
        have hp5 : upd H4 pd (.lst (pv.set (piv f) (.ref t))) pd = some (.lst (pv.set (piv f) (.ref t))) := upd_same
        have hk5 : upd H4 pd (.lst (pv.set (piv f) (.ref t))) kd = _ := Eq.trans (upd_ne kp) hk4
        have hc5 : upd H4 pd (.lst (pv.set (piv f) (.ref t))) cd = _ := Eq.trans (upd_ne (Ne.symm pc)) hc4
        have hfa5 : LI (upd H4 pd (.lst (pv.set (piv f) (.ref t)))) a f := Eq.trans (upd_ne fa2) hfa4
        have k5 : ∀ c o, c ≠ kd → c ≠ pd → c ≠ cd → H3 c = some o → upd H4 pd (.lst (pv.set (piv f) (.ref t))) c = some o := fun c o x y z h => by rw [upd_ne y]; exact nt _ _ h
        have ppv5 : Paired (PwV (upd H4 pd (.lst (pv.set (piv f) (.ref t))))) (pv.set (piv f) (.ref t)) ((List.range E.length).map fun j => powO E.length (fixT (S.take (i + 1)) gs j)) := by
          rw [← fix_set (fun o => powO E.length o) ascS hf c]
          exact prd_set (paired_mono ppv3 fun _ _ z => PwV.keep z fun c ys h => tu _ _ (nt _ _ h)) _ ⟨t, rfl, tu _ _ rqt⟩
        have pcv5 := paired_mono pcv3 fun _ _ z => ChV.keep z k5
        generalize upd H4 pd (.lst (pv.set (piv f) (.ref t))) = H5 at hp5 hk5 hc5 hfa5 k5 ppv5 pcv5 ⊢
        clear tu rqt hp4 hk4 hc4 hfa4 nt
        refine ⟨_, rfl, _, rfl, a, _, _, _, rfl, rfl, SqL.of hfa5, g1, rfl, _, rfl, ?_⟩
        by_cases z0 : vl f E.length = 0
        · rw [decide_eq_true (by rw [z0])]
          refine iteT ?_
          refine ⟨_, rfl, _, rfl, kd, _, _, _, rfl, rfl, hk5, ixN_of (by rw [List.length_map, List.length_range]; omega), ?_⟩
          have ke : ((List.range E.length).map fun j => V.str (kindS E.length (fixT (S.take i) gs j))).set (piv f) (V.str "none") = (List.range E.length).map fun j => V.str (kindS E.length (fixT (S.take (i + 1)) gs j)) := by
            rw [← fix_set (fun o => V.str (kindS E.length o)) ascS hf c]
            show _ = List.set _ _ (V.str (if vl f E.length = 0 then "none" else "fixed"))
            rw [if_pos z0]
          have k6 : ∀ c o, c ≠ kd → c ≠ pd → c ≠ cd → H5 c = some o → upd H5 kd (.lst (((List.range E.length).map fun j => V.str (kindS E.length (fixT (S.take i) gs j))).set (piv f) (V.str "none"))) c = some o := fun c o x y z h => by rw [upd_ne x]; exact h
          have tu6 := upd_tups (o := .lst (((List.range E.length).map fun j => V.str (kindS E.length (fixT (S.take i) gs j))).set (piv f) (V.str "none"))) hk5 (fun _ z => nomatch z)
          have hk6 : upd H5 kd (.lst (((List.range E.length).map fun j => V.str (kindS E.length (fixT (S.take i) gs j))).set (piv f) (V.str "none"))) kd = some (.lst ((List.range E.length).map fun j => V.str (kindS E.length (fixT (S.take (i + 1)) gs j)))) := by rw [upd_same, ke]
          have hp6 : upd H5 kd (.lst (((List.range E.length).map fun j => V.str (kindS E.length (fixT (S.take i) gs j))).set (piv f) (V.str "none"))) pd = _ := Eq.trans (upd_ne (Ne.symm kp)) hp5
          have hc6 : upd H5 kd (.lst (((List.range E.length).map fun j => V.str (kindS E.length (fixT (S.take i) gs j))).set (piv f) (V.str "none"))) cd = _ := Eq.trans (upd_ne (Ne.symm kc)) hc5
          have hfa6 := k6 _ _ fa1 fa2 fa3 hfa5
          have ppv6 := paired_mono ppv5 fun _ _ z => PwV.keep z tu6
          have pcv6 := paired_mono pcv5 fun _ _ z => ChV.keep z k6
          generalize upd H5 kd (.lst (((List.range E.length).map fun j => V.str (kindS E.length (fixT (S.take i) gs j))).set (piv f) (V.str "none"))) = H6' at k6 hk6 hp6 hc6 hfa6 ppv6 pcv6 ⊢
          refine ⟨_, rfl, _, rfl, _, _, rfl, rfl, _, rfl, a, _, rfl, SqL.of hfa6, fun l hl => ?_⟩
          have ce : cutV (f.map V.int) (some ((E.length : Int) + 1)) none = (f.drop (E.length + 1)).map V.int := by
            rw [show ((E.length : Int) + 1) = ((E.length + 1 : Nat) : Int) by omega, cutL_from (by rw [List.length_map]; omega), List.map_drop]
          have nl := AL.Same.new (o := .lst (cutV (f.map V.int) (some ((E.length : Int) + 1)) none)) hl
          have hl7 : LI (upd H6' l (.lst (cutV (f.map V.int) (some ((E.length : Int) + 1)) none))) l (f.drop (E.length + 1)) := by unfold LI; rw [upd_same, ce]
          have lk : l ≠ kd := fun e => by rw [e, hk6] at hl; cases hl
          have lp : l ≠ pd := fun e => by rw [e, hp6] at hl; cases hl
          have lc : l ≠ cd := fun e => by rw [e, hc6] at hl; cases hl
          have hc7 := nl _ _ hc6
          refine ⟨_, rfl, _, rfl, cd, _, _, _, rfl, rfl, hc7, ixN_of (by omega), ?_⟩
          have k8 : ∀ c o, c ≠ kd → c ≠ pd → c ≠ cd → H6' c = some o → upd (upd H6' l (.lst (cutV (f.map V.int) (some ((E.length : Int) + 1)) none))) cd (.lst (cv.set (piv f) (.ref l))) c = some o := fun c o x y z h => by rw [upd_ne z]; exact nl _ _ h
          have tu8 := upd_tups (o := .lst (cv.set (piv f) (.ref l))) hc7 (fun _ z => nomatch z)
          refine ⟨_, _, rfl, fun c o x y z h => k8 c o x y z (k6 c o x y z (k5 c o x y z (k3 c o x y z h))), ?_, ⟨_, ?_, paired_mono ppv6 fun _ _ z => PwV.keep z fun c ys h => tu8 _ _ (nl _ _ h)⟩, cv.set (piv f) (.ref l), upd_same, ?_⟩
          · exact Eq.trans (upd_ne kc) (nl _ _ hk6)
          · exact Eq.trans (upd_ne pc) (nl _ _ hp6)
          · rw [← fix_set (fun o => chR E.length o) ascS hf c]
            refine prd_set (paired_mono pcv6 fun _ _ z => ChV.keep z k8) _ ⟨l, lk, lp, lc, rfl, Eq.trans (upd_ne lc) hl7⟩
        · rw [decide_eq_false (fun w => z0 (by injection w))]
          refine iteF ?_
          refine ⟨_, rfl, _, rfl, kd, _, _, _, rfl, rfl, hk5, ixN_of (by rw [List.length_map, List.length_range]; omega), ?_⟩
          have ke : ((List.range E.length).map fun j => V.str (kindS E.length (fixT (S.take i) gs j))).set (piv f) (V.str "fixed") = (List.range E.length).map fun j => V.str (kindS E.length (fixT (S.take (i + 1)) gs j)) := by
            rw [← fix_set (fun o => V.str (kindS E.length o)) ascS hf c]
            show _ = List.set _ _ (V.str (if vl f E.length = 0 then "none" else "fixed"))
            rw [if_neg z0]
          have k6 : ∀ c o, c ≠ kd → c ≠ pd → c ≠ cd → H5 c = some o → upd H5 kd (.lst (((List.range E.length).map fun j => V.str (kindS E.length (fixT (S.take i) gs j))).set (piv f) (V.str "fixed"))) c = some o := fun c o x y z h => by rw [upd_ne x]; exact h
          have tu6 := upd_tups (o := .lst (((List.range E.length).map fun j => V.str (kindS E.length (fixT (S.take i) gs j))).set (piv f) (V.str "fixed"))) hk5 (fun _ z => nomatch z)
          have hk6 : upd H5 kd (.lst (((List.range E.length).map fun j => V.str (kindS E.length (fixT (S.take i) gs j))).set (piv f) (V.str "fixed"))) kd = some (.lst ((List.range E.length).map fun j => V.str (kindS E.length (fixT (S.take (i + 1)) gs j)))) := by rw [upd_same, ke]
          have hp6 : upd H5 kd (.lst (((List.range E.length).map fun j => V.str (kindS E.length (fixT (S.take i) gs j))).set (piv f) (V.str "fixed"))) pd = _ := Eq.trans (upd_ne (Ne.symm kp)) hp5
          have hc6 : upd H5 kd (.lst (((List.range E.length).map fun j => V.str (kindS E.length (fixT (S.take i) gs j))).set (piv f) (V.str "fixed"))) cd = _ := Eq.trans (upd_ne (Ne.symm kc)) hc5
          have hfa6 := k6 _ _ fa1 fa2 fa3 hfa5
          have ppv6 := paired_mono ppv5 fun _ _ z => PwV.keep z tu6
          have pcv6 := paired_mono pcv5 fun _ _ z => ChV.keep z k6
          generalize upd H5 kd (.lst (((List.range E.length).map fun j => V.str (kindS E.length (fixT (S.take i) gs j))).set (piv f) (V.str "fixed"))) = H6' at k6 hk6 hp6 hc6 hfa6 ppv6 pcv6 ⊢
          refine ⟨_, rfl, _, rfl, _, _, rfl, rfl, _, rfl, a, _, rfl, SqL.of hfa6, fun l hl => ?_⟩
          have ce : cutV (f.map V.int) (some ((E.length : Int) + 1)) none = (f.drop (E.length + 1)).map V.int := by
            rw [show ((E.length : Int) + 1) = ((E.length + 1 : Nat) : Int) by omega, cutL_from (by rw [List.length_map]; omega), List.map_drop]
          have nl := AL.Same.new (o := .lst (cutV (f.map V.int) (some ((E.length : Int) + 1)) none)) hl
          have hl7 : LI (upd H6' l (.lst (cutV (f.map V.int) (some ((E.length : Int) + 1)) none))) l (f.drop (E.length + 1)) := by unfold LI; rw [upd_same, ce]
          have lk : l ≠ kd := fun e => by rw [e, hk6] at hl; cases hl
          have lp : l ≠ pd := fun e => by rw [e, hp6] at hl; cases hl
          have lc : l ≠ cd := fun e => by rw [e, hc6] at hl; cases hl
          have hc7 := nl _ _ hc6
          refine ⟨_, rfl, _, rfl, cd, _, _, _, rfl, rfl, hc7, ixN_of (by omega), ?_⟩
          have k8 : ∀ c o, c ≠ kd → c ≠ pd → c ≠ cd → H6' c = some o → upd (upd H6' l (.lst (cutV (f.map V.int) (some ((E.length : Int) + 1)) none))) cd (.lst (cv.set (piv f) (.ref l))) c = some o := fun c o x y z h => by rw [upd_ne z]; exact nl _ _ h
          have tu8 := upd_tups (o := .lst (cv.set (piv f) (.ref l))) hc7 (fun _ z => nomatch z)
          refine ⟨_, _, rfl, fun c o x y z h => k8 c o x y z (k6 c o x y z (k5 c o x y z (k3 c o x y z h))), ?_, ⟨_, ?_, paired_mono ppv6 fun _ _ z => PwV.keep z fun c ys h => tu8 _ _ (nl _ _ h)⟩, cv.set (piv f) (.ref l), upd_same, ?_⟩
          · exact Eq.trans (upd_ne kc) (nl _ _ hk6)
          · exact Eq.trans (upd_ne pc) (nl _ _ hp6)
          · rw [← fix_set (fun o => chR E.length o) ascS hf c]
            refine prd_set (paired_mono pcv6 fun _ _ z => ChV.keep z k8) _ ⟨l, lk, lp, lc, rfl, Eq.trans (upd_ne lc) hl7⟩
    rintro σ H2 ⟨v4, v12, rfl, k2, hk2, ⟨pv, hp2, ppv⟩, cv, hc2, pcv⟩
    have lcS : (cs.map V.ref).length = S.length := by rw [List.length_map, lcs]
    rw [lcS, List.take_length] at hk2 ppv pcv
    have gdk : gd ≠ kd ∧ gd ≠ pd ∧ gd ≠ cd := ⟨(fun e => by rw [e, hk10] at gdn; cases gdn), (fun e => by rw [e, hp10] at gdn; cases gdn), (fun e => by rw [e, hc10] at gdn; cases gdn)⟩
    have hgd2 := k2 _ _ gdk.1 gdk.2.1 gdk.2.2 hgd
    have s72 : Same H7 H2 := fun c o e => k2 c o (fun h => by rw [h, kdn] at e; cases e) (fun h => by rw [h, pdn7] at e; cases e) (fun h => by rw [h, cdn7] at e; cases e) (s7B _ _ e)
    have s02 := s07.trans s72
    have lpv := prd_len ppv
    rw [List.length_map, List.length_range] at lpv
    have lcv := prd_len pcv
    rw [List.length_map, List.length_range] at lcv
    have gval : ∀ v o, GV HA gd HB v o → o ∈ gs → R1 H2 v (rwC o) := fun v o h ho => by
      cases o with
      | none => exact ⟨h, .non⟩
      | some g =>
        obtain ⟨a, ane, h1, h2, h4⟩ := h
        refine ⟨a, h1, .inl (k2 _ _ (fun e => by rw [e, hk10] at h4; cases h4) (fun e => by rw [e, hp10] at h4; cases h4) (fun e => by rw [e, hc10] at h4; cases h4) h2), ?_, atomI g⟩
        rw [List.length_map, gsl g ho]; omega
    refine ⟨_, rfl, _, rfl, _, rfl, _, rfl, ?_⟩
    intro z dz h1 h2 h3
    have s0 : Same H2 (upd (upd H2 dz (.own z)) z (.ins CHangs dz [])) := fun b o e => by
      rw [upd_ne (ne_of_none e h1), upd_ne (ne_of_none e h2)]; exact e
    refine ⟨z, dz, kd, pd, gd, cd, _, pv, gv, cv, ((List.range E.length).map fun j => V.str (kindS E.length (fixT S gs j))).map .inl, _, _, _, rfl, upd_same, .inl (s0 _ _ hk2), .inl (s0 _ _ hp2), .inl (s0 _ _ hgd2), .inl (s0 _ _ hc2), ?_, prd_mapR (c := pwC) ppv fun v o _ h => (pw_r1 h).same s0, prd_mapR (c := rwC) pgv fun v o ho h => (gval v o h ho).same s0, prd_mapR (c := rwC) pcv fun v o ho h => (ch_r1 h ?_).same s0, ?_, by omega, by omega, by omega, fun t1 t2 t3 t4 H8 y1 y2 y3 y4 k8 hz8 ht1 ht2 ht3 ht4 p1 p2 p3 p4 => ⟨rfl, ?_⟩⟩
    · have go : ∀ {HH : Hp} (l : List Nat) (φ : Nat → Str), Paired (R1 HH) (l.map fun j => V.str (φ j)) ((l.map fun j => V.str (φ j)).map .inl) := fun l φ => by
        induction l with
        | nil => exact .nil
        | cons x l ih => exact .cons ⟨rfl, .str _⟩ ih
      exact go _ _
    · intro g e
      rw [e] at ho
      obtain ⟨j, _, ej⟩ := List.mem_map.mp ho
      unfold chR at ej
      rw [Option.map_eq_some_iff] at ej
      obtain ⟨f, hf, rfl⟩ := ej
      have mf : f ∈ S := by
        unfold fixT at hf
        split at hf
        · rename_i f' hf'
          split at hf
          · cases hf; exact List.mem_of_find?_eq_some hf'
          · cases hf
        · cases hf
      rw [List.length_drop, St.len f mf]; omega
    · rw [List.length_map, List.length_range]; omega
    subst hgs
    refine qH z H8 (fun b o e => k8 b o (ne_of_none (s02 _ _ e) h1) (s0 _ _ (s02 _ _ e))) nom ⟨dz, t1, t2, t3, t4, y2, y3, y4, hz8, ?_, ht2, ht3, ht4, ?_, ?_, ?_⟩
    · rw [ht1, res_atoms p1]
      rfl
    · exact prd_mapS p2 fun _ _ _ h => pw_res h
    · exact prd_mapS p3 fun _ _ _ h => rw_res h
    · exact prd_mapS p4 fun _ _ _ h => rw_res h
end
end AL
set_option Elab.async false
set_option maxRecDepth 100000
set_option exponentiation.threshold 70000
set_option maxHeartbeats 1000000
namespace AL
open PySem PySem.Spec PyProof.Rows L2 RZ
section
variable {P : Program} {w : World} {K : PySem.W.Frag} {mg : Str → Option Value} {base : Heap}

/-- _law_inner(row, column) -/
def dotI (ns es : List Int) : Int := (List.zipWith (· * ·) ns es).sum
def spInn : Sp := fun vs H Q _ => ∃ (r k : Addr) (ns es : List Int), vs = [.ref r, .ref k] ∧ LT H r ns ∧ LT H k es ∧ ns.length = es.length ∧ es.length ≤ 60 ∧ (∀ x ∈ ns, x.natAbs < 2 ^ 4100) ∧ (∀ x ∈ es, x.natAbs < 2 ^ 4100) ∧ ∀ H', Same H H' → Q (.int (dotI ns es)) H'

abbrev st_law_gcd : Stmt := top 36
theorem sc_law_gcd : FnScope ["_law_one", "_law_two", "_law_lap"] ["_law_one", "_law_two"] (defScope st_law_gcd) := ⟨rfl, rfl, rfl, by decide +kernel, rfl, by decide +kernel, by decide +kernel⟩
theorem ok_law_gcd (B : Blt mg)  {f_law_gcd : Addr} {fd_law_gcd : FuncData} (D_law_gcd : DefAt K mg "_law_gcd" st_law_gcd ["_law_one", "_law_two"] f_law_gcd fd_law_gcd) : FnOk P w K mg base CX0 1 f_law_gcd fd_law_gcd ["_law_one", "_law_two"] spGcdL := by
  refine D_law_gcd.F.ok sc_law_gcd (fun vs H Q E h => ?_) (fun cdv A outer s H vs Q E hr h => ?_)
  · obtain ⟨a, b, rfl, _⟩ := h; rfl
  · have hu := hu_of hr
    refine ⟨_, (pss_cons (ps_par (i := 0) (j := 1) (by rfl) sc_law_gcd.nd rfl rfl (by decide) rfl rfl (pa_cons (pe_callB call_abs (by rfl) B.abs_ (by decide +kernel) (pa_cons (pv 0) pa_nil)) (pa_cons (pe_callB call_abs (by rfl) B.abs_ (by decide +kernel) (pa_cons (pv 1) pa_nil)) pa_nil)) (by rfl))
    (pss_cons (ps_for PassesOwn.never rfl (pi_range1 rfl B.range_ (pa_cons pe_int pa_nil)) (pg_name (i := 2) sc_law_gcd.nd rfl (Or.inl rfl))
      (pss_cons (ps_if (pt_cmpR op_eq (pv 1) pe_int (nomark _)) (pss_one ps_break) pss_nil)
    (pss_one (ps_par (i := 0) (j := 1) (by rfl) sc_law_gcd.nd rfl rfl (by decide) rfl rfl (pa_cons (pv 1) (pa_cons (pe_op op_modN (pe_callTy call_int1 (by rfl) B.int_ (by decide +kernel) (pa_cons (pv 0) pa_nil)) (pv 1)) pa_nil)) (by rfl)))))
    (pss_one (ps_ret (pv 0))))), ?_⟩
    obtain ⟨a, b, rfl, ha, hb, q⟩ := h
    have eabs : ∀ i : Int, (if i < 0 then -i else i) = ((i.natAbs : Nat) : Int) := fun i => by split <;> omega
    refine ⟨_, rfl, _, rfl, _, rfl, _, rfl, _, _, rfl, ?_⟩
    refine ⟨_, rfl, by decide, by decide, for_range (lo := 0) (n := 60000) (fun i σ H' => ∃ (x y : Nat) (v : Option V), σ = [some (.int (x : Int)), some (.int (y : Int)), v] ∧ H' = H ∧ pairOk a.natAbs b.natAbs i x y) ⟨a.natAbs, b.natAbs, none, by rw [← eabs, ← eabs]; rfl, rfl, pairOk0 _ _⟩ ?_ ?_⟩
    · rintro i σ H' hi ⟨x, y, v, rfl, rfl, hp⟩
      refine ⟨_, rfl, rfl, _, rfl, ?_⟩
      refine ite2 (fun h0 => ?_) (fun h0 => ?_)
      · have hy0 : y = 0 := vi_eq (j := 0) h0
        subst hy0
        refine ⟨_, rfl, ?_⟩
        rw [pairOk_end hp]; exact q
      · have hy0 : y ≠ 0 := vi_ne (j := 0) h0
        refine ⟨_, rfl, _, rfl, .inl ⟨_, rfl, _, rfl, _, _, rfl, rfl, by show (y : Int) ≠ 0; omega, _, _, rfl, ?_⟩⟩
        refine ⟨y, x % y, some (.int (0 + (i : Int))), ?_, rfl, pairOk_step hp hy0⟩
        rw [← fmod_nat]
        rfl
    · rintro σ H' ⟨x, y, v, rfl, rfl, hp⟩
      have hy0 := pairOk_zero hp ha hb
      subst hy0
      refine ⟨_, rfl, ?_⟩
      rw [pairOk_end hp]; exact q
abbrev st_law_q : Stmt := top 37
theorem sc_law_q : FnScope ["_law_top", "_law_bottom", "_law_by"] ["_law_top", "_law_bottom"] (defScope st_law_q) := ⟨rfl, rfl, rfl, by decide +kernel, rfl, by decide +kernel, by decide +kernel⟩
theorem ok_law_q (B : Blt mg)  {f_law_gcd : Addr} {fd_law_gcd : FuncData} (D_law_gcd : DefAt K mg "_law_gcd" st_law_gcd ["_law_one", "_law_two"] f_law_gcd fd_law_gcd) {f_law_q : Addr} {fd_law_q : FuncData} (D_law_q : DefAt K mg "_law_q" st_law_q ["_law_top", "_law_bottom"] f_law_q fd_law_q) : FnOk P w K mg base CX0 2 f_law_q fd_law_q ["_law_top", "_law_bottom"] spQG := by
  have OK_law_gcd : FnOk P w K mg base CX0 1 f_law_gcd fd_law_gcd ["_law_one", "_law_two"] spGcdL := ok_law_gcd B  D_law_gcd
  refine D_law_q.F.ok sc_law_q (fun vs H Q E h => ?_) (fun cdv A outer s H vs Q E hr h => ?_)
  · obtain ⟨a, b, rfl, _⟩ := h; rfl
  · have hu := hu_of hr
    refine ⟨_, (pss_cons (ps_set (i := 2) sc_law_q.nd rfl (Or.inl rfl) (pe_call OK_law_gcd (hr.mono (by decide)) rfl D_law_gcd.m D_law_gcd.F.kp D_law_gcd.b .nil pass0 (pa_cons (pv 0) (pa_cons (pv 1) pa_nil))))
    (pss_cons (ps_if (pt_cmpR op_lt (pv 1) pe_int (nomark _)) (pss_one (ps_set (i := 2) sc_law_q.nd rfl (Or.inl rfl) (pe_un un_neg (pv 2)))) pss_nil)
    (pss_one (ps_ret (pe_tup (pa_cons (pe_op op_fdivC (pv 0) (pv 2)) (pa_cons (pe_op op_fdivC (pv 1) (pv 2)) pa_nil))))))), ?_⟩
    obtain ⟨a, b, rfl, ha, hb, hlo, h0, q⟩ := h
    refine ⟨_, rfl, _, rfl, a, b, rfl, ha, hb, ?_⟩
    have hg : Nat.gcd a.natAbs b.natAbs ≠ 0 := fun z => h0 (Int.natAbs_eq_zero.mp (Nat.eq_zero_of_gcd_eq_zero_right z))
    have d1 : ∀ s : Int, s.natAbs = Nat.gcd a.natAbs b.natAbs → CDivC a s ∧ CDivC b s := fun s hs => by
      refine ⟨⟨fun z => hg (by rw [← hs, z]; rfl), ?_⟩, ⟨fun z => hg (by rw [← hs, z]; rfl), ?_⟩⟩
      · exact hlo.elim (fun z => .inl z.1) (fun z => .inr (by rw [hs]; exact z))
      · exact hlo.elim (fun z => .inl z.2) (fun z => .inr (by rw [hs]; exact z))
    refine ⟨_, rfl, _, _, rfl, rfl, _, rfl, ?_⟩
    refine ite2 (fun hneg => ?_) (fun hneg => ?_)
    · have hneg' := of_decide_eq_true hneg
      obtain ⟨c1, c2⟩ := d1 (-((Nat.gcd a.natAbs b.natAbs : Nat) : Int)) (by rw [Int.natAbs_neg, Int.natAbs_natCast])
      refine ⟨_, rfl, _, rfl, _, rfl, _, rfl, _, _, rfl, rfl, c1, _, rfl, _, rfl, _, _, rfl, rfl, c2, (by show 2 ≤ sizeLine; decide), fun t ht => ?_⟩
      have z := q t ht
      unfold lowI shr at z
      rw [if_pos hneg'] at z
      exact z
    · have hneg' : ¬ b < 0 := fun z => hneg (decide_eq_true z)
      obtain ⟨c1, c2⟩ := d1 ((Nat.gcd a.natAbs b.natAbs : Nat) : Int) (Int.natAbs_natCast _)
      refine ⟨_, rfl, _, rfl, _, _, rfl, rfl, c1, _, rfl, _, rfl, _, _, rfl, rfl, c2, (by show 2 ≤ sizeLine; decide), fun t ht => ?_⟩
      have z := q t ht
      unfold lowI shr at z
      rw [if_neg hneg'] at z
      exact z
abbrev st_law_inner : Stmt := top 41
theorem sc_law_inner : FnScope ["_law_row", "_law_column", "_law_one", "_law_two"] ["_law_row", "_law_column"] (defScope st_law_inner) := ⟨rfl, rfl, rfl, by decide +kernel, rfl, by decide +kernel, by decide +kernel⟩
theorem ok_law_inner (B : Blt mg)  {f_law_inner : Addr} {fd_law_inner : FuncData} (D_law_inner : DefAt K mg "_law_inner" st_law_inner ["_law_row", "_law_column"] f_law_inner fd_law_inner) : FnOk P w K mg base CX0 1 f_law_inner fd_law_inner ["_law_row", "_law_column"] spInn := by
  refine D_law_inner.F.ok sc_law_inner (fun vs H Q E h => ?_) (fun cdv A outer s H vs Q E hr h => ?_)
  · obtain ⟨r, k, ns, es, rfl, _⟩ := h; rfl
  · have hu := hu_of hr
    refine ⟨_, (pss_one (ps_ret (pe_callB (cr_sum rfl) (by rfl) B.sum_ (by decide +kernel) (pa_cons (pe_lc (own := [("_law_one", 2), ("_law_two", 3)]) (g := (gTup K 2 (gCons (gName 2) (gCons (gName 3) gNil)))) (tt := tYes) rfl sc_law_inner.nd (pi_zipB (by rfl) B.zip_ (pa_cons (pv 0) (pa_cons (pv 1) pa_nil))) (blkOk_by (own := [("_law_one", 2), ("_law_two", 3)]) (N := ["_law_row", "_law_column", "_law_one", "_law_two"]) (sc := defScope st_law_inner) (by decide +kernel)) (fun _ _ _ _ _ => (pg_tup rfl (pgs_cons (pg_name (i := 2) sc_law_inner.nd rfl (Or.inl rfl)) (pgs_cons (pg_name (i := 3) sc_law_inner.nd rfl (Or.inl rfl)) pgs_nil)))) (fun _ _ _ _ _ => pts_nil) (fun _ _ _ _ _ => (pe_op op_mulW (pv 2) (pv 3)))) pa_nil)))), ?_⟩
    obtain ⟨r, k, ns, es, rfl, hr, hk, hl, le, b1, b2, q⟩ := h
    obtain ⟨kb, hb⟩ := hr.sqb (K := K)
    obtain ⟨kb2, hb2⟩ := hk.sqb (K := K)
    refine ⟨_, rfl, _, rfl, r, k, kb, kb2, _, _, rfl, hb, hb2, fun D hD => ?_⟩
    refine lc_it (walk_zipB (K := K) (a := r) (b := k) (k := kb) (l := kb2) (xs := ns.map V.int) (ys := es.map V.int) (n := ns.length) (by rw [List.length_map, List.length_map]; omega)) (fun i H' => Same H H' ∧ H' D = some (.lst (((List.zipWith (· * ·) ns es).take i).map V.int))) ⟨AL.Same.new hD, upd_same⟩ (fun i H' _ hh => ⟨sqB_same7 hb hh.1, sqB_same7 hb2 hh.1⟩) ?_ ?_
    · rintro i x0 H0 H1' hi ⟨s0, hd0⟩ ⟨T0, u1, u2, rfl, hT, rfl, e1, e2⟩
      obtain ⟨z1, c1, rfl⟩ := map_int e1
      obtain ⟨z2, c2, rfl⟩ := map_int e2
      have hDT : D ≠ T0 := fun z => by rw [z, hT] at hd0; cases hd0
      have sT : Same H (upd H0 T0 (.tup [.int z1, .int z2])) := s0.trans (AL.Same.new hT)
      refine ⟨T0, _, rfl, SqT.of upd_same, rfl, _, _, rfl, _, _, rfl, rfl, rfl, ?_⟩
      refine ⟨_, rfl, _, rfl, _, _, rfl, rfl, wide_mul (a := 4100) (b := 4100) (b1 _ (List.mem_of_getElem? c1)) (b2 _ (List.mem_of_getElem? c2)) (by decide) (by decide) (by decide), _, Eq.trans (upd_ne hDT) hd0, ?_, AL.Same.updn sT hD, ?_⟩
      · rw [List.length_map, List.length_take]
        exact Nat.lt_of_le_of_lt (by omega : _ ≤ 100) (by decide)
      · rw [upd_same, List.take_add_one, List.getElem?_zipWith, c1, c2]
        simp
    · rintro H3 ⟨s3, hd3⟩
      rw [List.take_of_length_le (by rw [List.length_zipWith]; omega)] at hd3
      exact ⟨D, _, rfl, SqL.of hd3, q H3 s3⟩
end
end AL
set_option Elab.async false
set_option linter.all false
set_option maxRecDepth 100000
/-! determinants: by the first row, over lists of places; spans and minors -/
namespace AL
abbrev Fn := Nat → Int
/-- a first row, expanded -/
def exq (r : Fn) : (List Nat → Int) → List Nat → Int
  | _, [] => 0
  | F, p :: P => r p * F P - exq r (fun Q => F (p :: Q)) P
def det : List Fn → List Nat → Int
  | [], [] => 1
  | [], _ :: _ => 0
  | r :: R, P => exq r (det R) P
theorem exq_congr {r : Fn} : ∀ {P : List Nat} {F G : List Nat → Int}, (∀ Q, Q.length + 1 = P.length → (∀ q ∈ Q, q ∈ P) → F Q = G Q) → exq r F P = exq r G P
  | [], _, _, _ => rfl
  | p :: P, F, G, h => by
    show r p * F P - exq r _ P = r p * G P - exq r _ P
    rw [h P rfl fun q hq => List.mem_cons_of_mem _ hq, exq_congr (P := P) (F := fun Q => F (p :: Q)) (G := fun Q => G (p :: Q)) fun Q l k => h (p :: Q) (by rw [List.length_cons, List.length_cons, l]) fun q hq => by
      rcases List.mem_cons.mp hq with e | e
      · rw [e]; exact List.mem_cons_self ..
      · exact List.mem_cons_of_mem _ (k q e)]
theorem exq_lin (r : Fn) (a b : Int) : ∀ (P : List Nat) (F G : List Nat → Int), exq r (fun Q => a * F Q + b * G Q) P = a * exq r F P + b * exq r G P
  | [], _, _ => by show (0 : Int) = a * 0 + b * 0; omega
  | p :: P, F, G => by
    show r p * (a * F P + b * G P) - exq r (fun Q => a * F (p :: Q) + b * G (p :: Q)) P = a * (r p * F P - exq r (fun Q => F (p :: Q)) P) + b * (r p * G P - exq r (fun Q => G (p :: Q)) P)
    rw [exq_lin r a b P]
    grind
theorem exq_zero (r : Fn) : ∀ P : List Nat, exq r (fun _ => 0) P = 0
  | [] => rfl
  | p :: P => by show r p * 0 - exq r (fun _ => 0) P = 0; rw [exq_zero r P]; omega
theorem exq_rlin (r s : Fn) (a b : Int) : ∀ (P : List Nat) (F : List Nat → Int), exq (fun j => a * r j + b * s j) F P = a * exq r F P + b * exq s F P
  | [], _ => by show (0 : Int) = a * 0 + b * 0; omega
  | p :: P, F => by
    show (a * r p + b * s p) * F P - exq (fun j => a * r j + b * s j) (fun Q => F (p :: Q)) P = a * (r p * F P - exq r (fun Q => F (p :: Q)) P) + b * (s p * F P - exq s (fun Q => F (p :: Q)) P)
    rw [exq_rlin r s a b P]
    grind
theorem exq_swap (x y : Fn) : ∀ (P : List Nat) (F : List Nat → Int), exq x (fun Q => exq y F Q) P = - exq y (fun Q => exq x F Q) P
  | [], _ => rfl
  | p :: P, F => by
    have ih := exq_swap x y P (fun Q => F (p :: Q))
    have e1 : exq x (fun Q => exq y F (p :: Q)) P = y p * exq x F P + (-1) * exq x (fun Q => exq y (fun Q => F (p :: Q)) Q) P := by
      rw [← exq_lin]
      exact exq_congr fun Q _ _ => by show y p * F Q - _ = _; grind
    have e2 : exq y (fun Q => exq x F (p :: Q)) P = x p * exq y F P + (-1) * exq y (fun Q => exq x (fun Q => F (p :: Q)) Q) P := by
      rw [← exq_lin]
      exact exq_congr fun Q _ _ => by show x p * F Q - _ = _; grind
    show x p * exq y F P - exq x (fun Q => exq y F (p :: Q)) P = -(y p * exq x F P - exq y (fun Q => exq x F (p :: Q)) P)
    rw [e1, e2, ih]
    grind
theorem det_swap (x y : Fn) (B : List Fn) : ∀ (A : List Fn) (P : List Nat), det (A ++ x :: y :: B) P = - det (A ++ y :: x :: B) P
  | [], P => exq_swap x y P (det B)
  | a :: A, P => by
    show exq a (det (A ++ x :: y :: B)) P = - exq a (det (A ++ y :: x :: B)) P
    rw [exq_congr (G := fun Q => (-1) * det (A ++ y :: x :: B) Q + 0 * det (A ++ y :: x :: B) Q) fun Q _ _ => by rw [det_swap x y B A Q]; grind, exq_lin]
    have : exq a (fun Q => det (A ++ y :: x :: B) Q) P = exq a (det (A ++ y :: x :: B)) P := rfl
    grind
theorem det_lin (x y : Fn) (m t : Int) (B : List Fn) : ∀ (A : List Fn) (P : List Nat), det (A ++ (fun j => m * x j + t * y j) :: B) P = m * det (A ++ x :: B) P + t * det (A ++ y :: B) P
  | [], P => exq_rlin x y m t P (det B)
  | a :: A, P => by
    show exq a (det (A ++ (fun j => m * x j + t * y j) :: B)) P = m * exq a (det (A ++ x :: B)) P + t * exq a (det (A ++ y :: B)) P
    rw [exq_congr (G := fun Q => m * det (A ++ x :: B) Q + t * det (A ++ y :: B) Q) fun Q _ _ => det_lin x y m t B A Q]
    exact exq_lin a m t P _ _
theorem exq_rzero : ∀ (P : List Nat) (F : List Nat → Int), exq (fun _ => 0) F P = 0
  | [], _ => rfl
  | p :: P, F => by show 0 * F P - exq (fun _ => 0) _ P = 0; rw [exq_rzero P]; omega
theorem det_zero (B : List Fn) : ∀ (A : List Fn) (P : List Nat), det (A ++ (fun _ => 0) :: B) P = 0
  | [], P => exq_rzero P (det B)
  | a :: A, P => by
    show exq a (det (A ++ (fun _ => 0) :: B)) P = 0
    rw [exq_congr (G := fun _ => 0) fun Q _ _ => det_zero B A Q, exq_zero]
theorem det_two (x : Fn) (C : List Fn) : ∀ (B A : List Fn) (P : List Nat), det (A ++ x :: (B ++ x :: C)) P = 0
  | [], A, P => by
    have h := det_swap x x C A P
    show det (A ++ x :: x :: C) P = 0
    omega
  | b :: B, A, P => by
    have h := det_swap x b (B ++ x :: C) A P
    have ih := det_two x C B (A ++ [b]) P
    rw [List.append_assoc] at ih
    show det (A ++ x :: b :: (B ++ x :: C)) P = 0
    rw [h]
    have : det (A ++ b :: x :: (B ++ x :: C)) P = 0 := ih
    omega
/-- a row that stands twice -/
theorem det_dup {R : List Fn} (h : ¬ R.Nodup) (P : List Nat) : det R P = 0 := by
  have : ∃ A x B C, R = A ++ x :: (B ++ x :: C) := by
    clear P
    induction R with
    | nil => exact absurd List.nodup_nil h
    | cons r R ih =>
      by_cases m : r ∈ R
      · obtain ⟨B, C, e⟩ := List.append_of_mem m
        exact ⟨[], r, B, C, by rw [e]; rfl⟩
      · obtain ⟨A, x, B, C, e⟩ := ih fun n => h (List.nodup_cons.mpr ⟨m, n⟩)
        exact ⟨r :: A, x, B, C, by rw [e]; rfl⟩
  obtain ⟨A, x, B, C, rfl⟩ := this
  exact det_two x C B A P
/-- what is 0 with a row in a place is so for its span -/
theorem det_cls (A B : List Fn) (P : List Nat) : Cls0 fun x => det (A ++ x :: B) P = 0 :=
  ⟨det_zero B A P, fun {x y} m t hx hy => by rw [det_lin, hx, hy]; omega, fun {x s} s0 h => by
    have e := det_lin x x s 0 B A P
    rw [show (fun j => s * x j + 0 * x j) = fun j => s * x j from funext fun j => by omega, h] at e
    have : s * det (A ++ x :: B) P = 0 := by omega
    exact (Int.mul_eq_zero.mp this).resolve_left s0⟩
theorem nodup_sub {α : Type} [DecidableEq α] : ∀ {G F : List α}, G.Nodup → (∀ g ∈ G, g ∈ F) → G.length ≤ F.length
  | [], _, _, _ => Nat.zero_le _
  | g :: G, F, n, h => by
    obtain ⟨n1, n2⟩ := List.nodup_cons.mp n
    have ih := nodup_sub (F := F.erase g) n2 fun x hx => (List.mem_erase_of_ne (fun e => n1 (by rw [← e]; exact hx))).mpr (h x (List.mem_cons_of_mem _ hx))
    rw [List.length_erase_of_mem (h g (List.mem_cons_self ..))] at ih
    have : 0 < F.length := List.length_pos_of_mem (h g (List.mem_cons_self ..))
    rw [List.length_cons]; omega
noncomputable local instance : DecidableEq Fn := fun _ _ => Classical.propDecidable _
/-- more rows of a span than it has generators: their minors are 0 -/
theorem det_many {F : List Fn} (P : List Nat) : ∀ {X G : List Fn}, (∀ g ∈ G, g ∈ F) → (∀ x ∈ X, Spn (fun y => y ∈ F) x) → F.length < G.length + X.length → det (G ++ X) P = 0
  | [], G, hg, _, l => by
    rw [List.append_nil]
    refine det_dup (fun n => ?_) P
    have := nodup_sub n hg
    simp at l; omega
  | x :: X, G, hg, hx, l => by
    refine Spn.clo (det_cls G X P) (hx x (List.mem_cons_self ..)) fun y hy => ?_
    have ih := det_many (F := F) P (X := X) (G := G ++ [y]) (fun g hh => by
      rcases List.mem_append.mp hh with e | e
      · exact hg g e
      · rw [List.mem_singleton.mp e]; exact hy) (fun z hz => hx z (List.mem_cons_of_mem _ hz)) (by rw [List.length_append, List.length_singleton]; rw [List.length_cons] at l; omega)
    rw [List.append_assoc] at ih
    exact ih
theorem det_last_zero : ∀ {R : List Fn} {x : Fn} {P : List Nat}, (∀ p ∈ P, x p = 0) → det (R ++ [x]) P = 0
  | [], x, P, h => by
    show exq x (det []) P = 0
    have go : ∀ (P : List Nat) (F : List Nat → Int), (∀ p ∈ P, x p = 0) → exq x F P = 0 := fun P => by
      induction P with
      | nil => exact fun _ _ => rfl
      | cons p P ih =>
        intro F h
        show x p * F P - exq x _ P = 0
        rw [h p (List.mem_cons_self ..), ih _ fun q hq => h q (List.mem_cons_of_mem _ hq)]; omega
    exact go P _ h
  | r :: R, x, P, h => by
    show exq r (det (R ++ [x])) P = 0
    rw [exq_congr (G := fun _ => 0) fun Q _ k => det_last_zero fun p hp => h p (k p hp), exq_zero]
theorem exq_snoc (r : Fn) (q : Nat) : ∀ (P : List Nat) (F : List Nat → Int), ∃ e : Int, exq r F (P ++ [q]) = exq r (fun Q => F (Q ++ [q])) P + e * F P
  | [], F => ⟨r q, by show r q * F [] - 0 = 0 + r q * F []; omega⟩
  | p :: P, F => by
    obtain ⟨e, h⟩ := exq_snoc r q P (fun Q => F (p :: Q))
    refine ⟨-e, ?_⟩
    show r p * F (P ++ [q]) - exq r (fun Q => F (p :: Q)) (P ++ [q]) = (r p * F (P ++ [q]) - exq r (fun Q => F (p :: (Q ++ [q]))) P) + -e * F (p :: P)
    rw [h]; grind
/-- a last row that is 0 at all places but the last -/
theorem det_block : ∀ {R : List Fn} {x : Fn} {P : List Nat} {q : Nat}, (∀ p ∈ P, x p = 0) → P.length = R.length → det (R ++ [x]) (P ++ [q]) = det R P * x q
  | [], x, [], q, _, _ => by show x q * 1 - 0 = 1 * x q; omega
  | [], x, p :: P, q, _, l => by simp at l
  | r :: R, x, P, q, h, l => by
    show exq r (det (R ++ [x])) (P ++ [q]) = exq r (det R) P * x q
    obtain ⟨e, w⟩ := exq_snoc r q P (det (R ++ [x]))
    rw [w, det_last_zero h, exq_congr (G := fun Q => x q * det R Q + 0 * det R Q) fun Q lq k => by
      rw [det_block (fun p hp => h p (k p hp)) (by rw [List.length_cons] at l; omega)]; grind, exq_lin]
    have : exq r (fun Q => det R Q) P = exq r (det R) P := rfl
    grind
/-- the sum of minors is bounded -/
theorem exq_bd {r : Fn} {B C : Nat} : ∀ {P : List Nat} {F : List Nat → Int}, (∀ p ∈ P, (r p).natAbs ≤ B) → (∀ Q, Q.length + 1 = P.length → (∀ q ∈ Q, q ∈ P) → (F Q).natAbs ≤ C) → (exq r F P).natAbs ≤ P.length * (B * C)
  | [], _, _, _ => Nat.zero_le _
  | p :: P, F, hr, hF => by
    have ih := exq_bd (r := r) (B := B) (C := C) (P := P) (F := fun Q => F (p :: Q)) (fun q hq => hr q (List.mem_cons_of_mem _ hq)) fun Q l k => hF (p :: Q) (by rw [List.length_cons, List.length_cons, l]) fun q hq => by
      rcases List.mem_cons.mp hq with e | e
      · rw [e]; exact List.mem_cons_self ..
      · exact List.mem_cons_of_mem _ (k q e)
    have h1 := Nat.mul_le_mul (hr p (List.mem_cons_self ..)) (hF P rfl fun q hq => List.mem_cons_of_mem _ hq)
    rw [← Int.natAbs_mul] at h1
    show (r p * F P - exq r (fun Q => F (p :: Q)) P).natAbs ≤ (P.length + 1) * (B * C)
    rw [Nat.succ_mul]
    omega
def facB (B : Nat) : Nat → Nat
  | 0 => 1
  | n + 1 => (n + 1) * (B * facB B n)
theorem det_bd {B : Nat} : ∀ {R : List Fn} {P : List Nat}, (∀ r ∈ R, ∀ p ∈ P, (r p).natAbs ≤ B) → (det R P).natAbs ≤ facB B R.length
  | [], [], _ => (show (1 : Int).natAbs ≤ 1 by decide)
  | [], _ :: _, _ => by show (0 : Int).natAbs ≤ 1; decide
  | r :: R, P, h => by
    show (exq r (det R) P).natAbs ≤ _
    by_cases l : P.length = R.length + 1
    · have w := exq_bd (r := r) (B := B) (C := facB B R.length) (P := P) (F := det R) (h r (List.mem_cons_self ..)) fun Q _ k => det_bd fun s hs p hp => h s (List.mem_cons_of_mem _ hs) p (k p hp)
      rw [l] at w
      exact w
    · have z : ∀ (R : List Fn) (Q : List Nat), Q.length ≠ R.length → det R Q = 0 := fun R => by
        induction R with
        | nil =>
          intro Q h
          cases Q with
          | nil => exact absurd rfl h
          | cons _ _ => rfl
        | cons s R ih =>
          intro Q h
          show exq s (det R) Q = 0
          rw [exq_congr (G := fun _ => 0) fun Q' l' _ => ih Q' (by rw [List.length_cons] at h; omega), exq_zero]
      rw [exq_congr (G := fun _ => 0) fun Q lq _ => z R Q (by omega), exq_zero]
      exact Nat.zero_le _

/-- whole sums -/
inductive Lat (S : Fn → Prop) : Fn → Prop
  | mem {x} : S x → Lat S x
  | zero : Lat S fun _ => 0
  | lin {x y} (m t : Int) : Lat S x → Lat S y → Lat S fun j => m * x j + t * y j
theorem Lat.trans {S T : Fn → Prop} {x : Fn} (h : Lat S x) (k : ∀ y, S y → Lat T y) : Lat T x := by
  induction h with
  | mem h => exact k _ h
  | zero => exact .zero
  | lin m t _ _ i1 i2 => exact .lin m t i1 i2
theorem Lat.of {S : Fn → Prop} {x y : Fn} (h : Lat S x) (e : ∀ j, y j = x j) : Lat S y := by
  have : y = x := funext e
  rw [this]; exact h
theorem Lat.spn {S : Fn → Prop} {x : Fn} (h : Lat S x) : Spn S x := by
  induction h with
  | mem h => exact .mem h
  | zero => exact .zero
  | lin m t _ _ i1 i2 => exact .lin m t i1 i2
theorem exq_last (r : Fn) (q : Nat) : ∀ (P : List Nat), ∃ e : Int, ∀ F : List Nat → Int, exq r F (P ++ [q]) = exq r (fun Q => F (Q ++ [q])) P + (-1) ^ P.length * r q * F P
  | [] => ⟨0, fun F => by show r q * F [] - 0 = 0 + 1 * r q * F []; rw [Int.one_mul]; omega⟩
  | p :: P => by
    obtain ⟨_, h⟩ := exq_last r q P
    refine ⟨0, fun F => ?_⟩
    show r p * F (P ++ [q]) - exq r (fun Q => F (p :: Q)) (P ++ [q]) = (r p * F (P ++ [q]) - exq r (fun Q => F (p :: (Q ++ [q]))) P) + (-1) ^ (P.length + 1) * r q * F (p :: P)
    rw [h, Int.pow_succ]; grind
theorem exq_lat {S : Fn → Prop} (r : Fn) : ∀ (P : List Nat) (G : List Nat → Fn), (∀ Q, Lat S (G Q)) → Lat S fun c => exq r (fun Q => G Q c) P
  | [], _, _ => .zero
  | p :: P, G, h => by
    have ih := exq_lat r P (fun Q => G (p :: Q)) fun Q => h _
    refine (Lat.lin (r p) (-1) (h P) ih).of fun c => ?_
    show r p * G P c - exq r (fun Q => G (p :: Q) c) P = _
    omega
/-- expanded along the last row and place -/
theorem det_col (x : Fn) : ∀ (R : List Fn) (P : List Nat), Lat (fun y => y ∈ R) fun c => det (R ++ [x]) (P ++ [c]) - det R P * x c
  | [], [] => Lat.zero.of fun c => by show (x c * 1 - 0) - 1 * x c = 0; omega
  | [], p :: P => by
    refine Lat.zero.of fun c => ?_
    have h : ∀ (P : List Nat) (F : List Nat → Int), (∀ Q, F Q = det [] Q) → 2 ≤ P.length → exq x F P = 0 := fun P => by
      induction P with
      | nil => exact fun _ _ _ => rfl
      | cons p P ih =>
        intro F hF l
        show x p * F P - exq x (fun Q => F (p :: Q)) P = 0
        have z : exq x (fun Q => F (p :: Q)) P = 0 := by rw [exq_congr (G := fun _ => 0) fun Q _ _ => by rw [hF]; rfl, exq_zero]
        rw [z, hF]
        cases P with
        | nil => simp at l
        | cons q P => show x p * 0 - 0 = 0; omega
    show exq x (det []) (p :: P ++ [c]) - 0 * x c = 0
    rw [h _ _ (fun _ => rfl) (by simp)]; omega
  | r :: R, P => by
    have ih := det_col x R
    have up : ∀ {y : Fn}, Lat (fun y => y ∈ R) y → Lat (fun y => y ∈ r :: R) y := fun h => h.trans fun y hy => .mem (List.mem_cons_of_mem _ hy)
    have g := exq_lat (S := fun y => y ∈ r :: R) r P (fun Q c => det (R ++ [x]) (Q ++ [c]) - det R Q * x c) fun Q => up (ih Q)
    refine (Lat.lin 1 ((-1) ^ P.length * det (R ++ [x]) P) g (.mem (List.mem_cons_self ..))).of fun c => ?_
    show exq r (det (R ++ [x])) (P ++ [c]) - exq r (det R) P * x c = _
    obtain ⟨_, w⟩ := exq_last r c P
    rw [w]
    have e : exq r (fun Q => det (R ++ [x]) (Q ++ [c]) - det R Q * x c) P = exq r (fun Q => det (R ++ [x]) (Q ++ [c])) P - exq r (det R) P * x c := by
      rw [exq_congr (G := fun Q => 1 * det (R ++ [x]) (Q ++ [c]) + (-(x c)) * det R Q) fun Q _ _ => by grind, exq_lin]
      have : exq r (fun Q => det R Q) P = exq r (det R) P := rfl
      rw [this]; grind
    rw [e]; grind
end AL
set_option Elab.async false
set_option linter.all false
set_option maxRecDepth 100000
/-! rank by whole steps with exact quotients -/
namespace AL
abbrev vR (F : List Rw) : List Fn := F.map vl
theorem inR_mem {F : List Rw} {x : Fn} : (x ∈ vR F) ↔ inR F x := by
  unfold inR
  rw [List.mem_map]
  exact ⟨fun ⟨f, h, e⟩ => ⟨f, h, e.symm⟩, fun ⟨f, h, e⟩ => ⟨f, h, e.symm⟩⟩
theorem spn_in {F : List Rw} {x : Fn} : Spn (fun y => y ∈ vR F) x ↔ Spn (inR F) x :=
  ⟨fun h => h.trans fun _ hy => .mem (inR_mem.mp hy), fun h => h.trans fun _ hy => .mem (inR_mem.mpr hy)⟩
/-- so many rows are independent, and all others hang on them -/
structure RankIs (rows : List Rw) (s : Nat) : Prop where
  ex : ∃ (B : List Rw) (P : List Nat), B.length = s ∧ P.length = s ∧ (∀ b ∈ B, Spn (inR rows) (vl b)) ∧ det (vR B) P ≠ 0 ∧ ∀ r ∈ rows, Spn (inR B) (vl r)
/-- a minor that is not 0 says how many generators there are at least -/
theorem minor_le {F B : List Rw} {P : List Nat} (h : ∀ b ∈ B, Spn (inR F) (vl b)) (d : det (vR B) P ≠ 0) : B.length ≤ F.length := by
  refine Classical.byContradiction fun c => d ?_
  refine det_many (F := vR F) (X := vR B) (G := []) P (fun g hg => nomatch hg) (fun x hx => ?_) (by simp; omega)
  obtain ⟨b, hb, rfl⟩ := List.mem_map.mp hx
  exact spn_in.mpr (h b hb)
theorem RankIs.le {rows F : List Rw} {s : Nat} (h : RankIs rows s) (k : ∀ r ∈ rows, Spn (inR F) (vl r)) : s ≤ F.length := by
  obtain ⟨B, P, l, _, h1, h2, _⟩ := h.ex
  rw [← l]
  refine minor_le (fun b hb => ?_) h2
  refine (h1 b hb).trans ?_
  rintro y ⟨r, hr, rfl⟩
  exact k r hr
theorem RankIs.le_of {rows more : List Rw} {s t : Nat} (h : RankIs rows s) (h' : RankIs more t) (k : ∀ r ∈ rows, Spn (inR more) (vl r)) : s ≤ t := by
  obtain ⟨B', P', l', _, _, _, h3'⟩ := h'.ex
  rw [← l']
  refine h.le fun r hr => (k r hr).trans ?_
  rintro y ⟨q, hq, rfl⟩
  exact h3' q hq
/-- the same rank: the smaller span is the whole one -/
theorem RankIs.all {rows more : List Rw} {s : Nat} (h : RankIs rows s) (h' : RankIs more s) (k : ∀ r ∈ rows, Spn (inR more) (vl r)) : ∀ r ∈ more, Spn (inR rows) (vl r) := by
  obtain ⟨B, P, l, lP, h1, h2, _⟩ := h.ex
  obtain ⟨B', P', l', _, h1', _, h3'⟩ := h'.ex
  intro r hr
  -- the minor of B and r at P and any place is 0
  have z : ∀ q, det (vR B ++ [vl r]) (P ++ [q]) = 0 := fun q => by
    refine det_many (F := vR B') (X := vR B ++ [vl r]) (G := []) (P ++ [q]) (fun g hg => nomatch hg) (fun x hx => ?_) (by simp; omega)
    rcases List.mem_append.mp hx with hx | hx
    · obtain ⟨b, hb, rfl⟩ := List.mem_map.mp hx
      refine spn_in.mpr (((h1 b hb).trans ?_))
      rintro y ⟨q, hq, rfl⟩
      refine (k q hq).trans ?_
      rintro y ⟨q, hq, rfl⟩
      exact h3' q hq
    · rw [List.mem_singleton.mp hx]
      exact spn_in.mpr (h3' r hr)
  -- expanded along the last row: d r is a sum of the rows of B
  have c := (det_col (vl r) (vR B) P).spn
  refine Spn.trans (S := inR B) (Spn.div (s := -det (vR B) P) (by omega) ((spn_in.mp c).of fun q => ?_)) ?_
  · rw [z q]; grind
  · rintro y ⟨b, hb, rfl⟩
    exact h1 b hb

/-! ### the whole steps of the rank -/
/-- behind s pivots, ahead of the column k: d is the last pivot -/
structure Bar (W s k : Nat) (rows left : List Rw) (d : Int) (R : List Rw) (P : List Nat) : Prop where
  pm : R.Perm rows
  ll : left.length = R.length
  lw : ∀ r ∈ left, r.length = W
  sn : s ≤ R.length
  lP : P.length = s
  Pk : ∀ p ∈ P, p < k
  dd : d = det (vR (R.take s)) P
  d0 : d ≠ 0
  sp : ∀ j, s ≤ j → j < R.length → Spn (inR (R.take s)) fun c => vl (left.getD j []) c - d * vl (R.getD j []) c
  z : ∀ j, s ≤ j → j < R.length → ∀ c, c < k → vl (left.getD j []) c = 0
theorem bar_start {W : Nat} {rows : List Rw} (h : ∀ r ∈ rows, r.length = W) : Bar W 0 0 rows rows 1 rows [] :=
  ⟨.refl _, rfl, h, Nat.zero_le _, rfl, (fun p hp => nomatch hp), rfl, by decide, fun j _ _ => Spn.zero.of fun c => by omega, fun j _ _ c hc => by omega⟩
theorem bar_skip {W s k : Nat} {rows left R : List Rw} {d : Int} {P : List Nat} (b : Bar W s k rows left d R P) (h : ∀ j, s ≤ j → j < R.length → vl (left.getD j []) k = 0) : Bar W s (k + 1) rows left d R P :=
  ⟨b.pm, b.ll, b.lw, b.sn, b.lP, fun p hp => Nat.lt_succ_of_lt (b.Pk p hp), b.dd, b.d0, b.sp, fun j h1 h2 c hc => by
    rcases Nat.lt_or_eq_of_le (Nat.le_of_lt_succ hc) with w | w
    · exact b.z j h1 h2 c w
    · rw [w]; exact h j h1 h2⟩
/-- what stands there are minors -/
theorem bar_minor {W s k : Nat} {rows left R : List Rw} {d : Int} {P : List Nat} (b : Bar W s k rows left d R P) {j : Nat} (h1 : s ≤ j) (h2 : j < R.length) (c : Nat) : vl (left.getD j []) c = det (vR (R.take s) ++ [vl (R.getD j [])]) (P ++ [c]) := by
  have lT : (vR (R.take s)).length = s := by rw [List.length_map, List.length_take, Nat.min_eq_left b.sn]
  have e1 := det_block (R := vR (R.take s)) (x := vl (left.getD j [])) (P := P) (q := c) (fun p hp => b.z j h1 h2 p (b.Pk p hp)) (by rw [b.lP, lT])
  rw [← b.dd] at e1
  have e2 : det (vR (R.take s) ++ [fun c => 1 * (vl (left.getD j []) c - d * vl (R.getD j []) c) + d * vl (R.getD j []) c]) (P ++ [c]) = 1 * 0 + d * det (vR (R.take s) ++ [vl (R.getD j [])]) (P ++ [c]) := by
    rw [det_lin (fun c => vl (left.getD j []) c - d * vl (R.getD j []) c) (vl (R.getD j [])) 1 d [] (vR (R.take s)) (P ++ [c])]
    congr 2
    refine Spn.clo (det_cls (vR (R.take s)) [] (P ++ [c])) (b.sp j h1 h2) ?_
    rintro y ⟨f, hf, rfl⟩
    exact det_dup (fun n => by
      have := (List.nodup_append.mp n).2.2 (vl f) (List.mem_map.mpr ⟨f, hf, rfl⟩) (vl f) (List.mem_singleton.mpr rfl)
      exact this rfl) _
  rw [show (fun c => 1 * (vl (left.getD j []) c - d * vl (R.getD j []) c) + d * vl (R.getD j []) c) = vl (left.getD j []) from funext fun c => by omega, e1] at e2
  exact Int.eq_of_mul_eq_mul_left b.d0 (by omega)
theorem take_swap {α : Type} {R : List α} {s f : Nat} (hs : s < R.length) (hf : s ≤ f) (hl : f < R.length) : ((R.set s R[f]).set f R[s]).take s = R.take s := by
  refine List.ext_getElem (by simp) fun j h1 h2 => ?_
  have : j < s := by simp at h1; omega
  rw [List.getElem_take, List.getElem_take, List.getElem_set, List.getElem_set, if_neg (by omega), if_neg (by omega)]
theorem getD_swap {R : List Rw} {s f j : Nat} (hs : s < R.length) (hl : f < R.length) (hj : j < R.length) : ((R.set s R[f]).set f R[s]).getD j [] = R.getD (if j = f then s else if j = s then f else j) [] := by
  rw [List.getD_eq_getElem?_getD, List.getD_eq_getElem?_getD]
  by_cases e1 : j = f
  · subst e1
    rw [if_pos rfl, List.getElem?_set_self (by rw [List.length_set]; omega), List.getElem?_eq_getElem hs]
  · rw [if_neg e1, List.getElem?_set_ne (fun z => e1 z.symm)]
    by_cases e2 : j = s
    · subst e2
      rw [if_pos rfl, List.getElem?_set_self (by omega), List.getElem?_eq_getElem hl]
    · rw [if_neg e2, List.getElem?_set_ne (fun z => e2 z.symm)]
/-- two rows behind change their places -/
theorem bar_swap {W s k : Nat} {rows left R : List Rw} {d : Int} {P : List Nat} (b : Bar W s k rows left d R P) {f : Nat} (hs : s < left.length) (hf : s ≤ f) (hl : f < left.length) : ∃ R', Bar W s k rows ((left.set s left[f]).set f left[s]) d R' P ∧ R'.length = R.length := by
  have ll := b.ll
  have hs' : s < R.length := by omega
  have hl' : f < R.length := by omega
  refine ⟨(R.set s R[f]).set f R[s], ⟨(List.set_set_perm hs' hl').trans b.pm, by simp [ll], fun r hr => ?_, by simp; omega, b.lP, b.Pk, ?_, b.d0, fun j h1 h2 => ?_, fun j h1 h2 c hc => ?_⟩, by simp⟩
  · exact b.lw r ((List.set_set_perm hs hl).mem_iff.mp hr)
  · rw [take_swap hs' hf hl']; exact b.dd
  · rw [List.length_set, List.length_set] at h2
    rw [take_swap hs' hf hl', getD_swap hs hl (by omega), getD_swap hs' hl' h2]
    refine b.sp _ ?_ ?_ <;> split <;> (try split) <;> omega
  · rw [List.length_set, List.length_set] at h2
    rw [getD_swap hs hl (by omega)]
    refine b.z _ ?_ ?_ c hc <;> split <;> (try split) <;> omega
/-- one row behind the lead, less what the lead takes of it -/
def barR (lead r : Rw) (k : Nat) (d : Int) : Rw := List.zipWith (fun one two => (one * vl lead k - two * vl r k).fdiv d) r lead
theorem take_getD {R : List Rw} {s : Nat} (h : s < R.length) : R.take (s + 1) = R.take s ++ [R.getD s []] := by
  rw [List.take_add_one, List.getD_eq_getElem?_getD, List.getElem?_eq_getElem h]; rfl
theorem barR_len {lead r : Rw} {k : Nat} {d : Int} (h : r.length = lead.length) : (barR lead r k d).length = r.length := by unfold barR; rw [List.length_zipWith, h, Nat.min_self]
theorem bar_exact {W s k : Nat} {rows left R : List Rw} {d : Int} {P : List Nat} (b : Bar W s k rows left d R P) (hs : s < R.length) (hk : vl (left.getD s []) k ≠ 0) {j : Nat} (h1 : s < j) (h2 : j < R.length) :
    ∀ c, d * vl (barR (left.getD s []) (left.getD j []) k d) c = vl (left.getD j []) c * vl (left.getD s []) k - vl (left.getD s []) c * vl (left.getD j []) k := by
  have lT : (vR (R.take s)).length = s := by rw [List.length_map, List.length_take, Nat.min_eq_left b.sn]
  have lS : (vR (R.take (s + 1))).length = s + 1 := by rw [List.length_map, List.length_take]; omega
  have dS : det (vR (R.take (s + 1))) (P ++ [k]) = vl (left.getD s []) k := by
    rw [bar_minor b (Nat.le_refl s) hs k, take_getD hs]
    unfold vR
    rw [List.map_append]; rfl
  have lw : ∀ i, i < R.length → (left.getD i []).length = W := fun i hi => by
    have ll := b.ll
    rw [List.getD_eq_getElem?_getD, List.getElem?_eq_getElem (by omega)]
    exact b.lw _ (List.getElem_mem _)
  intro c
  -- the vector y, 0 at the old places and at k
  have yz : ∀ p ∈ P ++ [k], vl (left.getD j []) p * vl (left.getD s []) k - vl (left.getD s []) p * vl (left.getD j []) k = 0 := fun p hp => by
    rcases List.mem_append.mp hp with h | h
    · rw [b.z j (by omega) h2 p (b.Pk p h), b.z s (Nat.le_refl _) hs p (b.Pk p h)]; simp
    · rw [List.mem_singleton.mp h]; grind
  have e1 := det_block (R := vR (R.take (s + 1))) (x := fun c => vl (left.getD j []) c * vl (left.getD s []) k - vl (left.getD s []) c * vl (left.getD j []) k) (P := P ++ [k]) (q := c) yz (by rw [lS, List.length_append, b.lP]; rfl)
  rw [dS] at e1
  have up : ∀ {x : Fn}, Spn (inR (R.take s)) x → Spn (inR (R.take (s + 1))) x := fun h => h.trans fun y ⟨f, hf, e⟩ => .mem ⟨f, by rw [take_getD hs]; exact List.mem_append_left _ hf, e⟩
  have ms : Spn (inR (R.take (s + 1))) (vl (R.getD s [])) := .mem ⟨_, by rw [take_getD hs]; exact List.mem_append_right _ (List.mem_singleton.mpr rfl), rfl⟩
  have leadS : Spn (inR (R.take (s + 1))) (vl (left.getD s [])) := (Spn.lin 1 d (up (b.sp s (Nat.le_refl _) hs)) ms).of fun c => by omega
  have rest : Spn (inR (R.take (s + 1))) fun c => vl (left.getD s []) k * (vl (left.getD j []) c - d * vl (R.getD j []) c) + (-(vl (left.getD j []) k)) * vl (left.getD s []) c := .lin _ _ (up (b.sp j (by omega) h2)) leadS
  have e2 : det (vR (R.take (s + 1)) ++ [fun c => 1 * (vl (left.getD s []) k * (vl (left.getD j []) c - d * vl (R.getD j []) c) + (-(vl (left.getD j []) k)) * vl (left.getD s []) c) + (d * vl (left.getD s []) k) * vl (R.getD j []) c]) (P ++ [k] ++ [c]) = 1 * 0 + (d * vl (left.getD s []) k) * det (vR (R.take (s + 1)) ++ [vl (R.getD j [])]) (P ++ [k] ++ [c]) := by
    rw [det_lin (fun c => vl (left.getD s []) k * (vl (left.getD j []) c - d * vl (R.getD j []) c) + (-(vl (left.getD j []) k)) * vl (left.getD s []) c) (vl (R.getD j [])) 1 (d * vl (left.getD s []) k) [] (vR (R.take (s + 1))) (P ++ [k] ++ [c])]
    congr 2
    refine Spn.clo (det_cls (vR (R.take (s + 1))) [] (P ++ [k] ++ [c])) rest ?_
    rintro y ⟨f, hf, rfl⟩
    exact det_dup (fun n => by
      have := (List.nodup_append.mp n).2.2 (vl f) (List.mem_map.mpr ⟨f, hf, rfl⟩) (vl f) (List.mem_singleton.mpr rfl)
      exact this rfl) _
  rw [show (fun c => 1 * (vl (left.getD s []) k * (vl (left.getD j []) c - d * vl (R.getD j []) c) + (-(vl (left.getD j []) k)) * vl (left.getD s []) c) + (d * vl (left.getD s []) k) * vl (R.getD j []) c) = fun c => vl (left.getD j []) c * vl (left.getD s []) k - vl (left.getD s []) c * vl (left.getD j []) k from funext fun c => by grind, e1] at e2
  have dv : vl (left.getD j []) c * vl (left.getD s []) k - vl (left.getD s []) c * vl (left.getD j []) k = d * det (vR (R.take (s + 1)) ++ [vl (R.getD j [])]) (P ++ [k] ++ [c]) := by
    refine Int.eq_of_mul_eq_mul_left hk ?_
    rw [e2]; grind
  have l1 := lw j h2
  have l2 := lw s hs
  by_cases hc : c < W
  · have e : vl (barR (left.getD s []) (left.getD j []) k d) c = (vl (left.getD j []) c * vl (left.getD s []) k - vl (left.getD s []) c * vl (left.getD j []) k).fdiv d := vl_get (by
      unfold barR
      rw [List.getElem?_zipWith, vl_at (by omega), vl_at (by omega)])
    rw [e, fdiv_ex b.d0 ⟨_, dv⟩]
  · rw [vl_out (by rw [barR_len (by omega)]; omega), vl_out (by omega : (left.getD j []).length ≤ c), vl_out (by omega : (left.getD s []).length ≤ c)]
    simp
theorem bar_step {W s k : Nat} {rows left left' R : List Rw} {d : Int} {P : List Nat} (b : Bar W s k rows left d R P) (hs : s < R.length) (hk : vl (left.getD s []) k ≠ 0) (ll : left'.length = R.length) (h' : ∀ j, j < R.length → left'.getD j [] = if s < j then barR (left.getD s []) (left.getD j []) k d else left.getD j []) : Bar W (s + 1) (k + 1) rows left' (vl (left.getD s []) k) R (P ++ [k]) := by
  have lb := b.ll
  have lw : ∀ i, i < R.length → (left.getD i []).length = W := fun i hi => by
    rw [List.getD_eq_getElem?_getD, List.getElem?_eq_getElem (by omega)]
    exact b.lw _ (List.getElem_mem _)
  have ex := fun {j : Nat} (h1 : s < j) (h2 : j < R.length) => bar_exact b hs hk h1 h2
  refine ⟨b.pm, ll, fun r hr => ?_, hs, by rw [List.length_append, b.lP]; rfl, fun p hp => ?_, ?_, hk, fun j h1 h2 => ?_, fun j h1 h2 c hc => ?_⟩
  · obtain ⟨j, hj⟩ := List.mem_iff_getElem?.mp hr
    have jl := (List.getElem?_eq_some_iff.mp hj).1
    have e := h' j (by omega)
    rw [List.getD_eq_getElem?_getD, hj] at e
    have e' : r = if s < j then barR (left.getD s []) (left.getD j []) k d else left.getD j [] := e
    rw [e']
    split
    · rw [barR_len (by rw [lw j (by omega), lw s hs])]; exact lw j (by omega)
    · exact lw j (by omega)
  · rcases List.mem_append.mp hp with h | h
    · exact Nat.lt_succ_of_lt (b.Pk p h)
    · rw [List.mem_singleton.mp h]; exact Nat.lt_succ_self _
  · rw [bar_minor b (Nat.le_refl s) hs k, take_getD hs]
    unfold vR
    rw [List.map_append]; rfl
  · rw [h' j h2, if_pos (by omega)]
    have up : ∀ {x : Fn}, Spn (inR (R.take s)) x → Spn (inR (R.take (s + 1))) x := fun h => h.trans fun y ⟨f, hf, e⟩ => .mem ⟨f, by rw [take_getD hs]; exact List.mem_append_left _ hf, e⟩
    have ms : Spn (inR (R.take (s + 1))) (vl (R.getD s [])) := .mem ⟨_, by rw [take_getD hs]; exact List.mem_append_right _ (List.mem_singleton.mpr rfl), rfl⟩
    have leadS : Spn (inR (R.take (s + 1))) (vl (left.getD s [])) := (Spn.lin 1 d (up (b.sp s (Nat.le_refl _) hs)) ms).of fun c => by omega
    refine Spn.div b.d0 ((Spn.lin (vl (left.getD s []) k) (-(vl (left.getD j []) k)) (up (b.sp j (by omega) h2)) leadS).of fun c => ?_)
    have e := ex (by omega : s < j) h2 c
    grind
  · rw [h' j h2, if_pos (by omega)]
    have e := ex (by omega : s < j) h2 c
    have : vl (left.getD j []) c * vl (left.getD s []) k - vl (left.getD s []) c * vl (left.getD j []) k = 0 := by
      rcases Nat.lt_or_eq_of_le (Nat.le_of_lt_succ hc) with w | w
      · rw [b.z j (by omega) h2 c w, b.z s (Nat.le_refl _) hs c w]; simp
      · rw [w]; grind
    rw [this] at e
    exact (Int.mul_eq_zero.mp e).resolve_left b.d0
theorem bar_end {W s k : Nat} {rows left R : List Rw} {d : Int} {P : List Nat} (b : Bar W s k rows left d R P) (h : W ≤ k ∨ s = R.length) : RankIs rows s := by
  refine ⟨R.take s, P, by rw [List.length_take, Nat.min_eq_left b.sn], b.lP, fun x hx => .mem ⟨x, b.pm.mem_iff.mp (List.mem_of_mem_take hx), rfl⟩, by rw [← b.dd]; exact b.d0, fun r hr => ?_⟩
  obtain ⟨j, hj⟩ := List.mem_iff_getElem?.mp (b.pm.mem_iff.mpr hr)
  have jl := (List.getElem?_eq_some_iff.mp hj).1
  by_cases c : j < s
  · exact .mem ⟨r, List.mem_of_getElem? (by rw [List.getElem?_take, if_pos c]; exact hj), rfl⟩
  · rcases h with h | h
    · have e : R.getD j [] = r := by rw [List.getD_eq_getElem?_getD, hj]; rfl
      have sp := b.sp j (by omega) jl
      rw [e] at sp
      refine Spn.div (s := -d) (by have := b.d0; omega) (sp.of fun q => ?_)
      have z : vl (left.getD j []) q = 0 := by
        by_cases hq : q < k
        · exact b.z j (by omega) jl q hq
        · have lw : (left.getD j []).length = W := by
            have ll := b.ll
            rw [List.getD_eq_getElem?_getD, List.getElem?_eq_getElem (by omega)]
            exact b.lw _ (List.getElem_mem _)
          exact vl_out (by omega)
      rw [z]; grind
    · omega
/-- the bound of what stands there -/
theorem bar_bd {W s k B : Nat} {rows left R : List Rw} {d : Int} {P : List Nat} (b : Bar W s k rows left d R P) (hB : ∀ r ∈ rows, ∀ v ∈ r, v.natAbs ≤ B) {j : Nat} (h1 : s ≤ j) (h2 : j < R.length) (c : Nat) : (vl (left.getD j []) c).natAbs ≤ facB B (s + 1) := by
  rw [bar_minor b h1 h2 c]
  have vb : ∀ r ∈ R, ∀ p, (vl r p).natAbs ≤ B := fun r hr p => by
    by_cases d : p < r.length
    · exact hB r (b.pm.mem_iff.mp hr) _ (vl_mem d)
    · rw [vl_out (by omega)]; exact Nat.zero_le _
  have w := det_bd (B := B) (R := vR (R.take s) ++ [vl (R.getD j [])]) (P := P ++ [c]) fun x hx p _ => by
    rcases List.mem_append.mp hx with hx | hx
    · obtain ⟨r, hr, rfl⟩ := List.mem_map.mp hx
      exact vb r (List.mem_of_mem_take hr) p
    · rw [List.mem_singleton.mp hx]
      refine vb _ ?_ p
      rw [List.getD_eq_getElem?_getD, List.getElem?_eq_getElem h2]
      exact List.getElem_mem _
  rw [List.length_append, List.length_map, List.length_take, Nat.min_eq_left b.sn] at w
  exact w
end AL
set_option Elab.async false
set_option linter.all false
set_option maxRecDepth 100000
/-! rows with rising pivots, Hermite's form: lattices and sizes -/
namespace AL
/-! ### places that change, or stand twice -/
theorem exq_csw (r : Fn) (p q : Nat) (B : List Nat) : ∀ (A : List Nat) (F : List Nat → Int), (∀ A' B', F (A' ++ p :: q :: B') = - F (A' ++ q :: p :: B')) → exq r F (A ++ p :: q :: B) = - exq r F (A ++ q :: p :: B)
  | [], F, h => by
    have e : exq r (fun Q => F (p :: q :: Q)) B = - exq r (fun Q => F (q :: p :: Q)) B := by
      rw [exq_congr (G := fun Q => (-1) * F (q :: p :: Q) + 0 * F (q :: p :: Q)) fun Q _ _ => by have := h [] Q; simp only [List.nil_append] at this; rw [this]; omega, exq_lin]; omega
    show r p * F (q :: B) - (r q * F (p :: B) - exq r (fun Q => F (p :: q :: Q)) B) = -(r q * F (p :: B) - (r p * F (q :: B) - exq r (fun Q => F (q :: p :: Q)) B))
    rw [e]; omega
  | a :: A, F, h => by
    have ih := exq_csw r p q B A (fun Q => F (a :: Q)) fun A' B' => h (a :: A') B'
    show r a * F (A ++ p :: q :: B) - exq r (fun Q => F (a :: Q)) (A ++ p :: q :: B) = -(r a * F (A ++ q :: p :: B) - exq r (fun Q => F (a :: Q)) (A ++ q :: p :: B))
    rw [ih, h A B]; grind
theorem det_csw (p q : Nat) : ∀ (R : List Fn) (A B : List Nat), det R (A ++ p :: q :: B) = - det R (A ++ q :: p :: B)
  | [], [], _ => rfl
  | [], _ :: _, _ => rfl
  | r :: R, A, B => exq_csw r p q B A (det R) fun A' B' => det_csw p q R A' B'
theorem det_ctwo (R : List Fn) (c : Nat) (C : List Nat) : ∀ (B A : List Nat), det R (A ++ c :: (B ++ c :: C)) = 0
  | [], A => by
    have h := det_csw c c R A C
    show det R (A ++ c :: c :: C) = 0
    omega
  | b :: B, A => by
    have h := det_csw c b R A (B ++ c :: C)
    have ih := det_ctwo R c C B (A ++ [b])
    rw [List.append_assoc] at ih
    show det R (A ++ c :: b :: (B ++ c :: C)) = 0
    rw [h]
    have : det R (A ++ b :: c :: (B ++ c :: C)) = 0 := ih
    omega
theorem exq_at {S : Fn → Prop} {r : Fn} (hr : S r) (P2 : List Nat) : ∀ (P1 : List Nat) (F : List Nat → Int), (∀ A B, Lat S fun c => F (A ++ c :: B)) → Lat S fun c => exq r F (P1 ++ c :: P2)
  | [], F, h => by
    have g := exq_lat (S := S) r P2 (fun Q c => F (c :: Q)) fun Q => h [] Q
    refine (Lat.lin (F P2) (-1) (.mem hr) g).of fun c => ?_
    show r c * F P2 - exq r (fun Q => F (c :: Q)) P2 = _
    grind
  | p :: P1, F, h => by
    have ih := exq_at hr P2 P1 (fun Q => F (p :: Q)) fun A B => h (p :: A) B
    refine (Lat.lin (r p) (-1) (h P1 P2) ih).of fun c => ?_
    show r p * F (P1 ++ c :: P2) - exq r (fun Q => F (p :: Q)) (P1 ++ c :: P2) = _
    omega
theorem det_at : ∀ (R : List Fn) (P1 P2 : List Nat), Lat (fun y => y ∈ R) fun c => det R (P1 ++ c :: P2)
  | [], [], _ => Lat.zero.of fun _ => rfl
  | [], _ :: _, _ => Lat.zero.of fun _ => rfl
  | r :: R, P1, P2 => exq_at (S := fun y => y ∈ r :: R) (List.mem_cons_self ..) P2 P1 (det R) fun A B => (det_at R A B).trans fun y hy => .mem (List.mem_cons_of_mem _ hy)
theorem exq_zcol {r : Fn} {p : Nat} (hr : r p = 0) : ∀ {P : List Nat} {F : List Nat → Int}, (∀ Q, p ∈ Q → F Q = 0) → p ∈ P → exq r F P = 0
  | [], _, _, h => nomatch h
  | q :: P, F, hF, h => by
    show r q * F P - exq r (fun Q => F (q :: Q)) P = 0
    by_cases c : p ∈ P
    · rw [hF P c, exq_zcol hr (P := P) (F := fun Q => F (q :: Q)) (fun Q k => hF _ (List.mem_cons_of_mem _ k)) c]; omega
    · have e : p = q := (List.mem_cons.mp h).resolve_right c
      subst e
      rw [hr, exq_congr (G := fun _ => 0) fun Q _ _ => hF _ (List.mem_cons_self ..), exq_zero]; omega
theorem det_zcol {p : Nat} : ∀ {R : List Fn} {P : List Nat}, (∀ r ∈ R, r p = 0) → p ∈ P → det R P = 0
  | [], _ :: _, _, _ => rfl
  | [], [], _, h => nomatch h
  | r :: R, P, h, hp => exq_zcol (h r (List.mem_cons_self ..)) (fun Q k => det_zcol (fun s hs => h s (List.mem_cons_of_mem _ hs)) k) hp
theorem facB_pos {B : Nat} (h : 1 ≤ B) : ∀ n, 1 ≤ facB B n
  | 0 => Nat.le_refl _
  | n + 1 => by
    have := facB_pos h n
    show 1 ≤ (n + 1) * (B * facB B n)
    exact Nat.mul_pos (by omega) (Nat.mul_pos h this)
theorem facB_step {B : Nat} (h : 1 ≤ B) (n : Nat) : facB B n ≤ facB B (n + 1) := by
  show facB B n ≤ (n + 1) * (B * facB B n)
  have h1 : 1 * facB B n ≤ B * facB B n := Nat.mul_le_mul_right _ h
  have h2 : 1 * (B * facB B n) ≤ (n + 1) * (B * facB B n) := Nat.mul_le_mul_right _ (by omega)
  omega
theorem facB_mono {B : Nat} (h : 1 ≤ B) {m n : Nat} (l : m ≤ n) : facB B m ≤ facB B n := by
  induction l with
  | refl => exact Nat.le_refl _
  | step _ ih => exact Nat.le_trans ih (facB_step h _)
/-! ### rising pivots -/
structure Ech (W : Nat) (F : List Rw) : Prop where
  len : ∀ f ∈ F, f.length = W
  nz : ∀ f ∈ F, vl f (piv f) ≠ 0
  asc : F.Pairwise fun f h => piv f < piv h
theorem Ech.tail {W : Nat} {f : Rw} {F : List Rw} (h : Ech W (f :: F)) : Ech W F := ⟨fun g hg => h.len g (List.mem_cons_of_mem _ hg), fun g hg => h.nz g (List.mem_cons_of_mem _ hg), (List.pairwise_cons.mp h.asc).2⟩
theorem ahead_zero {f : Rw} (h : vl f (piv f) ≠ 0) : ∀ j, j < piv f → vl f j = 0 := (piv_spec (not_allZ h)).2.2
theorem Ech.head {W : Nat} {f : Rw} {F : List Rw} (h : Ech W (f :: F)) : ∀ g ∈ F, ∀ j, j ≤ piv f → vl g j = 0 := fun g hg j hj => by
  have := (List.pairwise_cons.mp h.asc).1 g hg
  exact ahead_zero (h.nz g (List.mem_cons_of_mem _ hg)) j (by omega)
theorem lat_cons {f : Rw} {F : List Rw} {x : Fn} (h : Lat (inR (f :: F)) x) : ∃ a y, Lat (inR F) y ∧ ∀ j, x j = a * vl f j + y j := by
  induction h with
  | @mem x h =>
    obtain ⟨g, hg, rfl⟩ := h
    rcases List.mem_cons.mp hg with rfl | hg
    · exact ⟨1, fun _ => 0, .zero, fun j => by simp⟩
    · exact ⟨0, vl g, .mem ⟨g, hg, rfl⟩, fun j => by omega⟩
  | zero => exact ⟨0, fun _ => 0, .zero, fun j => by simp⟩
  | lin m t _ _ i1 i2 =>
    obtain ⟨a, y, hy, ea⟩ := i1
    obtain ⟨b, z, hz, eb⟩ := i2
    exact ⟨m * a + t * b, _, .lin m t hy hz, fun j => by dsimp only; rw [ea, eb]; grind⟩
theorem spn_cons {f : Rw} {F : List Rw} {x : Fn} (h : Spn (inR (f :: F)) x) : ∃ m a y, m ≠ 0 ∧ Spn (inR F) y ∧ ∀ j, m * x j = a * vl f j + y j := by
  refine Spn.clo (R := fun x => ∃ m a y, m ≠ 0 ∧ Spn (inR F) y ∧ ∀ j, m * x j = a * vl f j + y j) ⟨?_, ?_, ?_⟩ h ?_
  · exact ⟨1, 0, fun _ => 0, by decide, .zero, fun j => by simp⟩
  · rintro x y p q ⟨m, a, u, m0, hu, ea⟩ ⟨n, b, v, n0, hv, eb⟩
    exact ⟨m * n, (p * n) * a + (q * m) * b, _, Int.mul_ne_zero m0 n0, .lin (p * n) (q * m) hu hv, fun j => by
      have h1 := ea j
      have h2 := eb j
      dsimp only
      have e : m * n * (p * x j + q * y j) = (p * n) * (m * x j) + (q * m) * (n * y j) := by grind
      rw [e, h1, h2]; grind⟩
  · rintro x s s0 ⟨m, a, u, m0, hu, ea⟩
    exact ⟨m * s, a, u, Int.mul_ne_zero m0 s0, hu, fun j => by rw [← ea j, Int.mul_assoc]⟩
  · rintro y ⟨g, hg, rfl⟩
    rcases List.mem_cons.mp hg with rfl | hg
    · exact ⟨1, 1, fun _ => 0, by decide, .zero, fun j => by simp⟩
    · exact ⟨1, 0, vl g, by decide, .mem ⟨g, hg, rfl⟩, fun j => by omega⟩
/-- a pivot divides what is 0 at the pivots ahead -/
theorem ech_dvd {W : Nat} : ∀ {F : List Rw} {x : Fn}, Ech W F → Lat (inR F) x → ∀ {f : Rw}, f ∈ F → (∀ g ∈ F, piv g < piv f → x (piv g) = 0) → vl f (piv f) ∣ x (piv f)
  | [], _, _, _, _, h, _ => nomatch h
  | e :: F, x, E, h, f, hf, z => by
    obtain ⟨a, y, hy, ex⟩ := lat_cons h
    have y0 : ∀ j, j ≤ piv e → y j = 0 := fun j hj => by
      have : ∀ y, Lat (inR F) y → y j = 0 := fun y h => by
        induction h with
        | mem h => obtain ⟨g, hg, rfl⟩ := h; exact E.head g hg j hj
        | zero => rfl
        | lin m t _ _ i1 i2 => dsimp only; rw [i1, i2]; omega
      exact this y hy
    rcases List.mem_cons.mp hf with rfl | hf
    · rw [ex, y0 _ (Nat.le_refl _), Int.add_zero]
      exact ⟨a, Int.mul_comm ..⟩
    · have lt := (List.pairwise_cons.mp E.asc).1 f hf
      have xe := z e (List.mem_cons_self ..) lt
      rw [ex, y0 _ (Nat.le_refl _), Int.add_zero] at xe
      have a0 := (Int.mul_eq_zero.mp xe).resolve_right (E.nz e (List.mem_cons_self ..))
      have xy : ∀ j, x j = y j := fun j => by rw [ex, a0]; omega
      rw [xy]
      exact ech_dvd E.tail hy hf fun g hg hl => by rw [← xy]; exact z g (List.mem_cons_of_mem _ hg) hl
theorem spn_z {W : Nat} {e : Rw} {F : List Rw} (E : Ech W (e :: F)) {y : Fn} (h : Spn (inR F) y) {j : Nat} (hj : j ≤ piv e) : y j = 0 := by
  refine Spn.clo (R := fun y => y j = 0) ⟨rfl, fun {x y} m t hx hy => by dsimp only; rw [hx, hy]; omega, fun {x s} s0 h => (Int.mul_eq_zero.mp h).resolve_left s0⟩ h ?_
  rintro y ⟨g, hg, rfl⟩
  exact E.head g hg j hj
/-- the first item of what hangs stands at a pivot -/
theorem ech_lead {W : Nat} : ∀ {F : List Rw} {x : Fn}, Ech W F → Spn (inR F) x → ∀ {p : Nat}, x p ≠ 0 → (∀ j, j < p → x j = 0) → ∃ f ∈ F, piv f = p
  | [], x, _, h, p, hp, _ => by
    have : x p = 0 := Spn.clo (R := fun y => y p = 0) ⟨rfl, fun {x y} m t hx hy => by dsimp only; rw [hx, hy]; omega, fun {x s} s0 h => (Int.mul_eq_zero.mp h).resolve_left s0⟩ h (by rintro y ⟨g, hg, _⟩; exact nomatch hg)
    exact absurd this hp
  | e :: F, x, E, h, p, hp, z => by
    obtain ⟨m, a, y, m0, hy, ex⟩ := spn_cons h
    have en := E.nz e (List.mem_cons_self ..)
    by_cases a0 : a = 0
    · have xy : ∀ j, m * x j = y j := fun j => by rw [ex, a0]; omega
      obtain ⟨f, hf, pf⟩ := ech_lead E.tail hy (p := p) (by rw [← xy]; exact Int.mul_ne_zero m0 hp) fun j hj => by rw [← xy, z j hj, Int.mul_zero]
      exact ⟨f, List.mem_cons_of_mem _ hf, pf⟩
    · refine ⟨e, List.mem_cons_self .., ?_⟩
      have xe : x (piv e) ≠ 0 := fun w => by
        have := ex (piv e)
        rw [w, spn_z E hy (Nat.le_refl _), Int.mul_zero, Int.add_zero] at this
        exact (Int.mul_ne_zero a0 en) this.symm
      rcases Nat.lt_trichotomy (piv e) p with w | w | w
      · exact absurd (z _ w) xe
      · exact w
      · have := ex p
        rw [spn_z E hy (by omega), ahead_zero en p w, Int.mul_zero, Int.add_zero] at this
        exact absurd this (Int.mul_ne_zero m0 hp)
theorem first_nz {x : Fn} (h : ∃ j, x j ≠ 0) : ∃ p, x p ≠ 0 ∧ ∀ i, i < p → x i = 0 := by
  obtain ⟨j, c⟩ := h
  have go : ∀ n, (∃ i, i ≤ n ∧ x i ≠ 0) → ∃ p, x p ≠ 0 ∧ ∀ i, i < p → x i = 0 := fun n => by
    induction n with
    | zero => rintro ⟨i, hi, h⟩; exact ⟨i, h, fun k hk => by omega⟩
    | succ n ih =>
      rintro ⟨i, hi, h⟩
      by_cases w : ∃ i, i ≤ n ∧ x i ≠ 0
      · exact ih w
      · exact ⟨i, h, fun k hk => Classical.byContradiction fun z => w ⟨k, by omega, z⟩⟩
  exact go j ⟨j, Nat.le_refl _, c⟩
theorem ech_zero {W : Nat} {F : List Rw} (E : Ech W F) {x : Fn} (h : Spn (inR F) x) (z : ∀ f ∈ F, x (piv f) = 0) (j : Nat) : x j = 0 := by
  refine Classical.byContradiction fun c => ?_
  have : ∃ p, x p ≠ 0 ∧ ∀ i, i < p → x i = 0 := by
    have go : ∀ n, (∃ i, i ≤ n ∧ x i ≠ 0) → ∃ p, x p ≠ 0 ∧ ∀ i, i < p → x i = 0 := fun n => by
      induction n with
      | zero => rintro ⟨i, hi, h⟩; exact ⟨i, h, fun k hk => by omega⟩
      | succ n ih =>
        rintro ⟨i, hi, h⟩
        by_cases w : ∃ i, i ≤ n ∧ x i ≠ 0
        · exact ih w
        · exact ⟨i, h, fun k hk => Classical.byContradiction fun z => w ⟨k, by omega, z⟩⟩
    exact go j ⟨j, Nat.le_refl _, c⟩
  obtain ⟨p, hp, hz⟩ := this
  obtain ⟨f, hf, rfl⟩ := ech_lead E h hp hz
  exact hp (z f hf)
theorem ech_det {W : Nat} : ∀ {F : List Rw}, Ech W F → det (vR F) (F.map piv) ≠ 0
  | [], _ => by decide
  | f :: F, E => by
    have ih := ech_det E.tail
    have e : det (vR (f :: F)) ((f :: F).map piv) = vl f (piv f) * det (vR F) (F.map piv) - exq (vl f) (fun Q => det (vR F) (piv f :: Q)) (F.map piv) := rfl
    rw [e, exq_congr (G := fun _ => 0) fun Q _ _ => det_zcol (p := piv f) (fun r hr => by
      obtain ⟨g, hg, rfl⟩ := List.mem_map.mp hr
      exact E.head g hg _ (Nat.le_refl _)) (List.mem_cons_self ..), exq_zero, Int.sub_zero]
    exact Int.mul_ne_zero (E.nz f (List.mem_cons_self ..)) ih
/-- a minor of a span that is not 0 comes from one of the generators -/
theorem minor_sub {rows : List Rw} {P : List Nat} {N : Nat} (h : ∀ G : List Fn, (∀ g ∈ G, g ∈ vR rows) → G.length = N → det G P = 0) : ∀ {X G : List Fn}, (∀ g ∈ G, g ∈ vR rows) → (∀ x ∈ X, Spn (fun y => y ∈ vR rows) x) → G.length + X.length = N → det (G ++ X) P = 0
  | [], G, hg, _, l => by rw [List.append_nil]; exact h G hg (by simpa using l)
  | x :: X, G, hg, hx, l => by
    refine Spn.clo (det_cls G X P) (hx x (List.mem_cons_self ..)) fun y hy => ?_
    have ih := minor_sub h (X := X) (G := G ++ [y]) (fun g hh => by
      rcases List.mem_append.mp hh with e | e
      · exact hg g e
      · rw [List.mem_singleton.mp e]; exact hy) (fun z hz => hx z (List.mem_cons_of_mem _ hz)) (by rw [List.length_append, List.length_singleton]; rw [List.length_cons] at l; omega)
    rw [List.append_assoc] at ih
    exact ih
/-- rows with rising pivots for the lattice of some rows with small numbers -/
structure EchOf (W B n : Nat) (rows F : List Rw) : Prop where
  E : Ech W F
  lr : ∀ r ∈ rows, r.length = W
  to : ∀ f ∈ F, Lat (inR rows) (vl f)
  fro : ∀ r ∈ rows, Lat (inR F) (vl r)
  bd : ∀ r ∈ rows, ∀ v ∈ r, v.natAbs ≤ B
  B1 : 1 ≤ B
  ln : F.length ≤ n
theorem EchOf.minor {W B n : Nat} {rows F : List Rw} (h : EchOf W B n rows F) : ∃ G : List Fn, (∀ g ∈ G, g ∈ vR rows) ∧ G.length = F.length ∧ det G (F.map piv) ≠ 0 ∧ ∀ P, (det G P).natAbs ≤ facB B n := by
  have : ∃ G : List Fn, (∀ g ∈ G, g ∈ vR rows) ∧ G.length = F.length ∧ det G (F.map piv) ≠ 0 := Classical.byContradiction fun c => by
    refine ech_det h.E ?_
    refine minor_sub (rows := rows) (N := F.length) (X := vR F) (G := []) (P := F.map piv) (fun G hg l => Classical.byContradiction fun w => c ⟨G, hg, l, w⟩) (fun g hg => nomatch hg) (fun x hx => ?_) (by simp)
    obtain ⟨f, hf, rfl⟩ := List.mem_map.mp hx
    exact spn_in.mpr (h.to f hf).spn
  obtain ⟨G, h1, h2, h3⟩ := this
  refine ⟨G, h1, h2, h3, fun P => Nat.le_trans (det_bd (B := B) fun r hr p _ => ?_) (facB_mono h.B1 (by rw [h2]; exact h.ln))⟩
  obtain ⟨q, hq, rfl⟩ := List.mem_map.mp (h1 r hr)
  by_cases d : p < q.length
  · exact h.bd q hq _ (vl_mem d)
  · rw [vl_out (by omega)]; exact Nat.zero_le _
theorem EchOf.pivot {W B n : Nat} {rows F : List Rw} (h : EchOf W B n rows F) {f : Rw} (hf : f ∈ F) : (vl f (piv f)).natAbs ≤ facB B n := by
  obtain ⟨G, h1, h2, h3, h4⟩ := h.minor
  obtain ⟨F1, F2, e⟩ := List.append_of_mem hf
  have eP : F.map piv = F1.map piv ++ piv f :: F2.map piv := by rw [e, List.map_append]; rfl
  have w : Lat (inR F) fun c => det G (F1.map piv ++ c :: F2.map piv) := by
    refine (det_at G (F1.map piv) (F2.map piv)).trans fun y hy => ?_
    obtain ⟨q, hq, rfl⟩ := List.mem_map.mp (h1 y hy)
    exact h.fro q hq
  have dv := ech_dvd h.E w hf fun g hg lt => by
    have g1 : g ∈ F1 := by
      rw [e] at hg
      rcases List.mem_append.mp hg with m | m
      · exact m
      · have as := h.E.asc
        rw [e] at as
        rcases List.mem_cons.mp m with rfl | m
        · omega
        · have := (List.pairwise_cons.mp (List.pairwise_append.mp as).2.1).1 g m
          omega
    obtain ⟨A, C, eA⟩ := List.append_of_mem g1
    rw [eA, List.map_append, List.append_assoc]
    exact det_ctwo G (piv g) (F2.map piv) (C.map piv) (A.map piv)
  rw [← eP] at dv
  exact Nat.le_trans (Nat.le_of_dvd (by omega) (Int.natAbs_dvd_natAbs.mpr dv)) (h4 _)
/-- what hangs is as small as its items at the pivots -/
theorem EchOf.item {W B n X : Nat} {rows F : List Rw} (h : EchOf W B n rows F) {x : Fn} (hx : Spn (inR F) x) (z : ∀ f ∈ F, (x (piv f)).natAbs ≤ X) (c : Nat) : (x c).natAbs ≤ n * (X * facB B n) := by
  obtain ⟨G, h1, h2, h3, h4⟩ := h.minor
  have d0 : det (x :: G) (c :: F.map piv) = 0 := by
    refine det_many (F := vR F) (X := x :: G) (G := []) _ (fun g hg => nomatch hg) (fun y hy => ?_) (by simp; omega)
    rcases List.mem_cons.mp hy with rfl | hy
    · exact spn_in.mpr hx
    · obtain ⟨q, hq, rfl⟩ := List.mem_map.mp (h1 y hy)
      exact spn_in.mpr (h.fro q hq).spn
  have e : det (x :: G) (c :: F.map piv) = x c * det G (F.map piv) - exq x (fun Q => det G (c :: Q)) (F.map piv) := rfl
  rw [e] at d0
  have b := exq_bd (r := x) (B := X) (C := facB B n) (P := F.map piv) (F := fun Q => det G (c :: Q)) (fun p hp => by
    obtain ⟨f, hf, rfl⟩ := List.mem_map.mp hp
    exact z f hf) fun Q _ _ => h4 _
  rw [List.length_map] at b
  have e2 : (x c).natAbs * (det G (F.map piv)).natAbs = (exq x (fun Q => det G (c :: Q)) (F.map piv)).natAbs := by
    rw [← Int.natAbs_mul, show x c * det G (F.map piv) = exq x (fun Q => det G (c :: Q)) (F.map piv) by omega]
  have h5 : (x c).natAbs * 1 ≤ (x c).natAbs * (det G (F.map piv)).natAbs := Nat.mul_le_mul_left _ (by omega)
  have h6 : F.length * (X * facB B n) ≤ n * (X * facB B n) := Nat.mul_le_mul_right _ h.ln
  omega

/-! ### taken in -/
/-- same whole sums -/
def Gen (A B : List Rw) : Prop := (∀ a ∈ A, Lat (inR B) (vl a)) ∧ ∀ b ∈ B, Lat (inR A) (vl b)
theorem Gen.refl (A : List Rw) : Gen A A := ⟨fun a h => .mem ⟨a, h, rfl⟩, fun a h => .mem ⟨a, h, rfl⟩⟩
theorem lat_in {A B : List Rw} {x : Fn} (h : Lat (inR A) x) (k : ∀ a ∈ A, Lat (inR B) (vl a)) : Lat (inR B) x := h.trans fun y ⟨a, ha, e⟩ => by rw [e]; exact k a ha
theorem Gen.trans {A B C : List Rw} (h : Gen A B) (k : Gen B C) : Gen A C := ⟨fun a ha => lat_in (h.1 a ha) k.1, fun c hc => lat_in (k.2 c hc) h.2⟩
theorem Gen.symm {A B : List Rw} (h : Gen A B) : Gen B A := ⟨h.2, h.1⟩
theorem gen_app {A B C D : List Rw} (h : Gen A B) (k : Gen C D) : Gen (A ++ C) (B ++ D) := by
  have l : ∀ {X Y : List Rw} {x : Fn}, Lat (inR X) x → Lat (inR (X ++ Y)) x := fun h => h.trans fun y ⟨a, ha, e⟩ => .mem ⟨a, List.mem_append_left _ ha, e⟩
  have r : ∀ {X Y : List Rw} {x : Fn}, Lat (inR Y) x → Lat (inR (X ++ Y)) x := fun h => h.trans fun y ⟨a, ha, e⟩ => .mem ⟨a, List.mem_append_right _ ha, e⟩
  refine ⟨fun a ha => ?_, fun a ha => ?_⟩
  · rcases List.mem_append.mp ha with w | w
    · exact l (h.1 a w)
    · exact r (k.1 a w)
  · rcases List.mem_append.mp ha with w | w
    · exact l (h.2 a w)
    · exact r (k.2 a w)
/-- two rows, turned by a unimodular matrix -/
theorem gen_two {a b c d : Rw} {p q r s : Int} (hc : ∀ j, vl c j = p * vl a j + q * vl b j) (hd : ∀ j, vl d j = r * vl a j + s * vl b j) (u : p * s - q * r = 1) : Gen [a, b] [c, d] := by
  have m : ∀ (x y z : Rw), z = x ∨ z = y → Lat (inR [x, y]) (vl z) := fun x y z h => .mem ⟨z, by simp; exact h, rfl⟩
  refine ⟨fun x hx => ?_, fun x hx => ?_⟩
  · rcases List.mem_cons.mp hx with rfl | hx
    · refine (Lat.lin s (-q) (m c d c (.inl rfl)) (m c d d (.inr rfl))).of fun j => ?_
      rw [hc, hd]
      have : vl x j = (p * s - q * r) * vl x j := by rw [u]; omega
      rw [this]; grind
    · rw [List.mem_singleton.mp hx]
      refine (Lat.lin (-r) p (m c d c (.inl rfl)) (m c d d (.inr rfl))).of fun j => ?_
      rw [hc, hd]
      have : vl b j = (p * s - q * r) * vl b j := by rw [u]; omega
      rw [this]; grind
  · rcases List.mem_cons.mp hx with rfl | hx
    · exact (Lat.lin p q (m a b a (.inl rfl)) (m a b b (.inr rfl))).of hc
    · rw [List.mem_singleton.mp hx]
      exact (Lat.lin r s (m a b a (.inl rfl)) (m a b b (.inr rfl))).of hd
def BdR (X : Nat) (r : Rw) : Prop := ∀ j, (vl r j).natAbs ≤ X
/-- behind i rows of the basis: what is kept, what is in hand -/
structure TkI (W M Y : Nat) (F : List Rw) (r0 : Rw) (i : Nat) (kept : List Rw) (row : Rw) : Prop where
  lk : ∀ k ∈ kept, k.length = W
  lr : row.length = W
  nz : ∀ k ∈ kept, vl k (piv k) ≠ 0
  asc : kept.Pairwise fun f h => piv f < piv h
  ahead : ∀ k ∈ kept, piv k < piv row
  behind : ∀ k ∈ kept, ∀ h ∈ F.drop i, piv k < piv h
  gen : Gen (kept ++ row :: F.drop i) (F ++ [r0])
  br : BdR (2 ^ ((M + 1) * (i + 1))) row
  bk : ∀ k ∈ kept, BdR Y k
/-- Hermite's form -/
structure Hnf (W : Nat) (F : List Rw) : Prop where
  len : ∀ f ∈ F, f.length = W
  pos : ∀ f ∈ F, 0 < vl f (piv f)
  asc : F.Pairwise fun f h => piv f < piv h
  red : F.Pairwise fun f h => 0 ≤ vl f (piv h) ∧ vl f (piv h) < vl h (piv h)
theorem Hnf.ech {W : Nat} {F : List Rw} (h : Hnf W F) : Ech W F := ⟨h.len, fun f hf => by have := h.pos f hf; omega, h.asc⟩
theorem bd_len {W X : Nat} {r : Rw} : BdR X r ↔ ∀ v ∈ r, v.natAbs ≤ X := by
  constructor
  · intro h v hv
    obtain ⟨j, hj⟩ := List.mem_iff_getElem?.mp hv
    rw [← vl_get hj]; exact h j
  · intro h j
    by_cases c : j < r.length
    · exact h _ (vl_mem c)
    · rw [vl_out (by omega)]; exact Nat.zero_le _
theorem comb_bd {m t : Int} {x y : Rw} {a b c d : Nat} (hl : x.length = y.length) (hm : m.natAbs ≤ a) (hx : BdR b x) (ht : t.natAbs ≤ c) (hy : BdR d y) : BdR (a * b + c * d) (comb m x t y) := fun j => by
  rw [comb_vl hl]
  have h1 : (m * vl x j).natAbs ≤ a * b := by rw [Int.natAbs_mul]; exact Nat.mul_le_mul hm (hx j)
  have h2 : (t * vl y j).natAbs ≤ c * d := by rw [Int.natAbs_mul]; exact Nat.mul_le_mul ht (hy j)
  omega
theorem BdR.mono {a b : Nat} {r : Rw} (h : BdR a r) (l : a ≤ b) : BdR b r := fun j => Nat.le_trans (h j) l
section
variable {W M Y : Nat} {F : List Rw} {r0 : Rw} {i : Nat} {kept : List Rw} {row h : Rw}
theorem drop_at (hi : F[i]? = some h) : F.drop i = h :: F.drop (i + 1) := by
  obtain ⟨l, e⟩ := List.getElem?_eq_some_iff.mp hi
  rw [List.drop_eq_getElem_cons l, e]
theorem tk_start (hl : ∀ f ∈ F, f.length = W) (l0 : r0.length = W) (b0 : BdR (2 ^ (M + 1)) r0) : TkI W M Y F r0 0 [] r0 :=
  ⟨(fun k hk => nomatch hk), l0, (fun k hk => nomatch hk), .nil, (fun k hk => nomatch hk), (fun k hk => nomatch hk), by
    refine ⟨fun a ha => .mem ⟨a, ?_, rfl⟩, fun a ha => .mem ⟨a, ?_, rfl⟩⟩ <;> simp at ha ⊢ <;> rcases ha with w | w <;> simp [w], by simpa using b0, (fun k hk => nomatch hk)⟩
theorem asc_snoc {l : List Rw} {r : Rw} (h : l.Pairwise fun f h => piv f < piv h) (k : ∀ x ∈ l, piv x < piv r) : (l ++ [r]).Pairwise fun f h => piv f < piv h := by
  rw [List.pairwise_append]
  exact ⟨h, List.pairwise_singleton .., fun a ha b hb => by rw [List.mem_singleton.mp hb]; exact k a ha⟩
theorem all_snoc {α : Type} {P : α → Prop} {l : List α} {r : α} (h : ∀ x ∈ l, P x) (k : P r) : ∀ x ∈ l ++ [r], P x := fun x hx => by
  rcases List.mem_append.mp hx with w | w
  · exact h x w
  · rw [List.mem_singleton.mp w]; exact k
theorem piv_lt_len {r : Rw} (h : vl r (piv r) ≠ 0) : piv r < r.length := Classical.byContradiction fun c => h (vl_out (by omega))
theorem nz_of_lt {r : Rw} (h : piv r < r.length) : vl r (piv r) ≠ 0 := by
  by_cases z : allZ r
  · rw [piv_zero z] at h; omega
  · exact (piv_spec z).2.1
/-- what stands behind two rows, by their lattice -/
theorem gen_mid {A D B : List Rw} {a b c d : Rw} (h : Gen (A ++ a :: b :: D) B) (g : Gen [a, b] [c, d]) : Gen (A ++ c :: d :: D) B := by
  have : Gen (A ++ ([c, d] ++ D)) (A ++ ([a, b] ++ D)) := gen_app (Gen.refl A) (gen_app g.symm (Gen.refl D))
  exact Gen.trans this h
theorem tk_low (E : Ech W F) (bF : ∀ f ∈ F, BdR (2 ^ M) f) (t : TkI W M Y F r0 i kept row) (hi : F[i]? = some h) (yb : 2 ^ ((M + 1) * (i + 1)) ≤ Y) (c : piv row < piv h) : TkI W M Y F r0 (i + 1) (kept ++ [row]) h := by
  have mh := List.mem_of_getElem? hi
  have dr := drop_at hi
  have as := E.asc
  have after : ∀ g ∈ F.drop (i + 1), piv h < piv g := fun g hg => by
    have w := as.sublist (List.drop_sublist i F)
    rw [dr] at w
    exact (List.pairwise_cons.mp w).1 g hg
  refine ⟨all_snoc t.lk t.lr, E.len h mh, all_snoc t.nz (nz_of_lt (by
    have := piv_lt_len (E.nz h mh)
    rw [E.len h mh] at this
    rw [t.lr]; omega)), asc_snoc t.asc t.ahead, all_snoc (fun k hk => ?_) c, all_snoc (fun k hk g hg => ?_) fun g hg => ?_, ?_, ?_, all_snoc t.bk (t.br.mono yb)⟩
  · exact t.behind k hk h (by rw [dr]; exact List.mem_cons_self ..)
  · exact t.behind k hk g (by rw [dr]; exact List.mem_cons_of_mem _ hg)
  · have := after g hg; omega
  · have g := t.gen
    rw [dr] at g
    rw [List.append_assoc]
    exact g
  · exact (bF h mh).mono (Nat.pow_le_pow_right (by decide) (by rw [Nat.mul_add]; omega))
theorem gen_swap {A D B : List Rw} {a b : Rw} (h : Gen (A ++ a :: b :: D) B) : Gen (A ++ b :: a :: D) B :=
  gen_mid h ⟨fun x hx => .mem ⟨x, by simp at hx ⊢; exact hx.symm, rfl⟩, fun x hx => .mem ⟨x, by simp at hx ⊢; exact hx.symm, rfl⟩⟩
theorem tk_high (E : Ech W F) (bF : ∀ f ∈ F, BdR (2 ^ M) f) (t : TkI W M Y F r0 i kept row) (hi : F[i]? = some h) (yb : 2 ^ M ≤ Y) (c : piv h < piv row) : TkI W M Y F r0 (i + 1) (kept ++ [h]) row := by
  have mh := List.mem_of_getElem? hi
  have dr := drop_at hi
  have as := E.asc
  have after : ∀ g ∈ F.drop (i + 1), piv h < piv g := fun g hg => by
    have w := as.sublist (List.drop_sublist i F)
    rw [dr] at w
    exact (List.pairwise_cons.mp w).1 g hg
  have kh : ∀ k ∈ kept, piv k < piv h := fun k hk => t.behind k hk h (by rw [dr]; exact List.mem_cons_self ..)
  refine ⟨all_snoc t.lk (E.len h mh), t.lr, all_snoc t.nz (E.nz h mh), asc_snoc t.asc kh, all_snoc t.ahead c, all_snoc (fun k hk g hg => t.behind k hk g (by rw [dr]; exact List.mem_cons_of_mem _ hg)) after, ?_, t.br.mono (Nat.pow_le_pow_right (by decide) (Nat.mul_le_mul_left _ (by omega))), all_snoc t.bk ((bF h mh).mono yb)⟩
  have g := t.gen
  rw [dr] at g
  rw [List.append_assoc]
  exact gen_swap g
/-- the row in hand, less a multiple: its pivot goes up -/
theorem piv_up {r : Rw} {p : Nat} (hp : p < r.length) (z : ∀ j, j ≤ p → vl r j = 0) : p < piv r := by
  by_cases a : allZ r
  · rw [piv_zero a]; exact hp
  · have := (piv_spec a).2.1
    exact Classical.byContradiction fun c => this (z _ (by omega))
theorem tk_same (E : Ech W F) (bF : ∀ f ∈ F, BdR (2 ^ M) f) (t : TkI W M Y F r0 i kept row) (hi : F[i]? = some h) (c : piv row = piv h) {k d : Rw} {p q r s : Int} (hk : ∀ j, vl k j = p * vl h j + q * vl row j) (hd : ∀ j, vl d j = r * vl h j + s * vl row j) (u : p * s - q * r = 1) (lk : k.length = W) (ld : d.length = W) (kz : vl k (piv h) ≠ 0) (dz : vl d (piv h) = 0) (bk : BdR Y k) (bd : BdR (2 ^ ((M + 1) * (i + 2))) d) : TkI W M Y F r0 (i + 1) (kept ++ [k]) d := by
  have mh := List.mem_of_getElem? hi
  have dr := drop_at hi
  have as := E.asc
  have hn := E.nz h mh
  have rn : vl row (piv row) ≠ 0 := nz_of_lt (by rw [c, t.lr, ← E.len h mh]; exact piv_lt_len hn)
  have after : ∀ g ∈ F.drop (i + 1), piv h < piv g := fun g hg => by
    have w := as.sublist (List.drop_sublist i F)
    rw [dr] at w
    exact (List.pairwise_cons.mp w).1 g hg
  have kh : ∀ k ∈ kept, piv k < piv h := fun k hk => t.behind k hk h (by rw [dr]; exact List.mem_cons_self ..)
  have z1 : ∀ j, j < piv h → vl h j = 0 := ahead_zero hn
  have z2 : ∀ j, j < piv h → vl row j = 0 := fun j hj => ahead_zero rn j (by omega)
  have pk : piv k = piv h := piv_is kz fun j hj => by rw [hk, z1 j hj, z2 j hj]; omega
  have pd : piv h < piv d := piv_up (by rw [ld, ← E.len h mh]; exact piv_lt_len hn) fun j hj => by
    rcases Nat.lt_or_eq_of_le hj with w | w
    · rw [hd, z1 j w, z2 j w]; omega
    · rw [w]; exact dz
  refine ⟨all_snoc t.lk lk, ld, all_snoc t.nz (by rw [pk]; exact kz), asc_snoc t.asc fun x hx => by rw [pk]; exact kh x hx, all_snoc (fun x hx => by have := kh x hx; omega) (by rw [pk]; exact pd), all_snoc (fun x hx g hg => t.behind x hx g (by rw [dr]; exact List.mem_cons_of_mem _ hg)) fun g hg => by rw [pk]; exact after g hg, ?_, bd, all_snoc t.bk bk⟩
  have g := t.gen
  rw [dr] at g
  rw [List.append_assoc]
  exact gen_mid (gen_swap g) (gen_two hk hd u)
/-- at the end -/
theorem tk_end (t : TkI W M Y F r0 F.length kept row) (yb : 2 ^ ((M + 1) * (F.length + 1)) ≤ Y) {kept' : List Rw} (e : kept' = if allZ row then kept else kept ++ [row]) : Ech W kept' ∧ Gen kept' (F ++ [r0]) ∧ (∀ k ∈ kept', BdR Y k) ∧ kept'.length ≤ kept.length + 1 := by
  have g := t.gen
  rw [List.drop_length] at g
  by_cases z : allZ row
  · rw [if_pos z] at e
    subst e
    refine ⟨⟨t.lk, t.nz, t.asc⟩, ⟨fun a ha => g.1 a (List.mem_append_left _ ha), fun b hb => lat_in (g.2 b hb) fun a ha => ?_⟩, t.bk, by omega⟩
    rcases List.mem_append.mp ha with w | w
    · exact .mem ⟨a, w, rfl⟩
    · rw [List.mem_singleton.mp w]
      exact Lat.zero.of (allZ_vl z)
  · rw [if_neg z] at e
    subst e
    obtain ⟨h1, h2, _⟩ := piv_spec z
    exact ⟨⟨all_snoc t.lk t.lr, all_snoc t.nz h2, asc_snoc t.asc t.ahead⟩, g, all_snoc t.bk (t.br.mono yb), by rw [List.length_append]; exact Nat.le_refl _⟩
end
/-! ### the form -/
/-- a row less multiples of rows -/
def rdc (row : Rw) (done : List Rw) : Rw := done.foldl (fun r b => comb 1 r (-((vl r (piv b)).fdiv (vl b (piv b)))) b) row
theorem fmod_lt {a b : Int} (hb : 0 < b) : 0 ≤ a + -(a.fdiv b) * b ∧ a + -(a.fdiv b) * b < b := by
  have h := Int.mul_fdiv_add_fmod a b
  have h1 := Int.fmod_nonneg_of_pos a hb
  have h2 := Int.fmod_lt_of_pos a hb
  have : -(a.fdiv b) * b = -(b * a.fdiv b) := by rw [Int.neg_mul, Int.mul_comm]
  omega
/-- below i rows -/
structure RdI (W : Nat) (row0 : Rw) (done : List Rw) (i : Nat) (row : Rw) : Prop where
  lr : row.length = W
  same : ∀ j, j ≤ piv row0 → vl row j = vl row0 j
  red : ∀ h ∈ done.take i, 0 ≤ vl row (piv h) ∧ vl row (piv h) < vl h (piv h)
  dif : Lat (inR done) fun j => vl row j - vl row0 j
theorem rd_start {W : Nat} {row0 : Rw} {done : List Rw} (l : row0.length = W) : RdI W row0 done 0 row0 :=
  ⟨l, fun _ _ => rfl, (fun h hh => nomatch hh), Lat.zero.of fun j => by omega⟩
theorem rd_step {W : Nat} {row0 row h : Rw} {done : List Rw} {i : Nat} (H : Hnf W done) (ah : ∀ g ∈ done, piv row0 < piv g) (t : RdI W row0 done i row) (hi : done[i]? = some h) : RdI W row0 done (i + 1) (comb 1 row (-((vl row (piv h)).fdiv (vl h (piv h)))) h) := by
  have mh := List.mem_of_getElem? hi
  have hl : row.length = h.length := by rw [t.lr, H.len h mh]
  have hz := ahead_zero (H.ech.nz h mh)
  refine ⟨by rw [comb_len hl, t.lr], fun j hj => ?_, fun g hg => ?_, ?_⟩
  · rw [comb_vl hl, hz j (by have := ah h mh; omega), t.same j hj]; omega
  · rw [List.take_add_one, hi] at hg
    rcases List.mem_append.mp hg with w | w
    · have lt : piv g < piv h := by
        obtain ⟨k, hk⟩ := List.mem_iff_getElem?.mp w
        have kl := (List.getElem?_eq_some_iff.mp hk).1
        rw [List.length_take] at kl
        rw [List.getElem?_take, if_pos (by omega)] at hk
        obtain ⟨l1, e1⟩ := List.getElem?_eq_some_iff.mp hk
        obtain ⟨l2, e2⟩ := List.getElem?_eq_some_iff.mp hi
        have := List.pairwise_iff_getElem.mp H.asc k i l1 l2 (by omega)
        rw [e1, e2] at this
        exact this
      rw [comb_vl hl, hz _ lt]
      have := t.red g w
      omega
    · have e : g = h := List.mem_singleton.mp w
      subst e
      rw [comb_vl hl, Int.one_mul]
      exact fmod_lt (H.pos g mh)
  · refine (Lat.lin 1 (-((vl row (piv h)).fdiv (vl h (piv h)))) t.dif (.mem ⟨h, mh, rfl⟩)).of fun j => ?_
    rw [comb_vl hl]; omega
theorem rd_end {W : Nat} {row0 row : Rw} {done : List Rw} {i : Nat} (H : Hnf W done) (p0 : 0 < vl row0 (piv row0)) (ah : ∀ g ∈ done, piv row0 < piv g) (t : RdI W row0 done i row) (l : done.length ≤ i) : Hnf W (row :: done) ∧ Gen (row :: done) (row0 :: done) ∧ piv row = piv row0 := by
  have pr : piv row = piv row0 := piv_is (by rw [t.same _ (Nat.le_refl _)]; omega) fun j hj => by
    rw [t.same j (by omega)]; exact ahead_zero (by omega) j hj
  have red := t.red
  rw [List.take_of_length_le l] at red
  refine ⟨⟨fun f hf => ?_, fun f hf => ?_, List.pairwise_cons.mpr ⟨fun g hg => by rw [pr]; exact ah g hg, H.asc⟩, List.pairwise_cons.mpr ⟨red, H.red⟩⟩, ⟨fun a ha => ?_, fun a ha => ?_⟩, pr⟩
  · rcases List.mem_cons.mp hf with rfl | w
    · exact t.lr
    · exact H.len f w
  · rcases List.mem_cons.mp hf with rfl | w
    · rw [pr, t.same _ (Nat.le_refl _)]; exact p0
    · exact H.pos f w
  · have up : ∀ {x : Fn}, Lat (inR done) x → Lat (inR (row0 :: done)) x := fun h => h.trans fun y ⟨a, ha, e⟩ => .mem ⟨a, List.mem_cons_of_mem _ ha, e⟩
    rcases List.mem_cons.mp ha with rfl | w
    · exact (Lat.lin 1 1 (up t.dif) (.mem ⟨row0, List.mem_cons_self .., rfl⟩)).of fun j => by omega
    · exact .mem ⟨a, List.mem_cons_of_mem _ w, rfl⟩
  · have up : ∀ {x : Fn}, Lat (inR done) x → Lat (inR (row :: done)) x := fun h => h.trans fun y ⟨a, ha, e⟩ => .mem ⟨a, List.mem_cons_of_mem _ ha, e⟩
    rcases List.mem_cons.mp ha with rfl | w
    · exact (Lat.lin (-1) 1 (up t.dif) (.mem ⟨row, List.mem_cons_self .., rfl⟩)).of fun j => by omega
    · exact .mem ⟨a, List.mem_cons_of_mem _ w, rfl⟩
/-- a row and its opposite -/
theorem gen_neg {row neg : Rw} {done : List Rw} (h : ∀ j, vl neg j = -vl row j) : Gen (neg :: done) (row :: done) := by
  have go : ∀ {a b : Rw}, (∀ j, vl a j = -vl b j) → ∀ x ∈ a :: done, Lat (inR (b :: done)) (vl x) := fun {a b} h x hx => by
    rcases List.mem_cons.mp hx with rfl | w
    · exact (Lat.lin (-1) 0 (.mem ⟨b, List.mem_cons_self .., rfl⟩) .zero).of fun j => by rw [h]; omega
    · exact .mem ⟨x, List.mem_cons_of_mem _ w, rfl⟩
  exact ⟨go h, go fun j => by rw [h]; omega⟩
/-- one lattice has one form -/
theorem hnf_same {W : Nat} {F G : List Rw} (hF : Hnf W F) (hG : Hnf W G) (g : Gen F G) : F = G := by
  have sub : ∀ {A B : List Rw}, Hnf W A → Hnf W B → Gen A B → ∀ a ∈ A, ∃ b ∈ B, piv b = piv a ∧ vl b (piv b) = vl a (piv a) := fun {A B} hA hB g a ha => by
    obtain ⟨b, hb, pb⟩ := ech_lead hB.ech (g.1 a ha).spn (p := piv a) (hA.ech.nz a ha) (ahead_zero (hA.ech.nz a ha))
    have d1 := ech_dvd hB.ech (g.1 a ha) hb fun q hq lt => by
      exact ahead_zero (hA.ech.nz a ha) _ (by omega)
    have d2 := ech_dvd hA.ech (g.2 b hb) ha fun q hq lt => by
      exact ahead_zero (hB.ech.nz b hb) _ (by omega)
    rw [pb] at d1
    have p1 := hA.pos a ha
    have p2 := hB.pos b hb
    rw [pb] at p2
    refine ⟨b, hb, pb, ?_⟩
    rw [pb]
    have l1 := Int.le_of_dvd p1 d1
    have l2 := Int.le_of_dvd p2 d2
    omega
  -- the same pivots, and the same rows at them
  have eq : ∀ {A B : List Rw}, Hnf W A → Hnf W B → Gen A B → ∀ a ∈ A, a ∈ B := fun {A B} hA hB g a ha => by
    obtain ⟨b, hb, pb, vb⟩ := sub hA hB g a ha
    have dif : Lat (inR B) fun j => 1 * vl a j + (-1) * vl b j := .lin _ _ (g.1 a ha) (.mem ⟨b, hb, rfl⟩)
    have rel : ∀ {X : List Rw}, Hnf W X → ∀ x ∈ X, ∀ y ∈ X, piv x ≠ piv y → 0 ≤ vl x (piv y) ∧ vl x (piv y) < vl y (piv y) := fun {X} hX x hx y hy ne => by
      obtain ⟨i, hi⟩ := List.mem_iff_getElem?.mp hx
      obtain ⟨k, hk⟩ := List.mem_iff_getElem?.mp hy
      obtain ⟨li, ei⟩ := List.getElem?_eq_some_iff.mp hi
      obtain ⟨lk, ek⟩ := List.getElem?_eq_some_iff.mp hk
      rcases Nat.lt_trichotomy i k with w | w | w
      · have := List.pairwise_iff_getElem.mp hX.red i k li lk w
        rw [ei, ek] at this; exact this
      · subst w
        rw [ei] at ek; rw [ek] at ne; exact absurd rfl ne
      · have := List.pairwise_iff_getElem.mp hX.asc k i lk li w
        rw [ei, ek] at this
        have z := ahead_zero (hX.ech.nz x hx) _ this
        have := hX.pos y hy
        omega
    have zz : ∀ j, 1 * vl a j + (-1) * vl b j = 0 := fun j => Classical.byContradiction fun c => by
      obtain ⟨p, hp, hz⟩ := first_nz (x := fun j => 1 * vl a j + (-1) * vl b j) ⟨j, c⟩
      obtain ⟨f, hf, rfl⟩ := ech_lead hB.ech dif.spn hp hz
      have dd := ech_dvd hB.ech dif hf fun q _ lt => hz _ lt
      obtain ⟨c, hc, pc, vc⟩ := sub hB hA g.symm f hf
      by_cases e : piv f = piv a
      · have hp' : 1 * vl a (piv f) + (-1) * vl b (piv f) ≠ 0 := hp
        rw [e, ← pb] at hp'
        rw [← pb] at vb
        omega
      · have r1 := rel hA a ha c hc (by rw [pc]; exact fun z => e z.symm)
        have r2 := rel hB b hb f hf (by rw [pb]; exact fun z => e z.symm)
        rw [pc] at r1 vc
        have hp' : 1 * vl a (piv f) + (-1) * vl b (piv f) ≠ 0 := hp
        have l := Int.natAbs_dvd_natAbs.mpr dd
        have l2 := Nat.le_of_dvd (by omega) l
        have p2 := hB.pos f hf
        have : (1 * vl a (piv f) + (-1) * vl b (piv f)).natAbs < (vl f (piv f)).natAbs := by omega
        exact absurd l2 (by omega)
    have : a = b := vl_ext (by rw [hA.len a ha, hB.len b hb]) fun j => by have := zz j; omega
    rw [this]; exact hb
  have fin : ∀ {A B : List Rw}, (A.Pairwise fun f h => piv f < piv h) → (B.Pairwise fun f h => piv f < piv h) → (∀ a ∈ A, a ∈ B) → (∀ b ∈ B, b ∈ A) → A = B := fun {A} => by
    induction A with
    | nil =>
      intro B _ _ _ h
      cases B with
      | nil => rfl
      | cons b B => exact nomatch h b (List.mem_cons_self ..)
    | cons a A ih =>
      intro B hA hB h1 h2
      cases B with
      | nil => exact nomatch h1 a (List.mem_cons_self ..)
      | cons b B =>
        obtain ⟨a1, a2⟩ := List.pairwise_cons.mp hA
        obtain ⟨b1, b2⟩ := List.pairwise_cons.mp hB
        have ab : a = b := by
          rcases List.mem_cons.mp (h1 a (List.mem_cons_self ..)) with w | w
          · exact w
          · rcases List.mem_cons.mp (h2 b (List.mem_cons_self ..)) with v | v
            · exact v.symm
            · have := b1 a w
              have := a1 b v
              omega
        subst ab
        rw [ih a2 b2 (fun x hx => by
          rcases List.mem_cons.mp (h1 x (List.mem_cons_of_mem _ hx)) with w | w
          · have := a1 x hx; rw [w] at this; omega
          · exact w) fun x hx => by
          rcases List.mem_cons.mp (h2 x (List.mem_cons_of_mem _ hx)) with w | w
          · have := b1 x hx; rw [w] at this; omega
          · exact w]
  exact fin hF.asc hG.asc (eq hF hG g) (eq hG hF g.symm)
/-! ### the greatest common divisor and its multiples -/
structure BzI (a b o e x lx y ly : Int) : Prop where
  h1 : o = x * a + y * b
  h2 : e = lx * a + ly * b
  u : x * ly - lx * y = 1 ∨ x * ly - lx * y = -1
  bx : lx.natAbs * o.natAbs + x.natAbs * e.natAbs ≤ b.natAbs
  by_ : ly.natAbs * o.natAbs + y.natAbs * e.natAbs ≤ a.natAbs + 2 * b.natAbs
  cx : x.natAbs ≤ b.natAbs
  cy : y.natAbs ≤ a.natAbs + 2 * b.natAbs
  o0 : o ≠ 0
  ob : o.natAbs ≤ a.natAbs + b.natAbs
  eb : e.natAbs ≤ a.natAbs + b.natAbs
  sg : (0 ≤ o ∧ 0 ≤ e) ∨ (o ≤ 0 ∧ e ≤ 0) ∨ (o = a ∧ e = b ∧ x = 1 ∧ lx = 0 ∧ y = 0 ∧ ly = 1)
theorem bz_start {a b : Int} (ha : 0 < a) (hb : b ≠ 0) : BzI a b a b 1 0 0 1 :=
  ⟨by omega, by omega, .inl (by decide), by simp, by simp, by simp; omega, by simp, by omega, by omega, by omega, .inr (.inr ⟨rfl, rfl, rfl, rfl, rfl, rfl⟩)⟩
theorem fdiv_rest (o : Int) {e : Int} (he : e ≠ 0) : (o - o.fdiv e * e).natAbs < e.natAbs ∧ ((0 < e → 0 ≤ o - o.fdiv e * e) ∧ (e < 0 → o - o.fdiv e * e ≤ 0)) := by
  have h := Int.mul_fdiv_add_fmod o e
  have c : o - o.fdiv e * e = o.fmod e := by rw [Int.mul_comm]; omega
  rw [c]
  rcases Int.lt_trichotomy e 0 with w | w | w
  · have h1 := Int.fmod_nonneg_of_pos (-o) (b := -e) (by omega)
    have h2 := Int.fmod_lt_of_pos (-o) (b := -e) (by omega)
    rw [Int.neg_fmod_neg] at h1 h2
    exact ⟨by omega, fun z => by omega, fun _ => by omega⟩
  · exact absurd w he
  · have h1 := Int.fmod_nonneg_of_pos o w
    have h2 := Int.fmod_lt_of_pos o w
    exact ⟨by omega, fun _ => h1, fun z => by omega⟩
theorem abs_mulsub (x q l : Int) : (x - q * l).natAbs ≤ x.natAbs + q.natAbs * l.natAbs := by
  rw [← Int.natAbs_mul]; omega
theorem bz_same {o e : Int} (he : e ≠ 0) (h : (0 ≤ o ∧ 0 ≤ e) ∨ (o ≤ 0 ∧ e ≤ 0)) : (o.fdiv e).natAbs * e.natAbs + (o - o.fdiv e * e).natAbs = o.natAbs := by
  have h1 := (fdiv_rest o he).2
  have q0 : 0 ≤ o.fdiv e := by
    rcases h with ⟨h1, h2⟩ | ⟨h1, h2⟩
    · exact Int.fdiv_nonneg h1 h2
    · have := Int.fdiv_nonneg (a := -o) (b := -e) (by omega) (by omega)
      rwa [Int.neg_fdiv_neg] at this
  rw [← Int.natAbs_mul]
  generalize o.fdiv e = q at *
  rcases h with ⟨h2, h3⟩ | ⟨h2, h3⟩
  · have : 0 ≤ q * e := Int.mul_nonneg q0 h3
    have := h1.1 (by omega)
    omega
  · have : q * e ≤ 0 := Int.mul_nonpos_of_nonneg_of_nonpos q0 h3
    have := h1.2 (by omega)
    omega
theorem bz_sum {l x q e r o n : Nat} (hq : q * e + r = o) (h : l * o + x * e ≤ n) {k : Nat} (hk : k ≤ x + q * l) : k * e + l * r ≤ n := by
  have h1 : k * e ≤ (x + q * l) * e := Nat.mul_le_mul_right _ hk
  have h2 : (x + q * l) * e = x * e + l * (q * e) := by rw [Nat.add_mul, Nat.mul_comm q l, Nat.mul_assoc]
  have h3 : l * o = l * (q * e) + l * r := by rw [← hq, Nat.mul_add]
  omega
theorem bz_step {a b o e x lx y ly : Int} (ha : 0 < a) (hb : b ≠ 0) (t : BzI a b o e x lx y ly) (he : e ≠ 0) : BzI a b e (o - o.fdiv e * e) lx (x - o.fdiv e * lx) ly (y - o.fdiv e * ly) := by
  obtain ⟨r1, r2, r3⟩ := fdiv_rest o he
  have o1 : 1 ≤ o.natAbs := by have := t.o0; omega
  have clx : lx.natAbs ≤ b.natAbs := by
    have := t.bx
    have : lx.natAbs * 1 ≤ lx.natAbs * o.natAbs := Nat.mul_le_mul_left _ o1
    omega
  have cly : ly.natAbs ≤ a.natAbs + 2 * b.natAbs := by
    have := t.by_
    have : ly.natAbs * 1 ≤ ly.natAbs * o.natAbs := Nat.mul_le_mul_left _ o1
    omega
  have sg' : (0 ≤ e ∧ 0 ≤ o - o.fdiv e * e) ∨ (e ≤ 0 ∧ o - o.fdiv e * e ≤ 0) ∨ (e = a ∧ o - o.fdiv e * e = b ∧ lx = 1 ∧ x - o.fdiv e * lx = 0 ∧ ly = 0 ∧ y - o.fdiv e * ly = 1) := by
    rcases Int.lt_trichotomy e 0 with w | w | w
    · exact .inr (.inl ⟨by omega, r3 w⟩)
    · exact absurd w he
    · exact .inl ⟨by omega, r2 w⟩
  have g1 : e = lx * a + ly * b := t.h2
  have g2 : o - o.fdiv e * e = (x - o.fdiv e * lx) * a + (y - o.fdiv e * ly) * b := by
    have h1 := t.h1
    have h2 := t.h2
    generalize o.fdiv e = q
    rw [h1, h2]; grind
  have gu : lx * (y - o.fdiv e * ly) - (x - o.fdiv e * lx) * ly = 1 ∨ lx * (y - o.fdiv e * ly) - (x - o.fdiv e * lx) * ly = -1 := by
    have : lx * (y - o.fdiv e * ly) - (x - o.fdiv e * lx) * ly = -(x * ly - lx * y) := by grind
    rw [this]
    rcases t.u with w | w <;> rw [w] <;> simp
  have same : (0 ≤ o ∧ 0 ≤ e) ∨ (o ≤ 0 ∧ e ≤ 0) → BzI a b e (o - o.fdiv e * e) lx (x - o.fdiv e * lx) ly (y - o.fdiv e * ly) := fun h => by
    have q := bz_same he h
    have := t.eb
    exact ⟨g1, g2, gu, bz_sum q t.bx (abs_mulsub ..), bz_sum q t.by_ (abs_mulsub ..), clx, cly, he, t.eb, by omega, sg'⟩
  rcases t.sg with h | h | ⟨h1, h2, h3, h4, h5, h6⟩
  · exact same (.inl h)
  · exact same (.inr h)
  · by_cases w : 0 < b
    · exact same (.inl ⟨by omega, by omega⟩)
    · subst h1 h2 h3 h4 h5 h6
      have q : (o.fdiv e).natAbs * e.natAbs ≤ o.natAbs + e.natAbs := by
        rw [← Int.natAbs_mul]
        have := r3 (by omega)
        omega
      refine ⟨g1, g2, gu, by simp, ?_, by simp, by simp; omega, hb, by omega, by omega, sg'⟩
      have : (0 - o.fdiv e * 1).natAbs = (o.fdiv e).natAbs := by omega
      rw [this, show Int.natAbs 1 = 1 from rfl, Nat.one_mul]
      omega
theorem bz_end {a b o x lx y ly : Int} (t : BzI a b o 0 x lx y ly) : o ∣ a ∧ o ∣ b := by
  have h1 := t.h1
  have h2 := t.h2
  rcases t.u with w | w
  · refine ⟨⟨ly, ?_⟩, ⟨-lx, ?_⟩⟩
    · have : a = (x * ly - lx * y) * a := by rw [w]; omega
      have e : (x * ly - lx * y) * a = ly * (x * a + y * b) - y * (lx * a + ly * b) := by grind
      rw [this, e, ← h1, ← h2]; grind
    · have : b = (x * ly - lx * y) * b := by rw [w]; omega
      have e : (x * ly - lx * y) * b = x * (lx * a + ly * b) - lx * (x * a + y * b) := by grind
      rw [this, e, ← h1, ← h2]; grind
  · refine ⟨⟨-ly, ?_⟩, ⟨lx, ?_⟩⟩
    · have : a = -(x * ly - lx * y) * a := by rw [w]; omega
      have e : -(x * ly - lx * y) * a = y * (lx * a + ly * b) - ly * (x * a + y * b) := by grind
      rw [this, e, ← h1, ← h2]; grind
    · have : b = -(x * ly - lx * y) * b := by rw [w]; omega
      have e : -(x * ly - lx * y) * b = lx * (x * a + y * b) - x * (lx * a + ly * b) := by grind
      rw [this, e, ← h1, ← h2]; grind
end AL
set_option Elab.async false
set_option maxRecDepth 100000
set_option exponentiation.threshold 70000
set_option maxHeartbeats 1000000
namespace AL
open PySem PySem.Spec PyProof.Rows L2 RZ
section
variable {P : Program} {w : World} {K : PySem.W.Frag} {mg : Str → Option Value} {base : Heap}
theorem shaped_intsL (l : List Int) : SeqAt.shaped (.list (l.map PyData.int)) = true := by
  unfold SeqAt.shaped
  rw [show PyData.canLay0 (.list (l.map PyData.int)) = true by simpa [PyData.canLay0] using (can_ints l).1]
  simp [PyData.depth, (can_ints l).2]
theorem eqv_intsL (a b : List Int) : PyData.eqv (.list (a.map PyData.int)) (.list (b.map PyData.int)) = decide (a = b) := by
  rw [PyData.eqv]
  exact PySem.W.ked_eqvAll a b
def dL (z : List Int) : PyData := .list (z.map PyData.int)
theorem can_dL : ∀ z : List Int, PyData.canLayAll0 (z.map PyData.int) = true ∧ PyData.depthAll (z.map PyData.int) ≤ 1
  | [] => ⟨rfl, by decide⟩
  | x :: r => by
    have b := can_dL r
    rw [List.map_cons]
    constructor
    · simp only [PyData.canLayAll0, PyData.canLay0, b.1, Bool.and_self]
    · simp only [PyData.depthAll, PyData.depth]
      omega
theorem can_rows : ∀ zs : List (List Int), PyData.canLayAll0 (zs.map dL) = true ∧ PyData.depthAll (zs.map dL) ≤ 2
  | [] => ⟨rfl, by decide⟩
  | z :: r => by
    have a := can_dL z
    have b := can_rows r
    rw [List.map_cons]
    unfold dL at *
    constructor
    · simp only [PyData.canLayAll0, PyData.canLay0, a.1, b.1, Bool.and_self]
    · simp only [PyData.depthAll, PyData.depth]
      omega
theorem shaped_rows (zs : List (List Int)) : SeqAt.shaped (.list (zs.map dL)) = true := by
  have z := can_rows zs
  unfold SeqAt.shaped
  rw [show PyData.canLay0 (.list (zs.map dL)) = true by simpa only [PyData.canLay0] using z.1]
  have d : PyData.depth (.list (zs.map dL)) ≤ 3 := by simp only [PyData.depth]; omega
  simp only [Bool.true_and, decide_eq_true_eq]
  omega
theorem dpAll_z {K : PySem.W.Frag} {H : Hp} : ∀ z : List Int, DpAll K H (z.map V.int) (z.map PyData.int)
  | [] => .nil
  | x :: r => .cons (.int x) (dpAll_z r)

theorem wml {i j : Int} {m n : Nat} (h1 : i.natAbs < 2 ^ m) (h2 : j.natAbs < 2 ^ n) (hm : m ≤ 100000) (hn : n ≤ 100000) : CMulW i j := wide_mul (Nat.lt_of_lt_of_le h1 (Nat.pow_le_pow_right (by decide) (by omega : m ≤ m + 1))) (Nat.lt_of_lt_of_le h2 (Nat.pow_le_pow_right (by decide) (by omega : n ≤ n + 1))) (by omega) (by omega) (by omega)
/-- bezout(one, other), one above 0, other not 0 -/
def spBz : Sp := fun vs H Q _ => ∃ a b : Int, vs = [.int a, .int b] ∧ 0 < a ∧ b ≠ 0 ∧ a.natAbs < 2 ^ 13000 ∧ b.natAbs < 2 ^ 13000 ∧
  ∀ t H' (g x y : Int), Same H H' → H' t = some (.tup [.int g, .int x, .int y]) → 0 < g → g = x * a + y * b → g ∣ a → g ∣ b → x.natAbs ≤ b.natAbs → y.natAbs ≤ a.natAbs + 2 * b.natAbs → Q (.ref t) H'
theorem dp_rowsL {K : PySem.W.Frag} {H : Hp} {rs : List Addr} {zs : List (List Int)} (h : Paired (fun r z => LI H r z) rs zs) : DpAll K H (rs.map V.ref) (zs.map dL) := by
  induction h with
  | nil => exact .nil
  | cons r _ ih => exact .cons (.lst (SqL.of r) (dpAll_z _)) ih
theorem eqv_rowsL (zs : List (List Int)) : PyData.eqv (.list (zs.map dL)) (.list []) = decide (zs = []) := by
  cases zs with
  | nil => rw [List.map_nil, PyData.eqv, PyData.eqvAll]; rfl
  | cons z r => rw [List.map_cons, PyData.eqv, PyData.eqvAll]; rfl
/-- _law_rank(rows) -/
def spRk : Sp := fun vs H Q _ => ∃ (w : Addr) (W B : Nat) (rows : List Rw), vs = [.ref w] ∧ RowsT H w rows ∧ (∀ r ∈ rows, r.length = W) ∧ W ≤ 100 ∧ rows.length ≤ 30 ∧ (∀ r ∈ rows, ∀ v ∈ r, v.natAbs ≤ B) ∧ 1 ≤ B ∧ facB B (rows.length + 1) < 2 ^ 6000 ∧
  ∀ H' s, Same H H' → RankIs rows s → Q (.int (s : Nat)) H'

abbrev st_law_rank : Stmt := top 42
theorem sc_law_rank : FnScope ["_law_rows", "_law_left", "_law_last", "_law_place", "_law_row", "_law_k", "_law_found", "_law_j", "_law_lead", "_law_by", "_law_one", "_law_two"] ["_law_rows"] (defScope st_law_rank) := ⟨rfl, rfl, rfl, by decide +kernel, rfl, by decide +kernel, by decide +kernel⟩
theorem ok_law_rank (B : Blt mg)  {f_law_rank : Addr} {fd_law_rank : FuncData} (D_law_rank : DefAt K mg "_law_rank" st_law_rank ["_law_rows"] f_law_rank fd_law_rank) : FnOk P w K mg base CX0 1 f_law_rank fd_law_rank ["_law_rows"] spRk := by
  refine D_law_rank.F.ok sc_law_rank (fun vs H Q E h => ?_) (fun cdv A outer s H vs Q E hr h => ?_)
  · obtain ⟨w, W, B0, rows, rfl, _⟩ := h; rfl
  · have hu := hu_of hr
    refine ⟨_, (pss_cons (ps_asg (pe_tup (pa_cons (pe_lc (own := [("_law_row", 4)]) (g := gName 4) (tt := tYes) rfl sc_law_rank.nd (pi_list (pv 0)) (blkOk_by (own := [("_law_row", 4)]) (N := ["_law_rows", "_law_left", "_law_last", "_law_place", "_law_row", "_law_k", "_law_found", "_law_j", "_law_lead", "_law_by", "_law_one", "_law_two"]) (sc := defScope st_law_rank) (by decide +kernel)) (fun _ _ _ _ _ => (pg_name (i := 4) sc_law_rank.nd rfl (Or.inl rfl))) (fun _ _ _ _ _ => pts_nil) (fun _ _ _ _ _ => (pe_callTy (call_listK : CallR _ _ (rListK K)) (by rfl) B.list_ (by decide +kernel) (pa_cons (pv 4) pa_nil)))) (pa_cons pe_int (pa_cons pe_int pa_nil)))) (pg_tup rfl (pgs_cons (pg_name (i := 1) sc_law_rank.nd rfl (Or.inr rfl)) (pgs_cons (pg_name (i := 2) sc_law_rank.nd rfl (Or.inr rfl)) (pgs_cons (pg_name (i := 3) sc_law_rank.nd rfl (Or.inl rfl)) pgs_nil)))))
    (pss_cons (ps_if (pt_cmpR (op_eqD hr.units) (pv 1) (pe_lst pa_nil) (nomark _)) (pss_one (ps_ret pe_int)) pss_nil)
    (pss_cons (ps_for PassesOwn.never rfl (pi_range1 rfl B.range_ (pa_cons (pe_callB call_len_seq (by rfl) B.len_ (by decide +kernel) (pa_cons (pe_ix ix_list (pv 1) pe_int (fun _ _ => rfl)) pa_nil)) pa_nil)) (pg_name (i := 5) sc_law_rank.nd rfl (Or.inr rfl))
      (pss_cons (ps_setLc (i := 6) (own := [("_law_j", 7)]) (g := gName 7) rfl sc_law_rank.nd rfl rfl (sw_true rfl rfl rfl (by decide +kernel)) (pi_range2 rfl B.range_ (pa_cons (pv 3) (pa_cons (pe_callB (call_lenK : CallR _ (.builtin "len") (rLenK K)) (by rfl) B.len_ (by decide +kernel) (pa_cons (pv 1) pa_nil)) pa_nil))) (blkOk_by (own := [("_law_j", 7)]) (N := ["_law_rows", "_law_left", "_law_last", "_law_place", "_law_row", "_law_k", "_law_found", "_law_j", "_law_lead", "_law_by", "_law_one", "_law_two"]) (sc := defScope st_law_rank) (by decide +kernel)) (fun _ _ _ _ _ => (pg_name (i := 7) sc_law_rank.nd rfl (Or.inl rfl))) (fun _ _ _ _ _ => (pts_one (pt_cmpR op_ne (pe_ix (ix_list : IxR _ (rIxL K)) (pe_ix (ix_list : IxR _ (rIxL K)) (pv 1) (pv 7) (fun _ _ => rfl)) (pv 5) (fun _ _ => rfl)) pe_int (nomark _)))) (fun _ _ _ _ _ => (pv 7)))
    (pss_cons (ps_if (pt_cmpR (op_eqD hr.units) (pv 6) (pe_lst pa_nil) (nomark _)) (pss_one ps_continue) pss_nil)
    (pss_cons (ps_asg (pe_tup (pa_cons (pe_ix ix_list (pv 1) (pe_ix ix_list (pv 6) pe_int (fun _ _ => rfl)) (fun _ _ => rfl)) (pa_cons (pe_ix ix_list (pv 1) (pv 3) (fun _ _ => rfl)) pa_nil))) (pg_tup rfl (pgs_cons (pg_sub (pv 1) (pv 3) set_list) (pgs_cons (pg_sub (pv 1) (pe_ix ix_list (pv 6) pe_int (fun _ _ => rfl)) set_list) pgs_nil))))
    (pss_cons (ps_set (i := 8) sc_law_rank.nd rfl (Or.inr rfl) (pe_ix ix_list (pv 1) (pv 3) (fun _ _ => rfl)))
    (pss_cons (ps_for PassesOwn.never rfl (pi_range2 rfl B.range_ (pa_cons (pe_op op_add (pv 3) pe_int) (pa_cons (pe_callB (call_lenK : CallR _ (.builtin "len") (rLenK K)) (by rfl) B.len_ (by decide +kernel) (pa_cons (pv 1) pa_nil)) pa_nil))) (pg_name (i := 7) sc_law_rank.nd rfl (Or.inl rfl))
      (pss_cons (ps_set (i := 9) sc_law_rank.nd rfl (Or.inr rfl) (pe_ix (ix_list : IxR _ (rIxL K)) (pe_ix (ix_list : IxR _ (rIxL K)) (pv 1) (pv 7) (fun _ _ => rfl)) (pv 5) (fun _ _ => rfl)))
    (pss_one (ps_asg (pe_lc (own := [("_law_one", 10), ("_law_two", 11)]) (g := (gTup K 2 (gCons (gName 10) (gCons (gName 11) gNil)))) (tt := tYes) rfl sc_law_rank.nd (pi_zip (by rfl) B.zip_ (pa_cons (pe_ix (ix_list : IxR _ (rIxL K)) (pv 1) (pv 7) (fun _ _ => rfl)) (pa_cons (pv 8) pa_nil))) (blkOk_by (own := [("_law_one", 10), ("_law_two", 11)]) (N := ["_law_rows", "_law_left", "_law_last", "_law_place", "_law_row", "_law_k", "_law_found", "_law_j", "_law_lead", "_law_by", "_law_one", "_law_two"]) (sc := defScope st_law_rank) (by decide +kernel)) (fun _ _ _ _ _ => (pg_tup rfl (pgs_cons (pg_name (i := 10) sc_law_rank.nd rfl (Or.inl rfl)) (pgs_cons (pg_name (i := 11) sc_law_rank.nd rfl (Or.inl rfl)) pgs_nil)))) (fun _ _ _ _ _ => pts_nil) (fun _ _ _ _ _ => (pe_op op_fdivB (pe_op op_sub (pe_op op_mulW (pv 10) (pe_ix (ix_list : IxR _ (rIxL K)) (pv 8) (pv 5) (fun _ _ => rfl))) (pe_op op_mulW (pv 11) (pv 9))) (pv 2)))) (pg_sub (pv 1) (pv 7) set_list)))))
    (pss_cons (ps_asg (pe_tup (pa_cons (pe_ix (ix_list : IxR _ (rIxL K)) (pv 8) (pv 5) (fun _ _ => rfl)) (pa_cons (pe_op op_add (pv 3) pe_int) pa_nil))) (pg_tup rfl (pgs_cons (pg_name (i := 2) sc_law_rank.nd rfl (Or.inr rfl)) (pgs_cons (pg_name (i := 3) sc_law_rank.nd rfl (Or.inl rfl)) pgs_nil))))
    (pss_one (ps_if (pt_cmpR op_eq (pv 3) (pe_callB (call_lenK : CallR _ (.builtin "len") (rLenK K)) (by rfl) B.len_ (by decide +kernel) (pa_cons (pv 1) pa_nil)) (nomark _)) (pss_one ps_break) pss_nil)))))))))
    (pss_one (ps_ret (pv 3)))))), ?_⟩
    obtain ⟨w, W, B0, rows, rfl, hw, hl, lW, l30, hB, B1, fb, q⟩ := h
    obtain ⟨as, W1, W2⟩ := hw
    have las := prd_len W2
    refine ⟨_, rfl, w, rfl, ⟨_, SqL.of W1⟩, fun L hL => ?_⟩
    refine lc_list (K := K) (a := w) (xs := as.map V.ref) (fun i H' => Same H H' ∧ ∃ bs : List Addr, H' L = some (.lst (bs.map V.ref)) ∧ Paired (fun a r => a ≠ L ∧ H' a = some (.lst (r.map V.int))) bs (rows.take i)) ⟨AL.Same.new hL, [], upd_same, .nil⟩ (fun i H' _ hh => SqL.of (hh.1 _ _ W1)) ?_ ?_
    · rintro i x H1 hx ⟨s1, bs, hd, pr⟩
      obtain ⟨a, ha, rfl⟩ := map_ref hx
      obtain ⟨r, hr, hra⟩ := prd_get W2 ha
      have il := (List.getElem?_eq_some_iff.mp hr).1
      refine ⟨rfl, ?_⟩
      refine ⟨_, rfl, a, _, rfl, (hra.same s1).seq, fun D0 hD0 => ?_⟩
      have n0 := AL.Same.new (o := .lst (r.map V.int)) hD0
      have DL : D0 ≠ L := fun z => by rw [z, hd] at hD0; cases hD0
      have lbs := prd_len pr
      rw [List.length_take] at lbs
      obtain ⟨r1, r2⟩ := rowsZ_snoc (n0 _ _ hd) (paired_mono pr fun _ _ z => ⟨z.1, n0 _ _ z.2⟩) DL upd_same
      refine ⟨_, n0 _ _ hd, ?_, AL.Same.updn (s1.trans n0) hL, bs ++ [D0], r1, by rw [List.take_add_one, hr]; exact r2⟩
      rw [List.length_map, lbs]; exact Nat.lt_of_le_of_lt (by omega : _ ≤ 1000) (by decide)
    rintro H1 ⟨s1, bs, hL1, pr1⟩
    rw [List.length_map, las, List.take_length] at pr1
    have lbs := prd_len pr1
    refine ⟨(by show 3 ≤ sizeLine; decide), fun T hT => ?_⟩
    have nT := AL.Same.new (o := .tup [.ref L, .int 1, .int 0]) hT
    refine ⟨T, _, rfl, SqT.of upd_same, rfl, _, _, rfl, _, _, rfl, _, _, rfl, rfl, ?_⟩
    have s2 := s1.trans nT
    have hL2 := nT _ _ hL1
    have pr2 := paired_mono pr1 fun _ _ z => (⟨z.1, nT _ _ z.2⟩ : _ ≠ L ∧ upd H1 T (.tup [.ref L, .int 1, .int 0]) _ = _)
    generalize upd H1 T (.tup [.ref L, .int 1, .int 0]) = H2 at s2 hL2 pr2 ⊢
    clear nT hT hL1 pr1 s1
    refine ⟨_, rfl, (by show 0 ≤ sizeLine; decide), fun e he => ?_⟩
    have ne := AL.Same.new (o := .lst []) he
    have s3 := s2.trans ne
    have hL3 := ne _ _ hL2
    have pr3 := paired_mono pr2 fun _ _ z => (⟨z.1, ne _ _ z.2⟩ : _ ≠ L ∧ upd H2 e (.lst []) _ = _)
    refine ⟨.list (rows.map dL), .list [], .lst (SqL.of hL3) (dp_rowsL (paired_mono pr3 fun _ _ z => z.2)), .lst (SqL.of upd_same) .nil, shaped_rows _, rfl, _, rfl, ?_⟩
    rw [eqv_rowsL]
    generalize upd H2 e (.lst []) = H3 at s3 hL3 pr3 ⊢
    clear ne he s2 hL2 pr2
    by_cases c0 : rows = []
    · rw [decide_eq_true c0]
      refine iteT ?_
      subst c0
      exact q _ 0 s3 (bar_end (bar_start hl) (.inr rfl))
    rw [decide_eq_false c0]
    refine iteF ?_
    obtain ⟨r0, rows', hrs⟩ : ∃ r0 rows', rows = r0 :: rows' := by
      cases rows with
      | nil => exact absurd rfl c0
      | cons r0 rows' => exact ⟨r0, rows', rfl⟩
    obtain ⟨b0, bs', hbs⟩ : ∃ b0 bs', bs = b0 :: bs' := by
      cases bs with
      | nil => rw [hrs] at lbs; simp at lbs
      | cons b0 bs' => exact ⟨b0, bs', rfl⟩
    have h0 : LI H3 b0 r0 := by rw [hrs, hbs] at pr3; cases pr3 with | cons z _ => exact z.2
    have l0 := hl r0 (by rw [hrs]; exact List.mem_cons_self ..)
    have g0 : atI (bs.map V.ref) 0 = some (.ref b0) := by rw [hbs]; exact (atI_of (by rw [List.length_map, List.length_cons]; omega : 0 < _))
    refine ⟨_, rfl, L, _, _, _, rfl, rfl, SqL.of hL3, g0, b0, _, rfl, .inl (SqL.of h0), ?_⟩
    rw [List.length_map, l0]
    have n0 : 0 < rows.length := List.length_pos_iff.mpr c0
    refine ⟨_, rfl, by omega, by omega, for_range (lo := 0) (n := ((W : Nat) : Int).toNat) (fun i σ H' => ∃ (d : Int) (s : Nat) (v5 v6 v7 v8 v9 : Option V) (cs : List Addr) (left R : List Rw) (P : List Nat), σ = [some (.ref w), some (.ref L), some (.int d), some (.int (s : Int)), none, v5, v6, v7, v8, v9, none, none] ∧ Same H H' ∧ H' L = some (.lst (cs.map V.ref)) ∧ Paired (fun a r => a ≠ L ∧ H' a = some (.lst (r.map V.int))) cs left ∧ Bar W s i rows left d R P ∧ s < R.length) ⟨1, 0, none, none, none, none, none, bs, rows, rows, [], rfl, s3, hL3, pr3, bar_start hl, n0⟩ ?_ ?_⟩
    · rintro i σ H4 hi ⟨d, s, v5, v6, v7, v8, v9, cs, left, R, P, rfl, s4, hL4, pr4, br, sR⟩
      rw [Int.toNat_natCast] at hi
      have zi : (0 : Int) + (i : Int) = ((i : Nat) : Int) := Int.zero_add _
      rw [zi]
      have ll := br.ll
      have lR : R.length = rows.length := br.pm.length_eq
      have lcs := prd_len pr4
      refine ⟨_, rfl, _, rfl, L, _, rfl, .inl (SqL.of hL4), _, _, rfl, ?_, fun D hD => ?_⟩
      · rw [List.length_map]; exact ⟨by omega, by omega, by omega, by omega⟩
      refine lc_range (lo := (s : Int)) (n := (((cs.map V.ref).length : Int) - (s : Int)).toNat) (fun t H' => Same H4 H' ∧ ∃ fnd : List Nat, H' D = some (.lst (fnd.map fun j : Nat => V.int (j : Int))) ∧ fnd.length ≤ t ∧ (∀ j ∈ fnd, s ≤ j ∧ j < R.length ∧ vl (left.getD j []) i ≠ 0) ∧ ∀ j, s ≤ j → j < s + t → vl (left.getD j []) i ≠ 0 → j ∈ fnd) ⟨AL.Same.new hD, [], upd_same, Nat.le_refl _, (fun j hj => nomatch hj), fun j h1 h2 => by omega⟩ ?_ ?_
      · rintro t H5 ht ⟨s5, fnd, hd, lf, f1, f2⟩
        rw [List.length_map, lcs] at ht
        have jl : s + t < left.length := by omega
        have zt : (s : Int) + (t : Int) = ((s + t : Nat) : Int) := by omega
        rw [zt]
        obtain ⟨ca, hca⟩ : ∃ ca, cs[s + t]? = some ca := ⟨_, List.getElem?_eq_getElem (by omega)⟩
        obtain ⟨r, hr, hcr⟩ := prd_get pr4 hca
        have er : left.getD (s + t) [] = r := by rw [List.getD_eq_getElem?_getD, hr]; rfl
        have lr : r.length = W := br.lw r (List.mem_of_getElem? hr)
        have gc : atI (cs.map V.ref) ((s + t : Nat) : Int) = some (.ref ca) := by rw [atI_of (by rw [List.length_map]; omega), List.getElem?_map, hca]; rfl
        have gr : atI (r.map V.int) ((i : Nat) : Int) = some (.int (vl r i)) := by rw [atI_of (by rw [List.length_map]; omega), List.getElem?_map, vl_at (by omega)]; rfl
        refine ⟨rfl, ?_⟩
        refine ⟨_, rfl, _, rfl, L, _, _, _, rfl, rfl, SqL.of (s5 _ _ hL4), gc, _, rfl, ca, _, _, _, rfl, rfl, SqL.of (s5 _ _ hcr.2), gr, rfl, _, rfl, ?_⟩
        by_cases c : vl r i = 0
        · rw [show (!decide (V.int (vl r i) = V.int 0)) = false by rw [c, decide_eq_true rfl]; rfl]
          refine iteF ?_
          refine ⟨s5, fnd, hd, by omega, f1, fun j h1 h2 h3 => ?_⟩
          by_cases e : j = s + t
          · rw [e, er] at h3; exact absurd c h3
          · exact f2 j h1 (by omega) h3
        · rw [show (!decide (V.int (vl r i) = V.int 0)) = true by rw [decide_eq_false (fun w => c (by injection w))]; rfl]
          refine iteT ?_
          refine ⟨_, rfl, _, hd, ?_, AL.Same.updn s5 hD, fnd ++ [s + t], by rw [upd_same, List.map_append]; rfl, by rw [List.length_append]; exact Nat.succ_le_succ lf, fun j hj => ?_, fun j h1 h2 h3 => ?_⟩
          · rw [List.length_map]; exact Nat.lt_of_le_of_lt (by omega : _ ≤ 1000) (by decide)
          · rcases List.mem_append.mp hj with h | h
            · exact f1 j h
            · rw [List.mem_singleton.mp h, er]; exact ⟨by omega, by omega, c⟩
          · by_cases e : j = s + t
            · rw [e]; exact List.mem_append_right _ (List.mem_singleton.mpr rfl)
            · exact List.mem_append_left _ (f2 j h1 (by omega) h3)
      rintro H5 ⟨s5, fnd, hd, lf, f1, f2⟩
      rw [List.length_map, lcs] at f2
      have hL5 := s5 _ _ hL4
      have pr5 := paired_mono pr4 fun _ _ z => (⟨z.1, s5 _ _ z.2⟩ : _ ≠ L ∧ H5 _ = _)
      have s45 := s4.trans s5
      clear s5 hL4 pr4 s4
      refine ⟨_, rfl, (by show 0 ≤ sizeLine; decide), fun e he => ?_⟩
      have ne := AL.Same.new (o := .lst []) he
      have hd6 := ne _ _ hd
      refine ⟨.list ((fnd.map fun j : Nat => (j : Int)).map PyData.int), .list (([] : List Int).map PyData.int), .lst (SqL.of (by rw [hd6, List.map_map]; rfl)) (dpAll_int _), .lst (SqL.of upd_same) .nil, shaped_intsL _, shaped_intsL _, _, rfl, ?_⟩
      rw [eqv_intsL]
      have hL6 := ne _ _ hL5
      have pr6 := paired_mono pr5 fun _ _ z => (⟨z.1, ne _ _ z.2⟩ : _ ≠ L ∧ upd H5 e (.lst []) _ = _)
      have s6 := s45.trans ne
      generalize upd H5 e (.lst []) = H6 at hd6 hL6 pr6 s6 ⊢
      clear ne he hL5 pr5 s45 hd
      cases fnd with
      | nil =>
        rw [show decide ((([] : List Nat).map fun j : Nat => (j : Int)) = ([] : List Int)) = true from rfl]
        refine iteT ?_
        refine ⟨d, s, _, _, _, _, _, cs, left, R, P, rfl, s6, hL6, pr6, bar_skip br (fun j h1 h2 => Classical.byContradiction fun c => ?_), sR⟩
        have := f2 j h1 (by omega) c
        exact nomatch this
      | cons f fnd =>
        rw [decide_eq_false (fun z => nomatch z)]
        refine iteF ?_
        obtain ⟨sf, fl, fz⟩ := f1 f (List.mem_cons_self ..)
        clear f1 f2 lf
        have sl : s < left.length := by omega
        have fl' : f < left.length := by omega
        have g0 : atI ((f :: fnd).map fun j : Nat => V.int (j : Int)) 0 = some (.int (f : Int)) := atI_of (by rw [List.length_map, List.length_cons]; omega : 0 < _)
        have cf : f < cs.length := by omega
        have cS : s < cs.length := by omega
        have gf : atI (cs.map V.ref) ((f : Nat) : Int) = some (.ref cs[f]) := by rw [atI_of (by rw [List.length_map]; omega), List.getElem?_map, List.getElem?_eq_getElem cf]; rfl
        have gs : atI (cs.map V.ref) ((s : Nat) : Int) = some (.ref cs[s]) := by rw [atI_of (by rw [List.length_map]; omega), List.getElem?_map, List.getElem?_eq_getElem cS]; rfl
        refine ⟨_, rfl, _, rfl, D, _, _, _, rfl, rfl, SqL.of hd6, g0, L, _, _, _, rfl, rfl, SqL.of hL6, gf, _, rfl, _, rfl, L, _, _, _, rfl, rfl, SqL.of hL6, gs, (by show 2 ≤ sizeLine; decide), fun T0 hT0 => ?_⟩
        have nT := AL.Same.new (o := .tup [.ref cs[f], .ref cs[s]]) hT0
        have DL : D ≠ L := fun z => by
          rw [z, hL6] at hd6
          have := congrArg (fun o => match o with | some (HO.lst (V.int _ :: _)) => true | _ => false) hd6
          cases cs with
          | nil => simp at cf
          | cons a b => exact nomatch this
        refine ⟨T0, _, rfl, SqT.of upd_same, rfl, _, _, rfl, _, rfl, _, rfl, L, _, _, _, rfl, rfl, nT _ _ hL6, ixN_of (by rw [List.length_map]; exact cS), ?_⟩
        refine ⟨_, _, rfl, _, rfl, _, rfl, D, _, _, _, rfl, rfl, SqL.of (Eq.trans (upd_ne DL) (nT _ _ hd6)), g0, L, _, _, _, rfl, rfl, upd_same, ixN_of (by rw [List.length_set, List.length_map]; exact cf), rfl, ?_⟩
        rw [L2.upd_upd]
        obtain ⟨R', br', lR'⟩ := bar_swap br sl sf fl'
        have lcs6 := prd_len pr6
        have e1 : left[f] = left[f]'fl' := rfl
        obtain ⟨lf', hlf', plf⟩ := prd_get pr6 (List.getElem?_eq_getElem cf)
        obtain ⟨ls', hls', pls⟩ := prd_get pr6 (List.getElem?_eq_getElem cS)
        rw [List.getElem?_eq_getElem fl'] at hlf'
        rw [List.getElem?_eq_getElem sl] at hls'
        obtain rfl := Option.some.inj hlf'
        obtain rfl := Option.some.inj hls'
        have pr7 : Paired (fun a r => a ≠ L ∧ H6 a = some (.lst (r.map V.int))) ((cs.set s cs[f]).set f cs[s]) ((left.set s left[f]).set f left[s]) := prd_set (prd_set pr6 s plf) f pls
        have sw : (left.set s left[f]).set f left[s] = (left.set s left[f]).set f left[s] := rfl
        have lead0 : ((left.set s left[f]).set f left[s]).getD s [] = left.getD f [] := by
          rw [getD_swap sl fl' sl]
          by_cases e : s = f
          · rw [if_pos e, e]
          · rw [if_neg e, if_pos rfl]
        have hk : vl (((left.set s left[f]).set f left[s]).getD s []) i ≠ 0 := by rw [lead0]; exact fz
        have ev : ((cs.map V.ref).set s (.ref cs[f])).set f (.ref cs[s]) = ((cs.set s cs[f]).set f cs[s]).map V.ref := by rw [List.map_set, List.map_set]
        rw [ev]
        have pr8 : Paired (fun a r => a ≠ L ∧ upd (upd H6 T0 (.tup [.ref cs[f], .ref cs[s]])) L (.lst (((cs.set s cs[f]).set f cs[s]).map V.ref)) a = some (.lst (r.map V.int))) ((cs.set s cs[f]).set f cs[s]) ((left.set s left[f]).set f left[s]) := paired_mono pr7 fun _ _ z => ⟨z.1, by rw [upd_ne z.1]; exact nT _ _ z.2⟩
        have hL8 : upd (upd H6 T0 (.tup [.ref cs[f], .ref cs[s]])) L (.lst (((cs.set s cs[f]).set f cs[s]).map V.ref)) L = _ := upd_same
        have s8 : Same H (upd (upd H6 T0 (.tup [.ref cs[f], .ref cs[s]])) L (.lst (((cs.set s cs[f]).set f cs[s]).map V.ref))) := AL.Same.updn (s6.trans nT) hL
        generalize upd (upd H6 T0 (.tup [.ref cs[f], .ref cs[s]])) L (.lst (((cs.set s cs[f]).set f cs[s]).map V.ref)) = H8 at pr8 hL8 s8 ⊢
        have lR8 : R'.length = rows.length := by rw [lR', lR]
        have ll8 := br'.ll
        have bd8 := fun {j : Nat} (h1 : s ≤ j) (h2 : j < R'.length) (c : Nat) => bar_bd br' hB h1 h2 c
        have d8 : ∀ r ∈ (left.set s left[f]).set f left[s], r.length = W := br'.lw
        generalize (left.set s left[f]).set f left[s] = left2 at *
        generalize (cs.set s cs[f]).set f cs[s] = cs2 at *
        clear pr7 pr6 hd6 hL6 s6 nT hT0 ev lead0 fz plf pls gf gs g0 DL hD
        have lcs2 := prd_len pr8
        obtain ⟨la, hla⟩ : ∃ la, cs2[s]? = some la := ⟨_, List.getElem?_eq_getElem (by omega)⟩
        obtain ⟨lead, hlead, plead⟩ := prd_get pr8 hla
        have elead : left2.getD s [] = lead := by rw [List.getD_eq_getElem?_getD, hlead]; rfl
        have llead : lead.length = W := d8 lead (List.mem_of_getElem? hlead)
        have gs : atI (cs2.map V.ref) ((s : Nat) : Int) = some (.ref la) := by rw [atI_of (by rw [List.length_map]; omega), List.getElem?_map, hla]; rfl
        have gl : atI (lead.map V.int) ((i : Nat) : Int) = some (.int (vl lead i)) := by rw [atI_of (by rw [List.length_map]; omega), List.getElem?_map, vl_at (by omega)]; rfl
        have fbs : facB B0 (s + 1) < 2 ^ 6000 := Nat.lt_of_le_of_lt (facB_mono B1 (by omega)) fb
        refine ⟨_, rfl, _, rfl, L, _, _, _, rfl, rfl, SqL.of hL8, gs, ?_⟩
        refine ⟨_, rfl, _, _, rfl, rfl, _, rfl, L, _, rfl, .inl (SqL.of hL8), _, _, rfl, ?_, ?_⟩
        · rw [List.length_map]; exact ⟨by omega, by omega, by omega, by omega⟩
        rw [List.length_map, lcs2]
        refine for_range (lo := (s : Int) + 1) (n := (((left2.length : Nat) : Int) - ((s : Int) + 1)).toNat) (fun t σ H' => ∃ (v7 v9 : Option V) (cs3 : List Addr) (left3 : List Rw), σ = [some (.ref w), some (.ref L), some (.int d), some (.int (s : Int)), none, some (.int (i : Int)), some (.ref D), v7, some (.ref la), v9, none, none] ∧ Same H H' ∧ H' L = some (.lst (cs3.map V.ref)) ∧ Paired (fun a r => a ≠ L ∧ H' a = some (.lst (r.map V.int))) cs3 left3 ∧ LI H' la lead ∧ left3.length = left2.length ∧ ∀ j, j < R'.length → left3.getD j [] = if s < j ∧ j < s + 1 + t then barR lead (left2.getD j []) i d else left2.getD j []) ⟨_, _, cs2, left2, rfl, s8, hL8, pr8, plead.2, rfl, fun j hj => by rw [if_neg (by omega)]⟩ ?_ ?_
        · rintro t σ H9 ht ⟨v7, v9, cs3, left3, rfl, s9, hL9, pr9, hl9, ll3, g3⟩
          have lcs3 := prd_len pr9
          have jl : s + 1 + t < left3.length := by omega
          have zt : (s : Int) + 1 + (t : Int) = ((s + 1 + t : Nat) : Int) := by omega
          rw [zt]
          generalize hj : s + 1 + t = j at *
          obtain ⟨ca, hca⟩ : ∃ ca, cs3[j]? = some ca := ⟨_, List.getElem?_eq_getElem (by omega)⟩
          obtain ⟨r, hr, hcr⟩ := prd_get pr9 hca
          have er : left2.getD j [] = r := by
            have := g3 j (by omega)
            rw [if_neg (by omega), List.getD_eq_getElem?_getD, hr] at this
            exact this.symm
          have lr : r.length = W := by
            rw [← er, List.getD_eq_getElem?_getD, List.getElem?_eq_getElem (by omega)]
            exact d8 _ (List.getElem_mem _)
          have gc : atI (cs3.map V.ref) ((j : Nat) : Int) = some (.ref ca) := by rw [atI_of (by rw [List.length_map]; omega), List.getElem?_map, hca]; rfl
          have gr : atI (r.map V.int) ((i : Nat) : Int) = some (.int (vl r i)) := by rw [atI_of (by rw [List.length_map]; omega), List.getElem?_map, vl_at (by omega)]; rfl
          have rb : ∀ c, (vl r c).natAbs < 2 ^ 6000 := fun c => Nat.lt_of_le_of_lt (by rw [← er]; exact bd8 (by omega) (by omega) c) fbs
          have lb : ∀ c, (vl lead c).natAbs < 2 ^ 6000 := fun c => Nat.lt_of_le_of_lt (by rw [← elead]; exact bd8 (Nat.le_refl s) (by omega) c) fbs
          refine ⟨_, rfl, _, rfl, L, _, _, _, rfl, rfl, SqL.of hL9, gc, _, rfl, ca, _, _, _, rfl, rfl, SqL.of hcr.2, gr, ?_⟩
          refine ⟨_, rfl, _, rfl, L, _, _, _, rfl, rfl, SqL.of hL9, gc, _, rfl, ca, la, _, _, rfl, SqL.of hcr.2, SqL.of hl9, fun D2 hD2 => ?_⟩
          refine lc_it (walk_zip (K := K) (a := ca) (b := la) (xs := r.map V.int) (ys := lead.map V.int) (n := W) (by rw [List.length_map, List.length_map, lr, llead, Nat.min_self])) (fun c H' => Same H9 H' ∧ H' D2 = some (.lst (((barR lead r i d).take c).map V.int))) ⟨AL.Same.new hD2, upd_same⟩ (fun i H' _ hh => ⟨SqL.of (hh.1 _ _ hcr.2), SqL.of (hh.1 _ _ hl9)⟩) ?_ ?_
          · rintro c x H10 H11 hc ⟨s10, hd10⟩ ⟨T1, u1, u2, rfl, hT1, rfl, e1, e2⟩
            obtain ⟨z1, c1, rfl⟩ := map_int e1
            obtain ⟨z2, c2, rfl⟩ := map_int e2
            have hDT : D2 ≠ T1 := fun z => by rw [z, hT1] at hd10; cases hd10
            have sT : Same H9 (upd H10 T1 (.tup [.int z1, .int z2])) := s10.trans (AL.Same.new hT1)
            have b1 : z1.natAbs < 2 ^ 6000 := by have := rb c; rwa [vl_get c1] at this
            have b2 : z2.natAbs < 2 ^ 6000 := by have := lb c; rwa [vl_get c2] at this
            refine ⟨T1, _, rfl, SqT.of upd_same, rfl, _, _, rfl, _, _, rfl, rfl, rfl, ?_⟩
            refine ⟨_, rfl, _, rfl, _, rfl, la, _, _, _, rfl, rfl, SqL.of (sT _ _ hl9), gl, _, _, rfl, rfl, wml b1 (lb i) (by decide) (by decide), _, rfl, _, rfl, _, _, rfl, rfl, wml b2 (rb i) (by decide) (by decide), _, _, rfl, rfl, _, rfl, _, _, rfl, rfl, ⟨br'.d0, ?_⟩, _, Eq.trans (upd_ne hDT) hd10, ?_, AL.Same.updn sT hD2, ?_⟩
            · have m1 : (z1 * vl lead i).natAbs < 2 ^ 6000 * 2 ^ 6000 := by
                rw [Int.natAbs_mul]; exact Nat.mul_lt_mul'' b1 (lb i)
              have m2 : (z2 * vl r i).natAbs < 2 ^ 6000 * 2 ^ 6000 := by
                rw [Int.natAbs_mul]; exact Nat.mul_lt_mul'' b2 (rb i)
              rw [← Nat.pow_add] at m1 m2
              have m3 : 2 ^ (6000 + 6000) + 2 ^ (6000 + 6000) = 2 ^ 12001 := by rw [Nat.pow_succ 2 12000, Nat.mul_two]
              have m4 : 2 ^ 12001 ≤ 2 ^ 13500 := Nat.pow_le_pow_right (by decide) (by decide)
              omega
            · rw [List.length_map, List.length_take]; exact Nat.lt_of_le_of_lt (by omega : _ ≤ 1000) (by decide)
            · have g : (barR lead r i d)[c]? = some ((z1 * vl lead i - z2 * vl r i).fdiv d) := by unfold barR; rw [List.getElem?_zipWith, c1, c2]
              rw [upd_same, List.take_add_one, g, List.map_append]; rfl
          rintro H10 ⟨s10, hd10⟩
          rw [List.take_of_length_le (by rw [barR_len (by omega), lr]; exact Nat.le_refl _)] at hd10
          have D2L : D2 ≠ L := fun z => by rw [z, hL9] at hD2; cases hD2
          have laL : la ≠ L := plead.1
          refine ⟨_, rfl, _, rfl, L, _, _, _, rfl, rfl, s10 _ _ hL9, ixN_of (by rw [List.length_map]; omega), ?_⟩
          have ev : (cs3.map V.ref).set j (.ref D2) = (cs3.set j D2).map V.ref := by rw [List.map_set]
          rw [ev]
          refine ⟨_, _, cs3.set j D2, left3.set j (barR lead r i d), rfl, AL.Same.updn (s9.trans s10) hL, upd_same, prd_set (paired_mono pr9 fun _ _ z => ⟨z.1, by rw [upd_ne z.1]; exact s10 _ _ z.2⟩) j ⟨D2L, by rw [upd_ne D2L]; exact hd10⟩, Eq.trans (upd_ne laL) (s10 _ _ hl9), by rw [List.length_set]; exact ll3, fun j' hj' => ?_⟩
          by_cases e : j' = j
          · subst e
            rw [List.getD_eq_getElem?_getD, List.getElem?_set_self jl, if_pos (by omega), er]; rfl
          · rw [List.getD_eq_getElem?_getD, List.getElem?_set_ne (fun z => e z.symm), ← List.getD_eq_getElem?_getD, g3 j' hj']
            by_cases c : s < j' ∧ j' < j
            · rw [if_pos c, if_pos (by omega)]
            · rw [if_neg c, if_neg (by omega)]
        · rintro σ H9 ⟨v7, v9, cs3, left3, rfl, s9, hL9, pr9, hl9, ll3, g3⟩
          have nb : Bar W (s + 1) (i + 1) rows left3 (vl lead i) R' (P ++ [i]) := by
            have w := bar_step br' (by omega) hk (left' := left3) (by omega) fun j hj => by
              rw [g3 j hj, elead]
              by_cases c : s < j
              · rw [if_pos (by omega), if_pos c]
              · rw [if_neg (by omega), if_neg c]
            rw [elead] at w
            exact w
          have lcs3 := prd_len pr9
          refine ⟨_, rfl, _, rfl, la, _, _, _, rfl, rfl, SqL.of hl9, gl, _, rfl, _, _, rfl, rfl, (by show 2 ≤ sizeLine; decide), fun T2 hT2 => ?_⟩
          have zs : (s : Int) + 1 = ((s + 1 : Nat) : Int) := by omega
          have nT := AL.Same.new (o := .tup [.int (vl lead i), .int ((s : Int) + 1)]) hT2
          have hL10 := nT _ _ hL9
          have pr10 := paired_mono pr9 fun _ _ z => (⟨z.1, nT _ _ z.2⟩ : _ ≠ L ∧ upd H9 T2 (.tup [.int (vl lead i), .int ((s : Int) + 1)]) _ = _)
          have s10 := s9.trans nT
          refine ⟨T2, _, rfl, SqT.of upd_same, rfl, _, _, rfl, _, _, rfl, rfl, ?_⟩
          refine ⟨_, rfl, _, rfl, L, _, rfl, .inl (SqL.of hL10), rfl, _, rfl, ?_⟩
          rw [List.length_map]
          dsimp only
          by_cases c : s + 1 = cs3.length
          · rw [show decide (V.int ((s : Int) + 1) = V.int (cs3.length : Int)) = true from decide_eq_true (by rw [zs, c])]
            refine iteT ?_
            exact ⟨_, rfl, q _ (s + 1) s10 (bar_end nb (.inr (by omega)))⟩
          · rw [show decide (V.int ((s : Int) + 1) = V.int (cs3.length : Int)) = false from decide_eq_false (fun z => c (by injection z with z; omega))]
            refine iteF ?_
            exact ⟨vl lead i, s + 1, _, _, _, _, _, cs3, left3, R', _, rfl, s10, hL10, pr10, nb, by omega⟩
    · rintro σ H4 ⟨d, s, v5, v6, v7, v8, v9, cs, left, R, P, rfl, s4, hL4, pr4, br, sR⟩
      rw [Int.toNat_natCast] at br
      exact ⟨_, rfl, q _ s s4 (bar_end br (.inl (Nat.le_refl _)))⟩
end
end AL
set_option Elab.async false
set_option maxRecDepth 100000
set_option exponentiation.threshold 70000
set_option maxHeartbeats 1000000
namespace AL
open PySem PySem.Spec PyProof.Rows L2 RZ
section
variable {P : Program} {w : World} {K : PySem.W.Frag} {mg : Str → Option Value} {base : Heap}

def spWh7 : Sp := fun vs H Q _ => ∃ (i : Int), vs = [.int i] ∧ Q (.bl true) H

abbrev st_law_is_whole : Stmt := top 38
theorem sc_law_is_whole : FnScope ["_law_value"] ["_law_value"] (defScope st_law_is_whole) := ⟨rfl, rfl, rfl, by decide +kernel, rfl, by decide +kernel, by decide +kernel⟩
theorem ok_law_is_whole (B : Blt mg)  {f_law_is_whole : Addr} {fd_law_is_whole : FuncData} (D_law_is_whole : DefAt K mg "_law_is_whole" st_law_is_whole ["_law_value"] f_law_is_whole fd_law_is_whole) : FnOk P w K mg base CX0 1 f_law_is_whole fd_law_is_whole ["_law_value"] spWh7 := by
  refine D_law_is_whole.F.ok sc_law_is_whole (fun vs H Q E h => ?_) (fun cdv A outer s H vs Q E hr h => ?_)
  · obtain ⟨i, rfl, _⟩ := h; rfl
  · have hu := hu_of hr
    refine ⟨_, (pss_one (ps_ret (pe_and (pe_callB call_isi (by rfl) B.isinstance_ (by decide +kernel) (pa_cons (pv 0) (pa_cons (pe_bltn (v := .ty "int") (by rfl) B.int_ PyProof.Rows.Boot.«int» rfl) pa_nil))) (pe_one (pe_not (pe_callB call_isi (by rfl) B.isinstance_ (by decide +kernel) (pa_cons (pv 0) (pa_cons (pe_bltn (v := .ty "bool") (by rfl) B.bool_ PyProof.Rows.Boot.«bool» rfl) pa_nil)))))))), ?_⟩
    obtain ⟨i, rfl, q⟩ := h
    refine ⟨_, rfl, _, _, _, _, _, rfl, ClsV.ty _, TyX.base (.int _), rfl, true, rfl, ?_⟩
    refine iteT ?_
    refine ⟨_, rfl, _, _, _, _, _, rfl, ClsV.ty _, TyX.base (.int _), rfl, _, rfl, ?_⟩
    exact q
end
end AL
set_option Elab.async false
set_option maxRecDepth 100000
set_option exponentiation.threshold 70000
set_option maxHeartbeats 1000000
namespace AL
open PySem PySem.Spec PyProof.Rows L2 RZ
section
variable {P : Program} {w : World} {K : PySem.W.Frag} {mg : Str → Option Value} {base : Heap}

/-- _law_is_ratio(value), a ratio -/
def spIr7 : Sp := fun vs H Q _ => ∃ (t : Addr) (x : Rat), vs = [.ref t] ∧ RQ H t x ∧ x.num.natAbs < N6 ∧ x.den < N6 ∧ Q (.bl true) H

abbrev st_law_is_ratio : Stmt := top 39
theorem sc_law_is_ratio : FnScope ["_law_value"] ["_law_value"] (defScope st_law_is_ratio) := ⟨rfl, rfl, rfl, by decide +kernel, rfl, by decide +kernel, by decide +kernel⟩
theorem ok_law_is_ratio (B : Blt mg)  {f_law_gcd : Addr} {fd_law_gcd : FuncData} (D_law_gcd : DefAt K mg "_law_gcd" st_law_gcd ["_law_one", "_law_two"] f_law_gcd fd_law_gcd) {f_law_is_whole : Addr} {fd_law_is_whole : FuncData} (D_law_is_whole : DefAt K mg "_law_is_whole" st_law_is_whole ["_law_value"] f_law_is_whole fd_law_is_whole) {f_law_is_ratio : Addr} {fd_law_is_ratio : FuncData} (D_law_is_ratio : DefAt K mg "_law_is_ratio" st_law_is_ratio ["_law_value"] f_law_is_ratio fd_law_is_ratio) : FnOk P w K mg base CX0 2 f_law_is_ratio fd_law_is_ratio ["_law_value"] spIr7 := by
  have OK_law_gcd : FnOk P w K mg base CX0 1 f_law_gcd fd_law_gcd ["_law_one", "_law_two"] spGcdL := ok_law_gcd B  D_law_gcd
  have OK_law_is_whole : FnOk P w K mg base CX0 1 f_law_is_whole fd_law_is_whole ["_law_value"] spWh7 := ok_law_is_whole B  D_law_is_whole
  refine D_law_is_ratio.F.ok sc_law_is_ratio (fun vs H Q E h => ?_) (fun cdv A outer s H vs Q E hr h => ?_)
  · obtain ⟨t, x, rfl, _⟩ := h; rfl
  · have hu := hu_of hr
    refine ⟨_, (pss_cons (ps_if (PW.pt (pw_or (pt_not (pt_val (pe_callB call_isi (by rfl) B.isinstance_ (by decide +kernel) (pa_cons (pv 0) (pa_cons (pe_bltn (v := .ty "tuple") (by rfl) B.tuple_ PyProof.Rows.Boot.«tuple» rfl) pa_nil))))) (pw_or1 (pt_cmpR op_ne (pe_callB call_len_seq (by rfl) B.len_ (by decide +kernel) (pa_cons (pv 0) pa_nil)) pe_int (nomark _))))) (pss_one (ps_ret pe_bl)) pss_nil)
    (pss_cons (ps_if (PW.pt (pw_or (pt_not (pt_val (pe_call OK_law_is_whole (hr.mono (by decide)) rfl D_law_is_whole.m D_law_is_whole.F.kp D_law_is_whole.b .nil pass0 (pa_cons (pe_ix ix_tup (pv 0) pe_int (fun _ _ => rfl)) pa_nil)))) (pw_or (pt_not (pt_val (pe_call OK_law_is_whole (hr.mono (by decide)) rfl D_law_is_whole.m D_law_is_whole.F.kp D_law_is_whole.b .nil pass0 (pa_cons (pe_ix ix_tup (pv 0) pe_int (fun _ _ => rfl)) pa_nil)))) (pw_or1 (pt_cmpR op_le (pe_ix ix_tup (pv 0) pe_int (fun _ _ => rfl)) pe_int (nomark _)))))) (pss_one (ps_ret pe_bl)) pss_nil)
    (pss_one (ps_ret (pe_cmpR op_eq (pe_call OK_law_gcd (hr.mono (by decide)) rfl D_law_gcd.m D_law_gcd.F.kp D_law_gcd.b .nil pass0 (pa_cons (pe_ix ix_tup (pv 0) pe_int (fun _ _ => rfl)) (pa_cons (pe_ix ix_tup (pv 0) pe_int (fun _ _ => rfl)) pa_nil))) pe_int (nomark _)))))), ?_⟩
    obtain ⟨t, x, rfl, ht, ha, hb, q⟩ := h
    have ht' : H t = some (.tup [.int x.num, .int (x.den : Int)]) := ht
    have h0 := x.den_pos
    refine ⟨_, rfl, _, _, _, _, _, rfl, ClsV.ty _, TyX.base (.tup ht'), rfl, true, rfl, ?_⟩
    refine iteF ?_
    refine ⟨_, rfl, t, _, rfl, .inr (SqT.of ht'), rfl, _, rfl, ?_⟩
    refine iteF ?_
    refine ⟨_, rfl, t, _, _, _, rfl, rfl, SqT.of ht', rfl, _, rfl, _, rfl, ?_⟩
    refine iteF ?_
    refine ⟨_, rfl, t, _, _, _, rfl, rfl, SqT.of ht', rfl, _, rfl, _, rfl, ?_⟩
    refine iteF ?_
    refine ⟨_, rfl, t, _, _, _, rfl, rfl, SqT.of ht', rfl, _, _, rfl, rfl, _, rfl, ?_⟩
    refine ite2 (fun hneg => absurd (of_decide_eq_true hneg) (by omega)) (fun _ => ?_)
    refine ⟨_, rfl, t, _, _, _, rfl, rfl, SqT.of ht', rfl, _, rfl, t, _, _, _, rfl, rfl, SqT.of ht', rfl, x.num, (x.den : Int), rfl, ha, by rw [Int.natAbs_natCast]; exact hb, ?_⟩
    rw [Int.natAbs_natCast, show Nat.gcd x.num.natAbs x.den = 1 from x.reduced]
    exact ⟨rfl, q⟩
end
end AL
set_option Elab.async false
set_option maxRecDepth 100000
set_option exponentiation.threshold 70000
set_option maxHeartbeats 1000000
namespace AL
open PySem PySem.Spec PyProof.Rows L2 RZ
section
variable {P : Program} {w : World} {K : PySem.W.Frag} {mg : Str → Option Value} {base : Heap}
theorem same_k7 {p : Addr} {H H' : Hp} (s : Same H H') : Keep p H H' := fun b o _ h => s _ _ h
theorem keep_upd7 {p : Addr} {H H' : Hp} {D : Addr} {o : HO} (k : Keep p H H') (h : H D = none) : Keep p H (upd H' D o) := fun b u nb e => by
  rw [upd_ne (ne_of_none e h)]; exact k b u nb e
theorem pen_ne7 {H : Hp} {p c : Addr} {m : Nat} {D : Addr} (P : Pen H p c m) (h : H D = none) : p ≠ D ∧ c ≠ D := by
  refine ⟨fun z => ?_, fun z => ?_⟩
  · obtain ⟨l, w⟩ := P.dict
    rw [z, h] at w; cases w
  · obtain ⟨ns, i, d, n, f, h1, h2, _⟩ := P.ex
    rw [z, h] at h2; cases h2
theorem pen_upd7 {H : Hp} {p c : Addr} {m : Nat} {D : Addr} {o : HO} (P : Pen H p c m) (h1 : p ≠ D) (h2 : c ≠ D) : Pen (upd H D o) p c m := P.keep (fun u e => by rw [upd_ne h1]; exact e) fun u e => by rw [upd_ne h2]; exact e
/-- a sum over the first n -/
def sm : Nat → (Nat → Int) → Int
  | 0, _ => 0
  | n + 1, f => sm n f + f n
theorem sm_congr {f g : Nat → Int} : ∀ {n : Nat}, (∀ t, t < n → f t = g t) → sm n f = sm n g
  | 0, _ => rfl
  | n + 1, h => by unfold sm; rw [sm_congr fun t ht => h t (by omega), h n (by omega)]
theorem sm_zero : ∀ n : Nat, sm n (fun _ => 0) = 0
  | 0 => rfl
  | n + 1 => by unfold sm; rw [sm_zero n]; rfl
theorem sm_lin (a b : Int) (f g : Nat → Int) : ∀ n : Nat, sm n (fun t => a * f t + b * g t) = a * sm n f + b * sm n g
  | 0 => by unfold sm; grind
  | n + 1 => by unfold sm; rw [sm_lin a b f g n]; grind
theorem sm_one {f : Nat → Int} {k : Nat} : ∀ {n : Nat}, k < n → (∀ t, t < n → t ≠ k → f t = 0) → sm n f = f k
  | 0, h, _ => by omega
  | n + 1, h, z => by
    unfold sm
    by_cases e : k = n
    · rw [sm_congr (g := fun _ => 0) fun t ht => z t (by omega) (by omega), sm_zero, e]; grind
    · rw [sm_one (n := n) (by omega) fun t ht => z t (by omega), z n (by omega) (by omega)]; grind
theorem unitR_vl {n j t : Nat} (ht : t < n) : vl (unitR n j) t = if t = j then 1 else 0 := by
  unfold vl unitR
  rw [List.getD_eq_getElem?_getD, List.getElem?_map, List.getElem?_range ht]; rfl
theorem sumF_null : ∀ {F : List Rw} {as : List Int} {j : Nat}, (∀ (k : Nat) (g : Rw) (b : Int), F[k]? = some g → as[k]? = some b → b * vl g j = 0) → sumF as F j = 0
  | [], as, _, _ => by unfold sumF; cases as <;> rfl
  | _ :: _, [], _, _ => rfl
  | g :: F, b :: as, j, z => by
    have ih := sumF_null (F := F) (as := as) (j := j) fun k g b hk hb => z (k + 1) g b (by simpa using hk) (by simpa using hb)
    have w := z 0 g b rfl rfl
    unfold sumF at ih ⊢
    rw [List.zipWith_cons_cons, List.sum_cons, ih, w]; rfl
theorem sumF_only : ∀ {F : List Rw} {as : List Int} {i j : Nat} {f : Rw} {a : Int}, F[i]? = some f → as[i]? = some a → (∀ (k : Nat) (g : Rw) (b : Int), F[k]? = some g → as[k]? = some b → k ≠ i → b * vl g j = 0) → sumF as F j = a * vl f j
  | [], _, _, _, _, _, h, _, _ => by simp at h
  | _ :: _, [], _, _, _, _, _, h, _ => by simp at h
  | g :: F, b :: as, 0, j, f, a, hf, ha, z => by
    cases Option.some.inj hf
    cases Option.some.inj ha
    have w := sumF_null (F := F) (as := as) (j := j) fun k g b hk hb => z (k + 1) g b (by simpa using hk) (by simpa using hb) (by omega)
    unfold sumF at w ⊢
    rw [List.zipWith_cons_cons, List.sum_cons, w, Int.add_zero]
  | g :: F, b :: as, i + 1, j, f, a, hf, ha, z => by
    have ih := sumF_only (F := F) (as := as) (i := i) (j := j) (f := f) (a := a) (by simpa using hf) (by simpa using ha) fun k g b hk hb ne => z (k + 1) g b (by simpa using hk) (by simpa using hb) (by omega)
    have w := z 0 g b rfl rfl (by omega)
    unfold sumF at ih ⊢
    rw [List.zipWith_cons_cons, List.sum_cons, ih, w, Int.zero_add]
theorem pos_allZ {f : Rw} (h : 0 < vl f (piv f)) : ¬ allZ f := not_allZ (j := piv f) (by omega)
/-- where something of the span leads, a row leads -/
theorem span_lead {W : Nat} {F : List Rw} (R : Rref W F) {x : Nat → Int} (h : Spn (inR F) x) {T p : Nat} (hp : p < T) (xp : x p ≠ 0) (z : ∀ g ∈ F, piv g < T → piv g ≠ p → x (piv g) = 0) :
    (∃ f ∈ F, piv f = p) ∧ ∀ f ∈ F, piv f = p → ∀ j, j < T → vl f p * x j = x p * vl f j := by
  obtain ⟨m, as, m0, la, e⟩ := span_sum h
  have ai : ∀ {k : Nat} {g : Rw} {b : Int}, F[k]? = some g → as[k]? = some b → m * x (piv g) = b * vl g (piv g) := fun {k g b} hk hb => by
    rw [e]
    exact sumF_at la hk hb fun k' g' hk' ne => rref_off R hk hk' ne
  have null : ∀ {k : Nat} {g : Rw} {b : Int} {j : Nat}, F[k]? = some g → as[k]? = some b → piv g ≠ p → j < T → b * vl g j = 0 := fun {k g b j} hk hb ne hj => by
    have mg := List.mem_of_getElem? hk
    have pg := R.pos g mg
    by_cases c : piv g < T
    · have w := ai hk hb
      rw [z g mg c ne, Int.mul_zero] at w
      rw [(Int.mul_eq_zero.mp w.symm).resolve_right (by omega), Int.zero_mul]
    · rw [(piv_spec (pos_allZ pg)).2.2 j (by omega), Int.mul_zero]
  refine ⟨Classical.byContradiction fun none_ => ?_, fun f hf pf j hj => ?_⟩
  · have w := e p
    rw [sumF_null fun k g b hk hb => null hk hb (fun pe => none_ ⟨g, List.mem_of_getElem? hk, pe⟩) hp] at w
    exact xp ((Int.mul_eq_zero.mp w).resolve_left m0)
  · obtain ⟨i, hi⟩ := List.mem_iff_getElem?.mp hf
    have li : i < as.length := by have := (List.getElem?_eq_some_iff.mp hi).1; omega
    have ha := List.getElem?_eq_getElem li
    have one : ∀ j, j < T → m * x j = as[i] * vl f j := fun j hj => by
      rw [e]
      refine sumF_only hi ha fun k g b hk hb ne => null hk hb (fun pe => ?_) hj
      have o := rref_off R hi hk ne
      rw [pf, ← pe] at o
      have := R.pos g (List.mem_of_getElem? hk)
      omega
    have e1 := one j hj
    have e2 := one p hp
    have : m * (vl f p * x j) = m * (x p * vl f j) := by
      have u1 : m * (vl f p * x j) = vl f p * (m * x j) := by grind
      have u2 : m * (x p * vl f j) = (m * x p) * vl f j := by grind
      rw [u1, u2, e1, e2]; grind
    exact Int.eq_of_mul_eq_mul_left m0 this
/-- what all rows hold: the letters' exponents and the result's -/
def LinH (E : List Rw) (rs : Rw) (n : Nat) (φ : Nat → Int) : Prop := (∀ j, j < E.length → φ j = sm n fun i => φ (E.length + 1 + i) * vl (E.getD j []) i) ∧ φ E.length = sm n fun i => φ (E.length + 1 + i) * vl rs i
theorem sm_scale (s : Int) (f : Nat → Int) (n : Nat) : sm n (fun t => s * f t) = s * sm n f := by
  have := sm_lin s 0 f f n
  rw [← sm_congr (f := fun t => s * f t) fun t _ => by grind] at this
  rw [this]; grind
theorem lin_cls (E : List Rw) (rs : Rw) (n : Nat) : Cls0 (LinH E rs n) := by
  refine ⟨⟨fun j _ => ?_, ?_⟩, fun {x y} m t hx hy => ⟨fun j hj => ?_, ?_⟩, fun {x s} s0 h => ⟨fun j hj => ?_, ?_⟩⟩
  · rw [sm_congr (g := fun _ => 0) fun i _ => Int.zero_mul _, sm_zero]
  · rw [sm_congr (g := fun _ => 0) fun i _ => Int.zero_mul _, sm_zero]
  · dsimp only
    rw [hx.1 j hj, hy.1 j hj, ← sm_lin]
    exact sm_congr fun i _ => by grind
  · dsimp only
    rw [hx.2, hy.2, ← sm_lin]
    exact sm_congr fun i _ => by grind
  · have := h.1 j hj
    dsimp only at this
    rw [sm_congr (g := fun i => s * (x (E.length + 1 + i) * vl (E.getD j []) i)) fun i _ => by grind, sm_scale] at this
    exact Int.eq_of_mul_eq_mul_left s0 this
  · have := h.2
    dsimp only at this
    rw [sm_congr (g := fun i => s * (x (E.length + 1 + i) * vl rs i)) fun i _ => by grind, sm_scale] at this
    exact Int.eq_of_mul_eq_mul_left s0 this
theorem rowH_left {E : List Rw} {rs : Rw} {n i j : Nat} (hj : j < E.length) : vl (rowH E rs n i) j = vl (E.getD j []) i := by
  unfold rowH
  rw [vl, List.getD_eq_getElem?_getD, List.append_assoc, List.getElem?_append_left (by rw [List.length_map]; exact hj), List.getElem?_map, List.getElem?_eq_getElem hj, List.getD_eq_getElem?_getD, List.getElem?_eq_getElem hj]
  rfl
theorem rowH_mid {E : List Rw} {rs : Rw} {n i : Nat} : vl (rowH E rs n i) E.length = vl rs i := by
  unfold rowH
  rw [vl, List.getD_eq_getElem?_getD, List.append_assoc, List.getElem?_append_right (by rw [List.length_map]; exact Nat.le_refl _), List.length_map, Nat.sub_self]
  rfl
theorem rowH_right {E : List Rw} {rs : Rw} {n i k : Nat} (hk : k < n) : vl (rowH E rs n i) (E.length + 1 + k) = if k = i then 1 else 0 := by
  unfold rowH
  rw [vl, List.getD_eq_getElem?_getD, List.getElem?_append_right (by rw [List.length_append, List.length_map]; show E.length + 1 ≤ _; omega), List.length_append, List.length_map]
  rw [show E.length + 1 + k - (E.length + [vl rs i].length) = k by show E.length + 1 + k - (E.length + 1) = k; omega, ← List.getD_eq_getElem?_getD]
  exact unitR_vl hk
theorem rowH_lin {E : List Rw} {rs : Rw} {n i : Nat} (hi : i < n) : LinH E rs n (vl (rowH E rs n i)) := by
  refine ⟨fun j hj => ?_, ?_⟩
  · rw [rowH_left hj, sm_one (k := i) hi fun t ht ne => by rw [rowH_right ht, if_neg ne, Int.zero_mul]]
    rw [rowH_right hi, if_pos rfl, Int.one_mul]
  · rw [rowH_mid, sm_one (k := i) hi fun t ht ne => by rw [rowH_right ht, if_neg ne, Int.zero_mul]]
    rw [rowH_right hi, if_pos rfl, Int.one_mul]
/-- the rows' sum with given weights -/
def phi (E : List Rw) (rs : Rw) (n : Nat) (c : Nat → Int) : Nat → Int := fun j => sm n fun i => c i * vl (rowH E rs n i) j
theorem phi_in (E : List Rw) (rs : Rw) (n : Nat) (c : Nat → Int) : Spn (inR (rowsH E rs n)) (phi E rs n c) := by
  have go : ∀ k, k ≤ n → Spn (inR (rowsH E rs n)) (fun j => sm k fun i => c i * vl (rowH E rs n i) j) := fun k => by
    induction k with
    | zero => intro _; exact .zero
    | succ k ih =>
      intro hk
      refine Spn.of (Spn.lin 1 (c k) (ih (by omega)) (.mem ⟨rowH E rs n k, ?_, rfl⟩)) fun j => ?_
      · unfold rowsH; exact List.mem_map.mpr ⟨k, List.mem_range.mpr (by omega), rfl⟩
      · show sm k _ + _ = _
        rw [Int.one_mul]
  exact go n (Nat.le_refl _)
theorem phi_left {E : List Rw} {rs : Rw} {n : Nat} {c : Nat → Int} {j : Nat} (hj : j < E.length) : phi E rs n c j = sm n fun i => c i * vl (E.getD j []) i := sm_congr fun i _ => by rw [rowH_left hj]
theorem phi_mid {E : List Rw} {rs : Rw} {n : Nat} {c : Nat → Int} : phi E rs n c E.length = sm n fun i => c i * vl rs i := sm_congr fun i _ => by rw [rowH_mid]
theorem rowsH_spec {E : List Rw} {rs : Rw} {n : Nat} : Rref (E.length + 1 + n) (spn (rowsH E rs n)) ∧ (∀ f ∈ spn (rowsH E rs n), LinH E rs n (vl f)) ∧ ∀ c, Spn (inR (spn (rowsH E rs n))) (phi E rs n c) := by
  obtain ⟨R, h1, h2⟩ := spn_spec (W := E.length + 1 + n) (rows := rowsH E rs n) fun r hr => by
    unfold rowsH at hr
    obtain ⟨i, _, rfl⟩ := List.mem_map.mp hr
    exact rowH_len E rs n i
  refine ⟨R, fun f hf => ?_, fun c => ?_⟩
  · refine (h2 f hf).clo (lin_cls E rs n) ?_
    rintro y ⟨r, hr, rfl⟩
    unfold rowsH at hr
    obtain ⟨i, hi, rfl⟩ := List.mem_map.mp hr
    exact rowH_lin (List.mem_range.mp hi)
  · refine (phi_in E rs n c).trans ?_
    rintro y ⟨r, hr, rfl⟩
    exact h1 r hr

end
end AL
set_option Elab.async false
set_option maxRecDepth 100000
set_option exponentiation.threshold 70000
set_option maxHeartbeats 1000000
namespace AL
open PySem PySem.Spec PyProof.Rows L2 RZ
section
variable {P : Program} {w : World} {K : PySem.W.Frag} {mg : Str → Option Value} {base : Heap}
def resR (n : Nat) (A : List Rw) (ps : List Int) : Rw := (List.range n).map fun i => sm A.length fun k => ps.getD k 0 * vl (A.getD k []) i
theorem resR_vl {n : Nat} {A : List Rw} {ps : List Int} {i : Nat} (h : i < n) : vl (resR n A ps) i = sm A.length fun k => ps.getD k 0 * vl (A.getD k []) i := by
  unfold resR vl
  rw [List.getD_eq_getElem?_getD, List.getElem?_map, List.getElem?_range h]; rfl
theorem sm_swap (n : Nat) (c : Nat → Int) (p : Nat → Int) (a : Nat → Nat → Int) : ∀ m : Nat, (sm n fun i => c i * sm m fun k => p k * a k i) = sm m fun k => p k * sm n fun i => c i * a k i
  | 0 => by
    rw [sm_congr (g := fun _ => 0) fun i _ => by unfold sm; exact Int.mul_zero _, sm_zero]; rfl
  | m + 1 => by
    have e : (sm n fun i => c i * sm (m + 1) fun k => p k * a k i) = sm n fun i => 1 * (c i * sm m fun k => p k * a k i) + p m * (c i * a m i) := sm_congr fun i _ => by
      show c i * (sm m _ + _) = _
      grind
    rw [e, sm_lin, sm_swap n c p a m, Int.one_mul]
    rfl
theorem pr_res {n : Nat} {A : List Rw} {ps : List Int} {c : Nat → Int} : (sm n fun i => c i * vl (resR n A ps) i) = sm A.length fun k => ps.getD k 0 * sm n fun i => c i * vl (A.getD k []) i := by
  rw [← sm_swap]
  exact sm_congr fun i hi => by rw [resR_vl hi]
theorem sm_left (f : Nat → Int) : ∀ n : Nat, sm (n + 1) f = f 0 + sm n fun k => f (k + 1)
  | 0 => by show sm 0 f + f 0 = _; unfold sm; omega
  | n + 1 => by
    have ih := sm_left f n
    show sm (n + 1) f + f (n + 1) = _
    rw [ih]
    show _ = f 0 + (sm n _ + f (n + 1))
    omega
theorem dotI_sm : ∀ ns es : List Int, ns.length = es.length → dotI ns es = sm es.length fun k => ns.getD k 0 * es.getD k 0
  | [], [], _ => rfl
  | a :: ns, b :: es, h => by
    have ih := dotI_sm ns es (by simpa using h)
    rw [List.length_cons, sm_left]
    show _ = a * b + sm es.length fun k => ns.getD k 0 * es.getD k 0
    rw [← ih]
    unfold dotI
    rw [List.zipWith_cons_cons, List.sum_cons]
theorem dotI_res {ps : List Int} {A : List Rw} (h : ps.length = A.length) (i : Nat) : dotI ps (A.map fun r => vl r i) = sm A.length fun k => ps.getD k 0 * vl (A.getD k []) i := by
  rw [dotI_sm _ _ (by rw [List.length_map, h]), List.length_map]
  refine sm_congr fun k hk => ?_
  rw [List.getD_eq_getElem?_getD (l := A.map _), List.getElem?_map, List.getElem?_eq_getElem hk, List.getD_eq_getElem?_getD (l := A), List.getElem?_eq_getElem hk]
  rfl

/-- _law_unit_of(exponents, powers) -/
def spUo : Sp := fun vs H Q _ => ∃ (e p : Addr) (n : Nat) (E : List Rw) (ps : List Int), vs = [.ref e, .ref p] ∧ RowsT H e E ∧ E ≠ [] ∧ (∀ r ∈ E, r.length = n) ∧ n ≤ 20 ∧ E.length ≤ 20 ∧ (∀ r ∈ E, ∀ v ∈ r, v.natAbs < 2 ^ 60) ∧ LT H p ps ∧ ps.length = E.length ∧ (∀ x ∈ ps, x.natAbs < 2 ^ 4100) ∧
  ∀ D H', H D = none → Same H H' → LI H' D (resR n E ps) → Q (.ref D) H'

abbrev st_law_unit_of : Stmt := top 45
theorem sc_law_unit_of : FnScope ["_law_exponents_here", "_law_powers", "_law_column"] ["_law_exponents_here", "_law_powers"] (defScope st_law_unit_of) := ⟨rfl, rfl, rfl, by decide +kernel, rfl, by decide +kernel, by decide +kernel⟩
theorem ok_law_unit_of (B : Blt mg)  {f_law_inner : Addr} {fd_law_inner : FuncData} (D_law_inner : DefAt K mg "_law_inner" st_law_inner ["_law_row", "_law_column"] f_law_inner fd_law_inner) {f_law_turned : Addr} {fd_law_turned : FuncData} (D_law_turned : DefAt K mg "_law_turned" st_law_turned ["_law_rows"] f_law_turned fd_law_turned) {f_law_unit_of : Addr} {fd_law_unit_of : FuncData} (D_law_unit_of : DefAt K mg "_law_unit_of" st_law_unit_of ["_law_exponents_here", "_law_powers"] f_law_unit_of fd_law_unit_of) : FnOk P w K mg base CX0 2 f_law_unit_of fd_law_unit_of ["_law_exponents_here", "_law_powers"] spUo := by
  have OK_law_inner : FnOk P w K mg base CX0 1 f_law_inner fd_law_inner ["_law_row", "_law_column"] spInn := ok_law_inner B  D_law_inner
  have OK_law_turned : FnOk P w K mg base CX0 1 f_law_turned fd_law_turned ["_law_rows"] spTr := ok_law_turned B  D_law_turned
  refine D_law_unit_of.F.ok sc_law_unit_of (fun vs H Q E h => ?_) (fun cdv A outer s H vs Q E hr h => ?_)
  · obtain ⟨e, p, n, E, ps, rfl, _⟩ := h; rfl
  · have hu := hu_of hr
    refine ⟨_, (pss_one (ps_ret (pe_lc (own := [("_law_column", 2)]) (g := gName 2) (tt := tYes) rfl sc_law_unit_of.nd (pi_list (pe_call OK_law_turned (hr.mono (by decide)) rfl D_law_turned.m D_law_turned.F.kp D_law_turned.b .nil pass0 (pa_cons (pv 0) pa_nil))) (blkOk_by (own := [("_law_column", 2)]) (N := ["_law_exponents_here", "_law_powers", "_law_column"]) (sc := defScope st_law_unit_of) (by decide +kernel)) (fun _ _ _ _ _ => (pg_name (i := 2) sc_law_unit_of.nd rfl (Or.inl rfl))) (fun _ _ _ _ _ => pts_nil) (fun _ _ _ _ _ => (pe_call OK_law_inner (hr.mono (by decide)) rfl D_law_inner.m D_law_inner.F.kp D_law_inner.b .nil pass0 (pa_cons (pv 1) (pa_cons (pv 2) pa_nil))))))), ?_⟩
    obtain ⟨e, p, n, E, ps, rfl, hE, ne, hl, n20, l20, bE, hp, lp, bp, q⟩ := h
    refine ⟨_, rfl, e, n, E, rfl, hE, ne, hl, by omega, by omega, fun td H1 htd s1 hT => ?_⟩
    obtain ⟨ts, T1, T2⟩ := hT
    have lts := prd_len T2
    rw [trM_len] at lts
    have hp1 := hp.same s1
    refine ⟨td, rfl, ⟨_, SqL.of T1⟩, fun rd hrd => ?_⟩
    refine lc_list (K := K) (a := td) (xs := ts.map V.ref) (fun i H' => Same H1 H' ∧ H' rd = some (.lst (((resR n E ps).take i).map V.int))) ⟨AL.Same.new hrd, upd_same⟩ (fun i H' _ hh => SqL.of (hh.1 _ _ T1)) ?_ ?_
    · rintro i x H2 hx ⟨s2, hd2⟩
      obtain ⟨b, hb, rfl⟩ := map_ref hx
      obtain ⟨r, hr, hbr⟩ := prd_get T2 hb
      have il := (List.getElem?_eq_some_iff.mp hr).1
      rw [trM_len] at il
      have er : r = E.map fun r => vl r i := by
        unfold trM at hr
        rw [List.getElem?_map, List.getElem?_range il] at hr
        exact (Option.some.inj hr).symm
      subst er
      refine ⟨rfl, ?_⟩
      refine ⟨_, rfl, _, rfl, p, b, ps, _, rfl, hp1.same s2, .inl (s2 _ _ hbr), by rw [List.length_map, lp], by rw [List.length_map]; omega, bp, fun x hx => ?_, fun H3 s3 => ?_⟩
      · obtain ⟨r, hr, rfl⟩ := List.mem_map.mp hx
        exact Nat.lt_of_lt_of_le (bE r hr _ (vl_mem (by rw [hl r hr]; exact il))) (Nat.pow_le_pow_right (by decide) (by decide))
      have s23 := s2.trans s3
      have g : (resR n E ps)[i]? = some (dotI ps (E.map fun r => vl r i)) := by
        unfold resR
        rw [List.getElem?_map, List.getElem?_range il, dotI_res lp]; rfl
      refine ⟨_, s3 _ _ hd2, ?_, AL.Same.updn s23 hrd, ?_⟩
      · rw [List.length_map, List.length_take]; exact Nat.lt_of_le_of_lt (by omega : _ ≤ 1000) (by decide)
      · rw [upd_same, List.take_add_one, g, List.map_append]; rfl
    rintro H2 ⟨s2, hrd2⟩
    have lres : (resR n E ps).length = n := by unfold resR; rw [List.length_map, List.length_range]
    rw [List.take_of_length_le (by rw [List.length_map, lts, lres]; exact Nat.le_refl _)] at hrd2
    have rdn : H rd = none := by cases e : H rd with | none => rfl | some o => rw [s1 _ _ e] at hrd; cases hrd
    exact q rd H2 rdn (s1.trans s2) hrd2
end
end AL
set_option Elab.async false
set_option maxRecDepth 100000
set_option exponentiation.threshold 70000
set_option maxHeartbeats 1000000
namespace AL
open PySem PySem.Spec PyProof.Rows L2 RZ
section
variable {P : Program} {w : World} {K : PySem.W.Frag} {mg : Str → Option Value} {base : Heap}

/-- what is not 0 in a row -/
def nzR (x : Rw) : Rw := x.filter fun v => decide (v ≠ 0)
/-- _law_is_group(value, exponents), a tuple of ints -/
def spIg : Sp := fun vs H Q _ => ∃ (v e : Addr) (n : Nat) (E : List Rw) (ps : List Int), vs = [.ref v, .ref e] ∧ RowsT H e E ∧ E ≠ [] ∧ (∀ r ∈ E, r.length = n) ∧ n ≤ 20 ∧ E.length ≤ 20 ∧ (∀ r ∈ E, ∀ v ∈ r, v.natAbs < 2 ^ 60) ∧ H v = some (.tup (ps.map V.int)) ∧ ps.length = E.length ∧ (∀ x ∈ ps, x.natAbs < 2 ^ 4100) ∧
  ∀ H', Same H H' → Q (.bl (decide (nzR (resR n E ps) = []))) H'
theorem filt_nil {x : Rw} : nzR x = [] ↔ ∀ j, vl x j = 0 := by
  unfold nzR
  rw [List.filter_eq_nil_iff]
  constructor
  · intro h j
    by_cases c : j < x.length
    · have := h _ (vl_mem c)
      rw [decide_eq_true_iff] at this
      exact Classical.byContradiction fun z => this z
    · exact vl_out (by omega)
  · intro h v hv
    obtain ⟨j, hj⟩ := List.mem_iff_getElem?.mp hv
    rw [decide_eq_true_iff, ← vl_get hj]
    exact fun z => z (h j)

abbrev st_law_is_group : Stmt := top 46
theorem sc_law_is_group : FnScope ["_law_value", "_law_exponents_here", "_law_one"] ["_law_value", "_law_exponents_here"] (defScope st_law_is_group) := ⟨rfl, rfl, rfl, by decide +kernel, rfl, by decide +kernel, by decide +kernel⟩
theorem ok_law_is_group (B : Blt mg)  {f_law_is_whole : Addr} {fd_law_is_whole : FuncData} (D_law_is_whole : DefAt K mg "_law_is_whole" st_law_is_whole ["_law_value"] f_law_is_whole fd_law_is_whole) {f_law_inner : Addr} {fd_law_inner : FuncData} (D_law_inner : DefAt K mg "_law_inner" st_law_inner ["_law_row", "_law_column"] f_law_inner fd_law_inner) {f_law_turned : Addr} {fd_law_turned : FuncData} (D_law_turned : DefAt K mg "_law_turned" st_law_turned ["_law_rows"] f_law_turned fd_law_turned) {f_law_unit_of : Addr} {fd_law_unit_of : FuncData} (D_law_unit_of : DefAt K mg "_law_unit_of" st_law_unit_of ["_law_exponents_here", "_law_powers"] f_law_unit_of fd_law_unit_of) {f_law_is_group : Addr} {fd_law_is_group : FuncData} (D_law_is_group : DefAt K mg "_law_is_group" st_law_is_group ["_law_value", "_law_exponents_here"] f_law_is_group fd_law_is_group) : FnOk P w K mg base CX0 3 f_law_is_group fd_law_is_group ["_law_value", "_law_exponents_here"] spIg := by
  have OK_law_is_whole : FnOk P w K mg base CX0 1 f_law_is_whole fd_law_is_whole ["_law_value"] spWh7 := ok_law_is_whole B  D_law_is_whole
  have OK_law_unit_of : FnOk P w K mg base CX0 2 f_law_unit_of fd_law_unit_of ["_law_exponents_here", "_law_powers"] spUo := ok_law_unit_of B  D_law_inner D_law_turned D_law_unit_of
  refine D_law_is_group.F.ok sc_law_is_group (fun vs H Q E h => ?_) (fun cdv A outer s H vs Q E hr h => ?_)
  · obtain ⟨v, e, n, E, ps, rfl, _⟩ := h; rfl
  · have hu := hu_of hr
    refine ⟨_, (pss_cons (ps_if (PW.pt (pw_or (pt_not (pt_val (pe_callB call_isi (by rfl) B.isinstance_ (by decide +kernel) (pa_cons (pv 0) (pa_cons (pe_bltn (v := .ty "tuple") (by rfl) B.tuple_ PyProof.Rows.Boot.«tuple» rfl) pa_nil))))) (pw_or1 (pt_cmpR op_ne (pe_callB call_len_seq (by rfl) B.len_ (by decide +kernel) (pa_cons (pv 0) pa_nil)) (pe_callB call_len_seq (by rfl) B.len_ (by decide +kernel) (pa_cons (pv 1) pa_nil)) (nomark _))))) (pss_one (ps_ret pe_bl)) pss_nil)
    (pss_cons (ps_if (pt_cmpR (op_neD hr.units) (pe_lc (own := [("_law_one", 2)]) (g := gName 2) rfl sc_law_is_group.nd (pi_tup (pv 0)) (blkOk_by (own := [("_law_one", 2)]) (N := ["_law_value", "_law_exponents_here", "_law_one"]) (sc := defScope st_law_is_group) (by decide +kernel)) (fun _ _ _ _ _ => (pg_name (i := 2) sc_law_is_group.nd rfl (Or.inl rfl))) (fun _ _ _ _ _ => (pts_one (pt_not (pt_val (pe_call OK_law_is_whole (hr.mono (by decide)) rfl D_law_is_whole.m D_law_is_whole.F.kp D_law_is_whole.b .nil pass0 (pa_cons (pv 2) pa_nil)))))) (fun _ _ _ _ _ => (pv 2))) (pe_lst pa_nil) (nomark _)) (pss_one (ps_ret pe_bl)) pss_nil)
    (pss_one (ps_ret (pe_cmpR (op_eqD hr.units) (pe_lc (own := [("_law_one", 2)]) (g := gName 2) rfl sc_law_is_group.nd (pi_list (pe_call OK_law_unit_of (hr.mono (by decide)) rfl D_law_unit_of.m D_law_unit_of.F.kp D_law_unit_of.b .nil pass0 (pa_cons (pv 1) (pa_cons (pv 0) pa_nil)))) (blkOk_by (own := [("_law_one", 2)]) (N := ["_law_value", "_law_exponents_here", "_law_one"]) (sc := defScope st_law_is_group) (by decide +kernel)) (fun _ _ _ _ _ => (pg_name (i := 2) sc_law_is_group.nd rfl (Or.inl rfl))) (fun _ _ _ _ _ => (pts_one (pt_cmpR op_ne (pv 2) pe_int (nomark _)))) (fun _ _ _ _ _ => (pv 2))) (pe_lst pa_nil) (nomark _)))))), ?_⟩
    obtain ⟨v, e, n, E, ps, rfl, hE, ne, hl0, n20, l20, bE, hv, lp, bp, q⟩ := h
    obtain ⟨es, E1, E2⟩ := id hE
    have les := prd_len E2
    refine ⟨_, rfl, _, _, _, _, _, rfl, ClsV.ty _, TyX.base (.tup hv), rfl, true, rfl, ?_⟩
    refine iteF ?_
    refine ⟨_, rfl, v, _, rfl, .inr (SqT.of hv), _, rfl, e, _, rfl, .inl (SqL.of E1), rfl, _, rfl, ?_⟩
    rw [List.length_map, List.length_map, les, lp, decide_eq_true rfl]
    refine iteF ?_
    refine ⟨_, rfl, v, rfl, ⟨_, SqT.of hv⟩, fun D hD => ?_⟩
    refine lc_tup (K := K) (a := v) (xs := ps.map V.int) (fun i H' => Same H H' ∧ H' D = some (.lst [])) ⟨AL.Same.new hD, upd_same⟩ (fun i H' _ hh => SqT.of (hh.1 _ _ hv)) ?_ ?_
    · rintro i x H1 hx ⟨s1, hd⟩
      obtain ⟨z, hz, rfl⟩ := map_int hx
      refine ⟨rfl, ?_⟩
      refine ⟨_, rfl, z, rfl, true, rfl, ?_⟩
      refine iteF ?_
      exact ⟨s1, hd⟩
    rintro H1 ⟨s1, hd⟩
    refine ⟨(by show 0 ≤ sizeLine; decide), fun l hl => ?_⟩
    have n1 := AL.Same.new (o := .lst []) hl
    refine ⟨_, _, .lst (SqL.of (n1 _ _ hd)) .nil, .lst (SqL.of upd_same) .nil, rfl, rfl, _, rfl, ?_⟩
    rw [SeqAt.eqv_refl _ (SeqAt.canLay_of_shaped (by rfl))]
    refine iteF ?_
    have s01 := s1.trans n1
    refine ⟨_, rfl, _, rfl, e, v, n, E, ps, rfl, hE.same s01, ne, hl0, n20, l20, bE, .inr (s01 _ _ hv), lp, bp, fun rd H2 hrd s2 hr => ?_⟩
    refine ⟨rd, rfl, ⟨_, SqL.of hr⟩, fun D2 hD2 => ?_⟩
    have lres : (resR n E ps).length = n := by unfold resR; rw [List.length_map, List.length_range]
    generalize resR n E ps = X at hr q lres
    refine lc_list (K := K) (a := rd) (xs := X.map V.int) (fun i H' => Same H2 H' ∧ H' D2 = some (.lst ((nzR (X.take i)).map V.int))) ⟨AL.Same.new hD2, upd_same⟩ (fun i H' _ hh => SqL.of (hh.1 _ _ hr)) ?_ ?_
    · rintro i x H3 hx ⟨s3, hd3⟩
      obtain ⟨z, hz, rfl⟩ := map_int hx
      have il := (List.getElem?_eq_some_iff.mp hz).1
      have st : nzR (X.take (i + 1)) = nzR (X.take i) ++ (if z = 0 then [] else [z]) := by
        unfold nzR
        rw [List.take_add_one, hz, List.filter_append]
        congr 1
        show List.filter _ [z] = _
        rw [List.filter_cons]
        by_cases c : z = 0
        · rw [if_pos c, if_neg (by rw [decide_eq_true_iff]; exact fun w => w c)]; rfl
        · rw [if_neg c, if_pos (decide_eq_true c)]; rfl
      refine ⟨rfl, ?_⟩
      refine ⟨_, rfl, rfl, _, rfl, ?_⟩
      by_cases c : z = 0
      · rw [show (!decide (V.int z = V.int 0)) = false by rw [c, decide_eq_true rfl]; rfl]
        refine iteF ?_
        refine ⟨s3, ?_⟩
        rw [st, if_pos c, List.append_nil]; exact hd3
      · rw [show (!decide (V.int z = V.int 0)) = true by rw [decide_eq_false (fun w => c (by injection w))]; rfl]
        refine iteT ?_
        refine ⟨_, rfl, _, hd3, ?_, AL.Same.updn s3 hD2, ?_⟩
        · rw [List.length_map]
          have w := List.length_filter_le (fun v : Int => decide (v ≠ 0)) (X.take i)
          rw [List.length_take] at w
          exact Nat.lt_of_le_of_lt (by unfold nzR; omega : _ ≤ 1000) (by decide)
        · rw [upd_same, st, if_neg c, List.map_append]; rfl
    rintro H3 ⟨s3, hd3⟩
    rw [List.length_map, List.take_length] at hd3
    refine ⟨(by show 0 ≤ sizeLine; decide), fun l2 hl2 => ?_⟩
    have n2 := AL.Same.new (o := .lst []) hl2
    have qq := q _ (s01.trans (s2.trans (s3.trans n2)))
    refine ⟨.list ((nzR X).map PyData.int), .list (([] : List Int).map PyData.int), .lst (SqL.of (n2 _ _ hd3)) (dpAll_int _), .lst (SqL.of upd_same) .nil, shaped_intsL _, shaped_intsL _, ?_⟩
    rw [eqv_intsL]
    exact qq
end
end AL
set_option Elab.async false
set_option maxRecDepth 100000
set_option exponentiation.threshold 70000
set_option maxHeartbeats 1000000
namespace AL
open PySem PySem.Spec PyProof.Rows L2 RZ
section
variable {P : Program} {w : World} {K : PySem.W.Frag} {mg : Str → Option Value} {base : Heap}

/-- _law_matrix(pen, many, wide, most) -/
def spMx : Sp := fun vs H Q _ => ∃ (p c : Addr) (m k n mo : Nat), vs = [.ref p, .int (k : Int), .int (n : Int), .int (mo : Int)] ∧ Pen H p c m ∧ m < 600000000 ∧ k ≤ 6 ∧ n ≤ 4 ∧ 1 ≤ mo ∧ mo ≤ 20 ∧
  ∀ w H' M, Pen H' p c (m + 14 * k) → Keep p H H' → RowsZ H' w M → M.length = k → (∀ r ∈ M, r.length = n ∧ ∀ v ∈ r, v.natAbs ≤ mo * 3 ^ k) → Q (.ref w) H'

abbrev st_law_matrix : Stmt := top 43
theorem sc_law_matrix : FnScope ["_law_pen_here", "_law_many", "_law_wide", "_law_most", "_law_rows", "_law_k", "_law_row", "_law_j", "_law_one", "_law_by", "_law_other", "_law_a", "_law_b"] ["_law_pen_here", "_law_many", "_law_wide", "_law_most"] (defScope st_law_matrix) := ⟨rfl, rfl, rfl, by decide +kernel, rfl, by decide +kernel, by decide +kernel⟩
theorem ok_law_matrix (B : Blt mg)  {f_law_draw : Addr} {fd_law_draw : FuncData} (D_law_draw : DefAt K mg "_law_draw" st_law_draw ["_law_pen_here", "_law_many"] f_law_draw fd_law_draw) {f_law_pick : Addr} {fd_law_pick : FuncData} (D_law_pick : DefAt K mg "_law_pick" st_law_pick ["_law_pen_here", "_law_some"] f_law_pick fd_law_pick) {f_law_matrix : Addr} {fd_law_matrix : FuncData} (D_law_matrix : DefAt K mg "_law_matrix" st_law_matrix ["_law_pen_here", "_law_many", "_law_wide", "_law_most"] f_law_matrix fd_law_matrix) : FnOk P w K mg base CX0 3 f_law_matrix fd_law_matrix ["_law_pen_here", "_law_many", "_law_wide", "_law_most"] spMx := by
  have OK_law_draw : FnOk P w K mg base CX0 1 f_law_draw fd_law_draw ["_law_pen_here", "_law_many"] spDraw := ok_law_draw B  D_law_draw
  have OK_law_pick : FnOk P w K mg base CX0 2 f_law_pick fd_law_pick ["_law_pen_here", "_law_some"] (spPick K) := ok_law_pick B  D_law_draw D_law_pick
  refine D_law_matrix.F.ok sc_law_matrix (fun vs H Q E h => ?_) (fun cdv A outer s H vs Q E hr h => ?_)
  · obtain ⟨p, c, m, k, n, mo, rfl, _⟩ := h; rfl
  · have hu := hu_of hr
    refine ⟨_, (pss_cons (ps_set (i := 4) sc_law_matrix.nd rfl (Or.inl rfl) (pe_lst pa_nil))
    (pss_cons (ps_for PassesOwn.never rfl (pi_range1 rfl B.range_ (pa_cons (pv 1) pa_nil)) (pg_name (i := 5) sc_law_matrix.nd rfl (Or.inl rfl))
      (pss_cons (ps_setLc (i := 6) (own := [("_law_j", 7)]) (g := gName 7) (tt := tYes) rfl sc_law_matrix.nd rfl rfl (sw_true rfl rfl rfl (by decide +kernel)) (pi_range1 rfl B.range_ (pa_cons (pv 2) pa_nil)) (blkOk_by (own := [("_law_j", 7)]) (N := ["_law_pen_here", "_law_many", "_law_wide", "_law_most", "_law_rows", "_law_k", "_law_row", "_law_j", "_law_one", "_law_by", "_law_other", "_law_a", "_law_b"]) (sc := defScope st_law_matrix) (by decide +kernel)) (fun _ _ _ _ _ => (pg_name (i := 7) sc_law_matrix.nd rfl (Or.inl rfl))) (fun _ _ _ _ _ => pts_nil) (fun _ _ _ _ _ => (pe_op op_sub (pe_call OK_law_draw (hr.mono (by decide)) rfl D_law_draw.m D_law_draw.F.kp D_law_draw.b .nil pass0 (pa_cons (pv 0) (pa_cons (pe_op op_add (pe_op op_mulW pe_int (pv 3)) pe_int) pa_nil))) (pv 3))))
    (Evl.pss_cut (ps_if (pt_cmpR op_eq (pe_call OK_law_draw (hr.mono (by decide)) rfl D_law_draw.m D_law_draw.F.kp D_law_draw.b .nil pass0 (pa_cons (pv 0) (pa_cons pe_int pa_nil))) pe_int (nomark _)) (pss_one (ps_setLc (i := 6) (own := [("_law_one", 8)]) (g := gName 8) (tt := tYes) rfl sc_law_matrix.nd rfl rfl (sw_true rfl rfl rfl (by decide +kernel)) (pi_list (pv 6)) (blkOk_by (own := [("_law_one", 8)]) (N := ["_law_pen_here", "_law_many", "_law_wide", "_law_most", "_law_rows", "_law_k", "_law_row", "_law_j", "_law_one", "_law_by", "_law_other", "_law_a", "_law_b"]) (sc := defScope st_law_matrix) (by decide +kernel)) (fun _ _ _ _ _ => (pg_name (i := 8) sc_law_matrix.nd rfl (Or.inl rfl))) (fun _ _ _ _ _ => pts_nil) (fun _ _ _ _ _ => (pe_ifExp (pt_cmpR op_eq (pe_call OK_law_draw (hr.mono (by decide)) rfl D_law_draw.m D_law_draw.F.kp D_law_draw.b .nil pass0 (pa_cons (pv 0) (pa_cons pe_int pa_nil))) pe_int (nomark _)) (pv 8) pe_int)))) pss_nil)
    (Evl.pss_cut (ps_if (PW.pt (pw_and (pt_cmpR op_gt (pv 5) pe_int (nomark _)) (pw_and1 (pt_cmpR op_eq (pe_call OK_law_draw (hr.mono (by decide)) rfl D_law_draw.m D_law_draw.F.kp D_law_draw.b .nil pass0 (pa_cons (pv 0) (pa_cons pe_int pa_nil))) pe_int (nomark _))))) (pss_cons (ps_asg (pe_tup (pa_cons (pe_op op_sub (pe_call OK_law_draw (hr.mono (by decide)) rfl D_law_draw.m D_law_draw.F.kp D_law_draw.b .nil pass0 (pa_cons (pv 0) (pa_cons pe_int pa_nil))) pe_int) (pa_cons (pe_call OK_law_pick (hr.mono (by decide)) rfl D_law_pick.m D_law_pick.F.kp D_law_pick.b .nil pass0 (pa_cons (pv 0) (pa_cons (pv 4) pa_nil))) (pa_cons (pe_call OK_law_pick (hr.mono (by decide)) rfl D_law_pick.m D_law_pick.F.kp D_law_pick.b .nil pass0 (pa_cons (pv 0) (pa_cons (pv 4) pa_nil))) pa_nil)))) (pg_tup rfl (pgs_cons (pg_name (i := 9) sc_law_matrix.nd rfl (Or.inr rfl)) (pgs_cons (pg_name (i := 8) sc_law_matrix.nd rfl (Or.inl rfl)) (pgs_cons (pg_name (i := 10) sc_law_matrix.nd rfl (Or.inl rfl)) pgs_nil)))))
    (pss_one (ps_setLc (i := 6) (own := [("_law_a", 11), ("_law_b", 12)]) (g := (gTup K 2 (gCons (gName 11) (gCons (gName 12) gNil)))) (tt := tYes) rfl sc_law_matrix.nd rfl rfl (sw_true rfl rfl rfl (by decide +kernel)) (pi_zip (by rfl) B.zip_ (pa_cons (pv 8) (pa_cons (pv 10) pa_nil))) (blkOk_by (own := [("_law_a", 11), ("_law_b", 12)]) (N := ["_law_pen_here", "_law_many", "_law_wide", "_law_most", "_law_rows", "_law_k", "_law_row", "_law_j", "_law_one", "_law_by", "_law_other", "_law_a", "_law_b"]) (sc := defScope st_law_matrix) (by decide +kernel)) (fun _ _ _ _ _ => (pg_tup rfl (pgs_cons (pg_name (i := 11) sc_law_matrix.nd rfl (Or.inl rfl)) (pgs_cons (pg_name (i := 12) sc_law_matrix.nd rfl (Or.inl rfl)) pgs_nil)))) (fun _ _ _ _ _ => pts_nil) (fun _ _ _ _ _ => (pe_op op_add (pe_op op_mulW (pv 9) (pv 11)) (pv 12)))))) pss_nil)
    (pss_one (ps_expr (pe_bm PySem.F.plainAttrs_list PySem.F.slot_list_append PySem.F.type_list_append mt_append (pv 4) (pa_cons (pv 6) pa_nil))))))))
    (pss_one (ps_ret (pv 4))))), ?_⟩
    obtain ⟨p, c, m, k, n, mo, rfl, P, hm, hk, hn, mo1, mo20, q⟩ := h
    refine ⟨(by show 0 ≤ sizeLine; decide), fun w hw => ?_⟩
    obtain ⟨pw, cw⟩ := pen_ne7 P hw
    have n1 := AL.Same.new (o := .lst []) hw
    refine ⟨_, rfl, _, rfl, by omega, by omega, for_range (lo := 0) (n := ((k : Int)).toNat) (fun i σ H' => ∃ v5 v6 v8 v9 v10 : Option V, σ = [some (.ref p), some (.int (k : Int)), some (.int (n : Int)), some (.int (mo : Int)), some (.ref w), v5, v6, none, v8, v9, v10, none, none] ∧ Pen H' p c (m + 14 * i) ∧ Keep p H H' ∧ ∃ (as : List Addr) (M : List Rw), H' w = some (.lst (as.map V.ref)) ∧ Paired (fun a r => a ≠ w ∧ H' a = some (.lst (r.map V.int))) as M ∧ M.length = i ∧ ∀ r ∈ M, r.length = n ∧ ∀ v ∈ r, v.natAbs ≤ mo * 3 ^ i) ⟨none, none, none, none, none, rfl, P.same n1, same_k7 n1, [], [], upd_same, .nil, rfl, (fun r hr => nomatch hr)⟩ ?_ ?_⟩
    · rintro i σ H1 hi ⟨v5, v6, v8, v9, v10, rfl, P1, k1, as, M, hw1, pr1, lM, bM⟩
      rw [Int.toNat_natCast] at hi
      have las := prd_len pr1
      refine ⟨_, rfl, _, rfl, by omega, by omega, fun D hD => ?_⟩
      obtain ⟨pD, cD⟩ := pen_ne7 P1 hD
      have nD := AL.Same.new (o := .lst []) hD
      refine lc_range (lo := 0) (n := ((n : Int)).toNat) (fun i2 H' => Pen H' p c (m + 14 * i + i2) ∧ Keep p H1 H' ∧ ∃ rs : List Int, H' D = some (.lst (rs.map V.int)) ∧ rs.length = i2 ∧ ∀ x ∈ rs, x.natAbs ≤ mo) ⟨P1.same nD, same_k7 nD, [], upd_same, rfl, (fun r hr => nomatch hr)⟩ ?_ ?_
      · rintro i2 H3 hi2 ⟨P3, k3, rs, he, le, be⟩
        rw [Int.toNat_natCast] at hi2
        refine ⟨rfl, ?_⟩
        refine ⟨_, rfl, _, rfl, _, _, rfl, rfl, wide_mul (a := 60) (b := 60) (by decide) (by omega) (by decide) (by decide) (by decide), _, _, rfl, rfl, p, c, _, (2 * (mo : Int) + 1), rfl, P3, by omega, by omega, by omega, fun v H4 v0 v1 P4 k4 => ⟨_, rfl, _, _, rfl, rfl, ?_⟩⟩
        refine ⟨_, k4.at P3 he (fun _ z => nomatch z), ?_, (pen_upd7 P4 pD cD).mono (by omega), keep_upd7 (k3.trans k4) hD, rs ++ [v - (mo : Int)], ?_, ?_, ?_⟩
        · rw [List.length_map, le]; exact Nat.lt_of_lt_of_le (by omega : i2 < 9) (by decide)
        · rw [upd_same, List.map_append]; rfl
        · rw [List.length_append, le]; rfl
        · intro z hz
          rcases List.mem_append.mp hz with hz | hz
          · exact be z hz
          · rw [List.mem_singleton] at hz
            omega
      rintro H3 ⟨P3, k3, rs, he, le, be⟩
      rw [Int.toNat_natCast] at P3 le
      have hw3 := k3.at P1 hw1 (fun _ z => nomatch z)
      have pr3 : Paired (fun a r => a ≠ w ∧ H3 a = some (.lst (r.map V.int))) as M := paired_mono pr1 fun _ _ z => ⟨z.1, k3.at P1 z.2 (fun _ z => nomatch z)⟩
      have K3 := k1.trans k3
      have Dw : D ≠ w := fun z => by rw [z, hw1] at hD; cases hD
      clear k3 nD hw1 pr1 P1 k1
      refine ⟨fun σ' H' => ∃ (D : Addr) (rs : List Int), σ' = [some (.ref p), some (.int (k : Int)), some (.int (n : Int)), some (.int (mo : Int)), some (.ref w), some (.int (0 + (i : Int))), some (.ref D), none, v8, v9, v10, none, none] ∧ Pen H' p c (m + 14 * i + 9) ∧ Keep p H H' ∧ H' w = some (.lst (as.map V.ref)) ∧ Paired (fun a (r : Rw) => a ≠ w ∧ H' a = some (.lst (r.map V.int))) as M ∧ D ≠ w ∧ H' D = some (.lst (rs.map V.int)) ∧ rs.length = n ∧ ∀ x ∈ rs, x.natAbs ≤ mo, ?_, ?_⟩
      · refine ⟨_, rfl, p, c, _, (3 : Int), rfl, P3, by omega, by decide, by decide, fun v H4 v0 v1 P4 k4 => ⟨rfl, _, rfl, ?_⟩⟩
        have hw4 := k4.at P3 hw3 (fun _ z => nomatch z)
        have pr4 : Paired (fun a (r : Rw) => a ≠ w ∧ H4 a = some (.lst (r.map V.int))) as M := paired_mono pr3 fun _ _ z => ⟨z.1, k4.at P3 z.2 (fun _ z => nomatch z)⟩
        have he4 := k4.at P3 he (fun _ z => nomatch z)
        refine ite2 (fun _ => ?_) (fun _ => ?_)
        · refine ⟨_, rfl, D, rfl, ⟨_, SqL.of he4⟩, fun D2 hD2 => ?_⟩
          obtain ⟨pD2, cD2⟩ := pen_ne7 P4 hD2
          have nD2 := AL.Same.new (o := .lst []) hD2
          refine lc_list (K := K) (a := D) (xs := rs.map V.int) (fun i1 H' => Pen H' p c (m + 14 * i + 5 + i1) ∧ Keep p H4 H' ∧ ∃ qs : List Int, H' D2 = some (.lst (qs.map V.int)) ∧ qs.length = i1 ∧ ∀ x ∈ qs, x.natAbs ≤ mo) ⟨(P4.same nD2).mono (by omega), same_k7 nD2, [], upd_same, rfl, (fun r hr => nomatch hr)⟩ (fun i H' _ hh => SqL.of (hh.2.1.at P4 he4 (fun _ z => nomatch z))) ?_ ?_
          · rintro i1 x H5 hx ⟨P5, k5, qs, hq5, lq, bq⟩
            obtain ⟨z, hz, rfl⟩ := map_int hx
            have i1l := (List.getElem?_eq_some_iff.mp hz).1
            have zb := be z (List.mem_of_getElem? hz)
            refine ⟨rfl, ?_⟩
            refine ⟨_, rfl, p, c, _, (2 : Int), rfl, P5, by omega, by decide, by decide, fun v H6 v0 v1 P6 k6 => ⟨rfl, _, rfl, ?_⟩⟩
            have put : ∀ y : Int, y.natAbs ≤ mo → ∃ acc, H6 D2 = some (.lst acc) ∧ acc.length < sizeLine ∧ Pen (upd H6 D2 (.lst (acc ++ [.int y]))) p c (m + 14 * i + 5 + (i1 + 1)) ∧ Keep p H4 (upd H6 D2 (.lst (acc ++ [.int y]))) ∧ ∃ qs : List Int, upd H6 D2 (.lst (acc ++ [.int y])) D2 = some (.lst (qs.map V.int)) ∧ qs.length = i1 + 1 ∧ ∀ x ∈ qs, x.natAbs ≤ mo := fun y hy => by
              refine ⟨_, k6.at P5 hq5 (fun _ z => nomatch z), ?_, (pen_upd7 P6 pD2 cD2).mono (by omega), keep_upd7 (k5.trans k6) hD2, qs ++ [y], ?_, ?_, ?_⟩
              · rw [List.length_map, lq]; exact Nat.lt_of_lt_of_le (by omega : i1 < 9) (by decide)
              · rw [upd_same, List.map_append]; rfl
              · rw [List.length_append, lq]; rfl
              · intro z hz
                rcases List.mem_append.mp hz with hz | hz
                · exact bq z hz
                · rw [List.mem_singleton.mp hz]; exact hy
            refine ite2 (fun _ => ?_) (fun _ => ?_)
            · exact ⟨_, rfl, put z zb⟩
            · exact put 0 (Nat.zero_le _)
          rintro H5 ⟨P5, k5, qs, hq5, lq, bq⟩
          rw [List.length_map, le] at P5 lq
          have hw5 := k5.at P4 hw4 (fun _ z => nomatch z)
          exact ⟨D2, qs, rfl, P5.mono (by omega), K3.trans (k4.trans k5), hw5, paired_mono pr4 fun _ _ z => ⟨z.1, k5.at P4 z.2 (fun _ z => nomatch z)⟩, (fun z => by rw [z, hw4] at hD2; cases hD2), hq5, lq, bq⟩
        · exact ⟨D, rs, rfl, P4.mono (by omega), K3.trans k4, hw4, pr4, Dw, he4, le, be⟩
      clear hw3 pr3 he le be P3 Dw K3 pD cD hD
      rintro σ' H3 ⟨D, rs, rfl, P3, K3, hw3, pr3, Dw, he, le, be⟩
      have bi : ∀ x ∈ rs, x.natAbs ≤ mo * 3 ^ (i + 1) := fun x hx => Nat.le_trans (be x hx) (Nat.le_mul_of_pos_right _ (Nat.pow_pos (by decide)))
      refine ⟨fun σ' H' => ∃ (v8 v9 v10 : Option V) (D : Addr) (rs : List Int), σ' = [some (.ref p), some (.int (k : Int)), some (.int (n : Int)), some (.int (mo : Int)), some (.ref w), some (.int (0 + (i : Int))), some (.ref D), none, v8, v9, v10, none, none] ∧ Pen H' p c (m + 14 * i + 13) ∧ Keep p H H' ∧ H' w = some (.lst (as.map V.ref)) ∧ Paired (fun a (r : Rw) => a ≠ w ∧ H' a = some (.lst (r.map V.int))) as M ∧ D ≠ w ∧ H' D = some (.lst (rs.map V.int)) ∧ rs.length = n ∧ ∀ x ∈ rs, x.natAbs ≤ mo * 3 ^ (i + 1), ?_, ?_⟩
      · refine ⟨_, rfl, _, _, rfl, rfl, _, rfl, ?_⟩
        by_cases ci : i = 0
        · rw [decide_eq_false (by omega : ¬ (0 + (i : Int)) > 0)]
          refine iteF ?_
          refine iteF ?_
          exact ⟨_, _, _, D, rs, rfl, P3.mono (by omega), K3, hw3, pr3, Dw, he, le, bi⟩
        rw [decide_eq_true (by omega : (0 + (i : Int)) > 0)]
        refine iteT ?_
        refine ⟨_, rfl, p, c, _, (4 : Int), rfl, P3, by omega, by decide, by decide, fun v H4 v0 v1 P4 k4 => ⟨rfl, _, rfl, ?_⟩⟩
        have hw4 := k4.at P3 hw3 (fun _ z => nomatch z)
        have pr4 : Paired (fun a (r : Rw) => a ≠ w ∧ H4 a = some (.lst (r.map V.int))) as M := paired_mono pr3 fun _ _ z => ⟨z.1, k4.at P3 z.2 (fun _ z => nomatch z)⟩
        refine ite2 (fun _ => ?_) (fun _ => ?_)
        · refine ⟨_, rfl, p, c, _, (5 : Int), rfl, P4, by omega, by decide, by decide, fun by0 H5 b0 b1 P5 k5 => ⟨_, _, rfl, rfl, ?_⟩⟩
          have hw5 := k5.at P4 hw4 (fun _ z => nomatch z)
          refine ⟨_, rfl, _, rfl, p, c, w, _, _, rfl, P5, by omega, SqL.of hw5, by rw [List.length_map]; omega, by rw [List.length_map]; omega, fun j1 x1 H6 hx1 P6 k6 => ?_⟩
          have hw6 := k6.at P5 hw5 (fun _ z => nomatch z)
          refine ⟨_, rfl, _, rfl, p, c, w, _, _, rfl, P6, by omega, SqL.of hw6, by rw [List.length_map]; omega, by rw [List.length_map]; omega, fun j2 x2 H7 hx2 P7 k7 => ?_⟩
          obtain ⟨a1, ha1, rfl⟩ := map_ref hx1
          obtain ⟨a2, ha2, rfl⟩ := map_ref hx2
          have k47 := k5.trans (k6.trans k7)
          have hw7 := k7.at P6 hw6 (fun _ z => nomatch z)
          have pr7 : Paired (fun a (r : Rw) => a ≠ w ∧ H7 a = some (.lst (r.map V.int))) as M := paired_mono pr4 fun _ _ z => ⟨z.1, k47.at P4 z.2 (fun _ z => nomatch z)⟩
          obtain ⟨r1, hr1, h1⟩ := prd_get pr7 ha1
          obtain ⟨r2, hr2, h2⟩ := prd_get pr7 ha2
          have m1 := bM r1 (List.mem_of_getElem? hr1)
          have m2 := bM r2 (List.mem_of_getElem? hr2)
          refine ⟨(by show 3 ≤ sizeLine; decide), fun T hT => ?_⟩
          have nT := AL.Same.new (o := .tup [.int (by0 - 2), .ref a1, .ref a2]) hT
          have h17 := nT _ _ h1.2
          have h27 := nT _ _ h2.2
          have hw8 := nT _ _ hw7
          refine ⟨T, _, rfl, SqT.of upd_same, rfl, _, _, rfl, _, _, rfl, _, _, rfl, rfl, ?_⟩
          refine ⟨_, rfl, _, rfl, a1, a2, _, _, rfl, SqL.of h17, SqL.of h27, fun D2 hD2 => ?_⟩
          have P8 := P7.same nT
          have K8 := (K3.trans (k4.trans k47)).trans (same_k7 nT)
          have pr8 : Paired (fun a (r : Rw) => a ≠ w ∧ upd H7 T (.tup [.int (by0 - 2), .ref a1, .ref a2]) a = some (.lst (r.map V.int))) as M := paired_mono pr7 fun _ _ z => ⟨z.1, nT _ _ z.2⟩
          have hT8 : upd H7 T (.tup [.int (by0 - 2), .ref a1, .ref a2]) = upd H7 T (.tup [(fun i j => V.int (i - j)) by0 2, .ref a1, .ref a2]) := rfl
          rw [← hT8]
          rw [← hT8] at hD2
          clear hT8
          generalize upd H7 T (.tup [.int (by0 - 2), .ref a1, .ref a2]) = H8 at h17 h27 hw8 P8 K8 pr8 hD2 ⊢
          have Dw2 : D2 ≠ w := fun z => by rw [z, hw8] at hD2; cases hD2
          refine lc_it (walk_zip (K := K) (a := a1) (b := a2) (xs := r1.map V.int) (ys := r2.map V.int) (n := n) (by rw [List.length_map, List.length_map, m1.1, m2.1, Nat.min_self])) (fun i H' => Same H8 H' ∧ H' D2 = some (.lst (((List.zipWith (fun u v => (by0 - 2) * u + v) r1 r2).take i).map V.int))) ⟨AL.Same.new hD2, upd_same⟩ (fun i H' _ hh => ⟨SqL.of (hh.1 _ _ h17), SqL.of (hh.1 _ _ h27)⟩) ?_ ?_
          · rintro i1 x0 H9 H10 hi1 ⟨s9, hd9⟩ ⟨T0, u1, u2, rfl, hT0, rfl, e1, e2⟩
            obtain ⟨z1, c1, rfl⟩ := map_int e1
            obtain ⟨z2, c2, rfl⟩ := map_int e2
            have hDT : D2 ≠ T0 := fun z => by rw [z, hT0] at hd9; cases hd9
            have sT : Same H8 (upd H9 T0 (.tup [.int z1, .int z2])) := s9.trans (AL.Same.new hT0)
            have b1 : z1.natAbs < 2 ^ 60 := by
              have w1 := m1.2 z1 (List.mem_of_getElem? c1)
              have w2 : 3 ^ i ≤ 3 ^ 6 := Nat.pow_le_pow_right (by decide) (by omega)
              have w3 : 20 * 3 ^ 6 < 2 ^ 60 := by decide
              have w4 : mo * 3 ^ i ≤ 20 * 3 ^ 6 := Nat.mul_le_mul mo20 w2
              omega
            refine ⟨T0, _, rfl, SqT.of upd_same, rfl, _, _, rfl, _, _, rfl, rfl, rfl, ?_⟩
            refine ⟨_, rfl, _, rfl, _, _, rfl, rfl, wide_mul (a := 60) (b := 60) (by omega) b1 (by decide) (by decide) (by decide), _, rfl, _, _, rfl, rfl, _, Eq.trans (upd_ne hDT) hd9, ?_, AL.Same.updn sT hD2, ?_⟩
            · rw [List.length_map, List.length_take, List.length_zipWith]
              exact Nat.lt_of_le_of_lt (by rw [m1.1]; omega : _ ≤ 100) (by decide)
            · have g : (List.zipWith (fun u v => (by0 - 2) * u + v) r1 r2)[i1]? = some ((by0 - 2) * z1 + z2) := by rw [List.getElem?_zipWith, c1, c2]
              rw [upd_same, List.take_add_one, g, List.map_append]
              rfl
          rintro H9 ⟨s9, hd9⟩
          rw [List.take_of_length_le (by rw [List.length_zipWith, m1.1]; omega)] at hd9
          refine ⟨_, _, _, D2, _, rfl, (P8.same s9).mono (by omega), K8.trans (same_k7 s9), s9 _ _ hw8, paired_mono pr8 fun _ _ z => ⟨z.1, s9 _ _ z.2⟩, Dw2, hd9, by rw [List.length_zipWith, m1.1, m2.1, Nat.min_self], fun x hx => ?_⟩
          obtain ⟨t, ht⟩ := List.mem_iff_getElem?.mp hx
          rw [List.getElem?_zipWith] at ht
          cases e1 : r1[t]? with
          | none => rw [e1] at ht; cases ht
          | some u =>
            cases e2 : r2[t]? with
            | none => rw [e1, e2] at ht; cases ht
            | some v =>
              rw [e1, e2] at ht
              have w0 : x = (by0 - 2) * u + v := (Option.some.inj ht).symm
              have w1 := m1.2 u (List.mem_of_getElem? e1)
              have w2 := m2.2 v (List.mem_of_getElem? e2)
              have w3 : ((by0 - 2) * u).natAbs ≤ 2 * (mo * 3 ^ i) := by rw [Int.natAbs_mul]; exact Nat.mul_le_mul (by omega) w1
              have e3 : mo * 3 ^ (i + 1) = 3 * (mo * 3 ^ i) := by rw [Nat.pow_succ]; grind
              rw [w0, e3]
              omega
        · exact ⟨_, _, _, D, rs, rfl, P4.mono (by omega), K3.trans k4, hw4, pr4, Dw, k4.at P3 he (fun _ z => nomatch z), le, bi⟩
      clear hw3 pr3 he le be bi P3 Dw K3
      rintro σ' H3 ⟨v8, v9, v10, D, rs, rfl, P3, K3, hw3, pr3, Dw, he, le, be⟩
      obtain ⟨r1, r2⟩ := rowsZ_snoc hw3 pr3 Dw (r := rs) he
      refine ⟨_, rfl, .inl ⟨rfl, _, SqL.of hw3⟩, _, rfl, w, _, _, rfl, rfl, hw3, ?_, ?_⟩
      · rw [List.length_map, las, lM]; exact Nat.lt_of_le_of_lt (by omega : _ ≤ 1000) (by decide)
      refine ⟨_, _, _, _, _, rfl, (pen_upd7 P3 pw cw).mono (by omega), keep_upd7 K3 hw, as ++ [D], M ++ [rs], r1, r2, by rw [List.length_append, lM]; rfl, fun r hr => ?_⟩
      rcases List.mem_append.mp hr with h | h
      · refine ⟨(bM r h).1, fun v hv => Nat.le_trans ((bM r h).2 v hv) ?_⟩
        have e3 : mo * 3 ^ (i + 1) = 3 * (mo * 3 ^ i) := by rw [Nat.pow_succ]; grind
        rw [e3]; omega
      · rw [List.mem_singleton.mp h]; exact ⟨le, be⟩
    · rintro σ H2 ⟨v5, v6, v8, v9, v10, rfl, P2, k2, as, M, hw2, pr2, lM, bM⟩
      rw [Int.toNat_natCast] at P2 lM bM
      exact ⟨_, rfl, q w H2 M P2 k2 ⟨as, hw2, paired_mono pr2 fun _ _ z => z.2⟩ lM bM⟩
end
end AL
set_option Elab.async false
set_option maxRecDepth 100000
set_option exponentiation.threshold 70000
set_option maxHeartbeats 1000000
namespace AL
open PySem PySem.Spec PyProof.Rows L2 RZ
section
variable {P : Program} {w : World} {K : PySem.W.Frag} {mg : Str → Option Value} {base : Heap}

/-- tuples of whole numbers in a list -/
def RowsW (H : Hp) (w : Addr) (ws : List Rw) : Prop := ∃ as : List Addr, H w = some (.lst (as.map V.ref)) ∧ Paired (fun a r => H a = some (.tup (r.map V.int))) as ws
theorem RowsW.same {H H' : Hp} {w : Addr} {ws : List Rw} (h : RowsW H w ws) (s : Same H H') : RowsW H' w ws := by
  obtain ⟨as, h1, h2⟩ := h
  exact ⟨as, s _ _ h1, paired_mono h2 fun _ _ z => s _ _ z⟩
theorem RowsW.toT {H : Hp} {w : Addr} {ws : List Rw} (h : RowsW H w ws) : RowsT H w ws := by
  obtain ⟨as, h1, h2⟩ := h
  exact ⟨as, h1, paired_mono h2 fun _ _ z => .inr z⟩
/-- _law_exponents(pen, many, wide, most) -/
def spExs : Sp := fun vs H Q _ => ∃ (p c : Addr) (m k n mo : Nat), vs = [.ref p, .int (k : Int), .int (n : Int), .int (mo : Int)] ∧ Pen H p c m ∧ m < 600000000 ∧ k ≤ 6 ∧ n ≤ 4 ∧ 1 ≤ mo ∧ mo ≤ 20 ∧
  ∀ w H' M, Pen H' p c (m + 14 * k) → Keep p H H' → RowsW H' w M → M.length = k → (∀ r ∈ M, r.length = n ∧ ∀ v ∈ r, v.natAbs ≤ mo * 3 ^ k) → Q (.ref w) H'

abbrev st_law_exponents : Stmt := top 44
theorem sc_law_exponents : FnScope ["_law_pen_here", "_law_many", "_law_wide", "_law_most", "_law_row"] ["_law_pen_here", "_law_many", "_law_wide", "_law_most"] (defScope st_law_exponents) := ⟨rfl, rfl, rfl, by decide +kernel, rfl, by decide +kernel, by decide +kernel⟩
theorem ok_law_exponents (B : Blt mg)  {f_law_draw : Addr} {fd_law_draw : FuncData} (D_law_draw : DefAt K mg "_law_draw" st_law_draw ["_law_pen_here", "_law_many"] f_law_draw fd_law_draw) {f_law_pick : Addr} {fd_law_pick : FuncData} (D_law_pick : DefAt K mg "_law_pick" st_law_pick ["_law_pen_here", "_law_some"] f_law_pick fd_law_pick) {f_law_matrix : Addr} {fd_law_matrix : FuncData} (D_law_matrix : DefAt K mg "_law_matrix" st_law_matrix ["_law_pen_here", "_law_many", "_law_wide", "_law_most"] f_law_matrix fd_law_matrix) {f_law_exponents : Addr} {fd_law_exponents : FuncData} (D_law_exponents : DefAt K mg "_law_exponents" st_law_exponents ["_law_pen_here", "_law_many", "_law_wide", "_law_most"] f_law_exponents fd_law_exponents) : FnOk P w K mg base CX0 4 f_law_exponents fd_law_exponents ["_law_pen_here", "_law_many", "_law_wide", "_law_most"] spExs := by
  have OK_law_matrix : FnOk P w K mg base CX0 3 f_law_matrix fd_law_matrix ["_law_pen_here", "_law_many", "_law_wide", "_law_most"] spMx := ok_law_matrix B  D_law_draw D_law_pick D_law_matrix
  refine D_law_exponents.F.ok sc_law_exponents (fun vs H Q E h => ?_) (fun cdv A outer s H vs Q E hr h => ?_)
  · obtain ⟨p, c, m, k, n, mo, rfl, _⟩ := h; rfl
  · have hu := hu_of hr
    refine ⟨_, (pss_one (ps_ret (pe_lc (own := [("_law_row", 4)]) (g := gName 4) (tt := tYes) rfl sc_law_exponents.nd (pi_list (pe_call OK_law_matrix (hr.mono (by decide)) rfl D_law_matrix.m D_law_matrix.F.kp D_law_matrix.b .nil pass0 (pa_cons (pv 0) (pa_cons (pv 1) (pa_cons (pv 2) (pa_cons (pv 3) pa_nil)))))) (blkOk_by (own := [("_law_row", 4)]) (N := ["_law_pen_here", "_law_many", "_law_wide", "_law_most", "_law_row"]) (sc := defScope st_law_exponents) (by decide +kernel)) (fun _ _ _ _ _ => (pg_name (i := 4) sc_law_exponents.nd rfl (Or.inl rfl))) (fun _ _ _ _ _ => pts_nil) (fun _ _ _ _ _ => (pe_callTy (call_tupK : CallR _ _ (rTup K)) (by rfl) B.tuple_ (by decide +kernel) (pa_cons (pv 4) pa_nil)))))), ?_⟩
    obtain ⟨p, c, m, k, n, mo, rfl, P, hm, hk, hn, mo1, mo20, q⟩ := h
    refine ⟨_, rfl, _, rfl, _, rfl, _, rfl, p, c, m, k, n, mo, rfl, P, hm, hk, hn, mo1, mo20, fun w H1 M P1 k1 hM lM bM => ?_⟩
    obtain ⟨as, W1, W2⟩ := hM
    have las := prd_len W2
    refine ⟨w, rfl, ⟨_, SqL.of W1⟩, fun D hD => ?_⟩
    refine lc_list (K := K) (a := w) (xs := as.map V.ref) (fun i H' => Same H1 H' ∧ ∃ cs : List Addr, H' D = some (.lst (cs.map V.ref)) ∧ Paired (fun a r => H' a = some (.tup (r.map V.int))) cs (M.take i)) ⟨AL.Same.new hD, [], upd_same, .nil⟩ (fun i H' _ hh => SqL.of (hh.1 _ _ W1)) ?_ ?_
    · rintro i x H2 hx ⟨s2, cs, hd, pr⟩
      obtain ⟨a, ha, rfl⟩ := map_ref hx
      obtain ⟨r, hr, hra⟩ := prd_get W2 ha
      have il := (List.getElem?_eq_some_iff.mp hr).1
      have lcs := prd_len pr
      rw [List.length_take] at lcs
      refine ⟨rfl, ?_⟩
      refine ⟨_, rfl, a, _, rfl, .inl ⟨SqL.of (s2 _ _ hra), fun l hl => ?_⟩⟩
      have nl := AL.Same.new (o := .tup (r.map V.int)) hl
      have tu := upd_tups (o := .lst (cs.map V.ref ++ [.ref l])) (nl _ _ hd) (fun _ z => nomatch z)
      refine ⟨_, nl _ _ hd, ?_, AL.Same.updn (s2.trans nl) hD, cs ++ [l], by rw [upd_same, List.map_append]; rfl, ?_⟩
      · rw [List.length_map, lcs]; exact Nat.lt_of_le_of_lt (by omega : _ ≤ 1000) (by decide)
      · rw [List.take_add_one, hr]
        exact prd_snoc (paired_mono pr fun _ _ z => tu _ _ (nl _ _ z)) (tu _ _ upd_same)
    rintro H2 ⟨s2, cs, hd, pr⟩
    rw [List.length_map, las, List.take_length] at pr
    exact q D H2 M (P1.same s2) (k1.trans (same_k7 s2)) ⟨cs, hd, pr⟩ lM bM
end
end AL
set_option Elab.async false
set_option maxRecDepth 100000
set_option exponentiation.threshold 70000
set_option maxHeartbeats 1000000
namespace AL
open PySem PySem.Spec PyProof.Rows L2 RZ
section
variable {P : Program} {w : World} {K : PySem.W.Frag} {mg : Str → Option Value} {base : Heap}

/-- _law_is_change(value, wide), a tuple of so many ints -/
def spIc : Sp := fun vs H Q _ => ∃ (v : Addr) (c : Rw), vs = [.ref v, .int (c.length : Int)] ∧ H v = some (.tup (c.map V.int)) ∧ ∀ H', Same H H' → Q (.bl true) H'
/-- _law_in_span(exponents, row) -/
def spIs : Sp := fun vs H Q _ => ∃ (w r : Addr) (n B : Nat) (E : List Rw) (rs : Rw), vs = [.ref w, .ref r] ∧ RowsW H w E ∧ LT H r rs ∧ rs.length = n ∧ (∀ e ∈ E, e.length = n) ∧ n ≤ 20 ∧ E.length ≤ 20 ∧ 1 ≤ B ∧ (∀ e ∈ E, ∀ v ∈ e, v.natAbs ≤ B) ∧ (∀ v ∈ rs, v.natAbs ≤ B) ∧ facB B (E.length + 2) < 2 ^ 6000 ∧
  ∀ H' b, Same H H' → (b = true ↔ Spn (inR E) (vl rs)) → Q (.bl b) H'
theorem span_rank {E : List Rw} {rs : Rw} {s t : Nat} (h1 : RankIs E s) (h2 : RankIs (E ++ [rs]) t) : s = t ↔ Spn (inR E) (vl rs) := by
  have up : ∀ r ∈ E, Spn (inR (E ++ [rs])) (vl r) := fun r hr => .mem ⟨r, List.mem_append_left _ hr, rfl⟩
  constructor
  · rintro rfl
    exact h1.all h2 up rs (List.mem_append_right _ (List.mem_singleton.mpr rfl))
  · intro h
    refine Nat.le_antisymm (h1.le_of h2 up) (h2.le_of h1 fun r hr => ?_)
    rcases List.mem_append.mp hr with h' | h'
    · exact .mem ⟨r, h', rfl⟩
    · rw [List.mem_singleton.mp h']; exact h

abbrev st_law_is_change : Stmt := top 47
theorem sc_law_is_change : FnScope ["_law_value", "_law_wide", "_law_one"] ["_law_value", "_law_wide"] (defScope st_law_is_change) := ⟨rfl, rfl, rfl, by decide +kernel, rfl, by decide +kernel, by decide +kernel⟩
theorem ok_law_is_change (B : Blt mg)  {f_law_is_whole : Addr} {fd_law_is_whole : FuncData} (D_law_is_whole : DefAt K mg "_law_is_whole" st_law_is_whole ["_law_value"] f_law_is_whole fd_law_is_whole) {f_law_is_change : Addr} {fd_law_is_change : FuncData} (D_law_is_change : DefAt K mg "_law_is_change" st_law_is_change ["_law_value", "_law_wide"] f_law_is_change fd_law_is_change) : FnOk P w K mg base CX0 2 f_law_is_change fd_law_is_change ["_law_value", "_law_wide"] spIc := by
  have OK_law_is_whole : FnOk P w K mg base CX0 1 f_law_is_whole fd_law_is_whole ["_law_value"] spWh7 := ok_law_is_whole B  D_law_is_whole
  refine D_law_is_change.F.ok sc_law_is_change (fun vs H Q E h => ?_) (fun cdv A outer s H vs Q E hr h => ?_)
  · obtain ⟨v, c, rfl, _⟩ := h; rfl
  · have hu := hu_of hr
    refine ⟨_, (pss_one (ps_ret (pe_and (pe_callB call_isi (by rfl) B.isinstance_ (by decide +kernel) (pa_cons (pv 0) (pa_cons (pe_bltn (v := .ty "tuple") (by rfl) B.tuple_ PyProof.Rows.Boot.«tuple» rfl) pa_nil))) (pe_and (pe_cmpR op_eq (pe_callB call_len_seq (by rfl) B.len_ (by decide +kernel) (pa_cons (pv 0) pa_nil)) (pv 1) (nomark _)) (pe_one (pe_cmpR (op_eqD hr.units) (pe_lc (own := [("_law_one", 2)]) (g := gName 2) rfl sc_law_is_change.nd (pi_tup (pv 0)) (blkOk_by (own := [("_law_one", 2)]) (N := ["_law_value", "_law_wide", "_law_one"]) (sc := defScope st_law_is_change) (by decide +kernel)) (fun _ _ _ _ _ => (pg_name (i := 2) sc_law_is_change.nd rfl (Or.inl rfl))) (fun _ _ _ _ _ => (pts_one (pt_not (pt_val (pe_call OK_law_is_whole (hr.mono (by decide)) rfl D_law_is_whole.m D_law_is_whole.F.kp D_law_is_whole.b .nil pass0 (pa_cons (pv 2) pa_nil)))))) (fun _ _ _ _ _ => (pv 2))) (pe_lst pa_nil) (nomark _))))))), ?_⟩
    obtain ⟨v, c, rfl, hv, q⟩ := h
    refine ⟨_, rfl, _, _, _, _, _, rfl, ClsV.ty _, TyX.base (.tup hv), rfl, true, rfl, ?_⟩
    refine iteT ?_
    refine ⟨_, rfl, v, _, rfl, .inr (SqT.of hv), _, rfl, rfl, true, ?_, ?_⟩
    · rw [List.length_map]; exact congrArg V.bl (decide_eq_true rfl)
    refine iteT ?_
    refine ⟨_, rfl, v, rfl, ⟨_, SqT.of hv⟩, fun D hD => ?_⟩
    refine lc_tup (K := K) (a := v) (xs := c.map V.int) (fun i H' => Same H H' ∧ H' D = some (.lst [])) ⟨AL.Same.new hD, upd_same⟩ (fun i H' _ hh => SqT.of (hh.1 _ _ hv)) ?_ ?_
    · rintro i x H1 hx ⟨s1, hd⟩
      obtain ⟨z, hz, rfl⟩ := map_int hx
      refine ⟨rfl, ?_⟩
      refine ⟨_, rfl, z, rfl, true, rfl, ?_⟩
      refine iteF ?_
      exact ⟨s1, hd⟩
    rintro H1 ⟨s1, hd⟩
    refine ⟨(by show 0 ≤ sizeLine; decide), fun l hl => ?_⟩
    have n1 := AL.Same.new (o := .lst []) hl
    refine ⟨_, _, .lst (SqL.of (n1 _ _ hd)) .nil, .lst (SqL.of upd_same) .nil, rfl, rfl, ?_⟩
    rw [SeqAt.eqv_refl _ (SeqAt.canLay_of_shaped (by rfl))]
    exact q _ (s1.trans n1)
end
end AL
set_option Elab.async false
set_option maxRecDepth 100000
set_option exponentiation.threshold 70000
set_option maxHeartbeats 1000000
namespace AL
open PySem PySem.Spec PyProof.Rows L2 RZ
section
variable {P : Program} {w : World} {K : PySem.W.Frag} {mg : Str → Option Value} {base : Heap}
abbrev st_law_in_span : Stmt := top 48
theorem sc_law_in_span : FnScope ["_law_exponents_here", "_law_row", "_law_rows", "_law_one"] ["_law_exponents_here", "_law_row"] (defScope st_law_in_span) := ⟨rfl, rfl, rfl, by decide +kernel, rfl, by decide +kernel, by decide +kernel⟩
theorem ok_law_in_span (B : Blt mg)  {f_law_rank : Addr} {fd_law_rank : FuncData} (D_law_rank : DefAt K mg "_law_rank" st_law_rank ["_law_rows"] f_law_rank fd_law_rank) {f_law_in_span : Addr} {fd_law_in_span : FuncData} (D_law_in_span : DefAt K mg "_law_in_span" st_law_in_span ["_law_exponents_here", "_law_row"] f_law_in_span fd_law_in_span) : FnOk P w K mg base CX0 2 f_law_in_span fd_law_in_span ["_law_exponents_here", "_law_row"] spIs := by
  have OK_law_rank : FnOk P w K mg base CX0 1 f_law_rank fd_law_rank ["_law_rows"] spRk := ok_law_rank B  D_law_rank
  refine D_law_in_span.F.ok sc_law_in_span (fun vs H Q E h => ?_) (fun cdv A outer s H vs Q E hr h => ?_)
  · obtain ⟨w, r, n, B0, E, rs, rfl, _⟩ := h; rfl
  · have hu := hu_of hr
    refine ⟨_, (pss_cons (ps_setLc (i := 2) (own := [("_law_one", 3)]) (g := gName 3) (tt := tYes) rfl sc_law_in_span.nd rfl rfl (sw_true rfl rfl rfl (by decide +kernel)) (pi_list (pv 0)) (blkOk_by (own := [("_law_one", 3)]) (N := ["_law_exponents_here", "_law_row", "_law_rows", "_law_one"]) (sc := defScope st_law_in_span) (by decide +kernel)) (fun _ _ _ _ _ => (pg_name (i := 3) sc_law_in_span.nd rfl (Or.inl rfl))) (fun _ _ _ _ _ => pts_nil) (fun _ _ _ _ _ => (pe_callTy (call_listK : CallR _ _ (rListK K)) (by rfl) B.list_ (by decide +kernel) (pa_cons (pv 3) pa_nil))))
    (pss_one (ps_ret (pe_cmpR op_eq (pe_call OK_law_rank (hr.mono (by decide)) rfl D_law_rank.m D_law_rank.F.kp D_law_rank.b .nil pass0 (pa_cons (pv 2) pa_nil)) (pe_call OK_law_rank (hr.mono (by decide)) rfl D_law_rank.m D_law_rank.F.kp D_law_rank.b .nil pass0 (pa_cons (pe_op op_cat (pv 2) (pe_lst (pa_cons (pe_callTy (call_listK : CallR _ _ (rListK K)) (by rfl) B.list_ (by decide +kernel) (pa_cons (pv 1) pa_nil)) pa_nil))) pa_nil)) (nomark _))))), ?_⟩
    obtain ⟨w, r, n, B0, E, rs, rfl, hw, hr, lr, hl, hn, lE, B1, hB, hBr, fb, q⟩ := h
    obtain ⟨as, W1, W2⟩ := hw
    have las := prd_len W2
    refine ⟨_, rfl, w, rfl, ⟨_, SqL.of W1⟩, fun D hD => ?_⟩
    refine lc_list (K := K) (a := w) (xs := as.map V.ref) (fun i H' => Same H H' ∧ ∃ cs : List Addr, H' D = some (.lst (cs.map V.ref)) ∧ Paired (fun a r => a ≠ D ∧ H' a = some (.lst (r.map V.int))) cs (E.take i)) ⟨AL.Same.new hD, [], upd_same, .nil⟩ (fun i H' _ hh => SqL.of (hh.1 _ _ W1)) ?_ ?_
    · rintro i x H1 hx ⟨s1, cs, hd, pr⟩
      obtain ⟨a, ha, rfl⟩ := map_ref hx
      obtain ⟨x, hx, hxa⟩ := prd_get W2 ha
      have lcs := prd_len pr
      rw [List.length_take] at lcs
      refine ⟨rfl, ?_⟩
      refine ⟨_, rfl, a, _, rfl, .inr (SqT.of (s1 _ _ hxa)), fun l hl => ?_⟩
      have nl := AL.Same.new (o := .lst (x.map V.int)) hl
      have lD : l ≠ D := fun e => by rw [e, hd] at hl; cases hl
      obtain ⟨r1, r2⟩ := rowsZ_snoc (nl _ _ hd) (paired_mono pr fun _ _ z => ⟨z.1, nl _ _ z.2⟩) lD (upd_same : upd H1 l (.lst (x.map V.int)) l = _)
      refine ⟨_, nl _ _ hd, ?_, AL.Same.updn (s1.trans nl) hD, cs ++ [l], r1, ?_⟩
      · rw [List.length_map]; exact Nat.lt_of_le_of_lt (by omega : _ ≤ 1000) (by decide)
      · rw [List.take_add_one, hx]; exact r2
    rintro H1 ⟨s1, cs, hd, pr⟩
    rw [List.length_map, las, List.take_length] at pr
    refine ⟨_, rfl, D, n, B0, E, rfl, ⟨cs, hd, paired_mono pr fun _ _ z => .inl z.2⟩, hl, by omega, by omega, hB, B1, Nat.lt_of_le_of_lt (facB_mono B1 (by omega)) fb, fun H2 s s2 rk1 => ?_⟩
    have hr2 := hr.same (s1.trans s2)
    refine ⟨_, rfl, _, rfl, r, rs.map V.int, rfl, hr2.seq, fun l hl' => ?_⟩
    have nl := AL.Same.new (o := .lst (rs.map V.int)) hl'
    refine ⟨(by show 1 ≤ sizeLine; decide), fun l2 hl2 => ?_⟩
    have nl2 := AL.Same.new (o := .lst [.ref l]) hl2
    have hd2 := (nl.trans nl2) _ _ (s2 _ _ hd)
    have hl3 := nl2 _ _ (upd_same : upd H2 l (.lst (rs.map V.int)) l = _)
    have lcs := prd_len pr
    refine ⟨D, l2, _, _, rfl, rfl, hd2, upd_same, ?_, fun G hG => ?_⟩
    · rw [List.length_map]; exact Nat.le_trans (by show cs.length + 1 ≤ 1000; omega) (by decide)
    have nG := AL.Same.new (o := .lst (cs.map V.ref ++ [.ref l])) hG
    have s3 := nl.trans (nl2.trans nG)
    have hG' : upd (upd (upd H2 l (.lst (rs.map V.int))) l2 (.lst [.ref l])) G (.lst (cs.map V.ref ++ [.ref l])) G = some (.lst ((cs ++ [l]).map V.ref)) := by rw [upd_same, List.map_append]; rfl
    refine ⟨G, n, B0, E ++ [rs], rfl, ⟨cs ++ [l], hG', prd_snoc (paired_mono pr fun _ _ z => .inl (s3 _ _ (s2 _ _ z.2))) (.inl (nG _ _ hl3))⟩, fun x hx => ?_, by omega, by rw [List.length_append]; show E.length + 1 ≤ 30; omega, fun x hx => ?_, B1, by rw [List.length_append]; exact fb, fun H4 t s4 rk2 => ?_⟩
    · rcases List.mem_append.mp hx with h | h
      · exact hl x h
      · rw [List.mem_singleton.mp h]; exact lr
    · rcases List.mem_append.mp hx with h | h
      · exact hB x h
      · rw [List.mem_singleton.mp h]; exact hBr
    refine ⟨rfl, ?_⟩
    refine q H4 _ (s1.trans (s2.trans (s3.trans s4))) ?_
    rw [decide_eq_true_iff, ← span_rank rk1 rk2]
    exact ⟨fun e => by injection e with e; omega, fun e => by rw [e]⟩
end
end AL
set_option Elab.async false
set_option maxRecDepth 100000
set_option exponentiation.threshold 70000
set_option maxHeartbeats 1000000
namespace AL
open PySem PySem.Spec PyProof.Rows L2 RZ
section
variable {P : Program} {w : World} {K : PySem.W.Frag} {mg : Str → Option Value} {base : Heap}
theorem find_mem {G : List Rw} {p : Nat} {f : Rw} (h : G.find? (fun f => decide (piv f = p)) = some f) : f ∈ G ∧ piv f = p := ⟨List.mem_of_find?_eq_some h, by have := List.find?_some h; exact of_decide_eq_true this⟩
theorem whole_vl {xs : List Rat} {j : Nat} {x : Rat} (h : xs[j]? = some x) : (vl (wholeR xs) j = 0) ↔ x = 0 := by
  have e : vl (wholeR xs) j = x.num * ((lcmD xs / x.den : Nat) : Int) := vl_get (by unfold wholeR; rw [List.getElem?_map, h]; rfl)
  have lc := lcm_fold xs 1 (by decide)
  have dL : x.den ∣ lcmD xs := lc.2.2.1 x (List.mem_of_getElem? h)
  have L0 : 0 < lcmD xs := lc.1
  have q0 : 0 < lcmD xs / x.den := Nat.div_pos (Nat.le_of_dvd L0 dL) x.den_pos
  rw [e, Int.mul_eq_zero]
  constructor
  · rintro (z | z)
    · exact Rat.num_eq_zero.mp z
    · omega
  · rintro rfl
    exact .inl rfl
theorem grp_vl {G : List Rw} {many free j : Nat} (h : j < many) : (vl (grp G many free) j = 0) ↔ rhoX G free j = 0 := by
  unfold grp
  exact whole_vl (by unfold grX; rw [List.getElem?_map, List.getElem?_range h]; rfl)
theorem rho_at {G : List Rw} {free p : Nat} {f : Rw} (hf : G.find? (fun f => decide (piv f = p)) = some f) (ne : p ≠ free) (pos : 0 < vl f p) : rhoX G free p = 0 ↔ vl f free = 0 := by
  unfold rhoX
  rw [if_neg ne, hf]
  show mkRat _ _ = 0 ↔ _
  rw [Rat.mkRat_eq_zero (by omega)]
  omega
/-- a letter hangs alone where no free letter hangs with it -/
theorem grs_none {G : List Rw} {many p : Nat} {f : Rw} (hp : p < many) (hf : G.find? (fun f => decide (piv f = p)) = some f) (pos : 0 < vl f p) : (grsS G many many).getD p none = none ↔ ∀ free, free < many → isPv G free = false → vl f free = 0 := by
  obtain ⟨o, h1, h2, _⟩ := grsS_spec G many many hp
  rw [List.getD_eq_getElem?_getD, h1]
  show o = none ↔ _
  rw [h2]
  have key : ∀ free, isPv G free = false → (vl (grp G many free) p = 0 ↔ vl f free = 0) := fun free hz => by
    rw [grp_vl hp]
    refine rho_at hf (fun e => ?_) pos
    subst e
    obtain ⟨m, e⟩ := find_mem hf
    have : isPv G p = true := List.any_eq_true.mpr ⟨f, m, decide_eq_true e⟩
    rw [hz] at this; cases this
  exact ⟨fun h free a b => (key free b).mp (h free a b), fun h free a b => (key free b).mpr (h free a b)⟩

section
variable {E : List Rw} {rs : Rw} {n : Nat} {y : Nat → Int} {z : Int}
theorem dual_cls (m : Nat) (y : Nat → Int) (z : Int) : Cls0 (fun x => (sm m fun k => x k * y k) = x m * z) := by
  refine ⟨?_, fun {x w} p t hx hw => ?_, fun {x s} s0 h => ?_⟩
  · rw [sm_congr (g := fun _ => 0) fun i _ => Int.zero_mul _, sm_zero, Int.zero_mul]
  · dsimp only at hx hw ⊢
    have e : (sm m fun k => (p * x k + t * w k) * y k) = p * (sm m fun k => x k * y k) + t * sm m fun k => w k * y k := by
      rw [← sm_lin]; exact sm_congr fun k _ => by grind
    rw [e, hx, hw]; grind
  · dsimp only at h ⊢
    have e : (sm m fun k => s * x k * y k) = s * sm m fun k => x k * y k := by
      rw [← sm_scale]; exact sm_congr fun k _ => by grind
    rw [e] at h
    exact Int.eq_of_mul_eq_mul_left s0 (by rw [h]; grind)
/-- what holds of the reduced rows holds of each base unit -/
theorem dual_all (h : ∀ g ∈ spn (rowsH E rs n), (sm E.length fun k => vl g k * y k) = vl g E.length * z) : ∀ i, i < n → (sm E.length fun k => y k * vl (E.getD k []) i) = vl rs i * z := fun i hi => by
  obtain ⟨_, h1, _⟩ := spn_spec (W := E.length + 1 + n) (rows := rowsH E rs n) fun r hr => by
    unfold rowsH at hr
    obtain ⟨i, _, rfl⟩ := List.mem_map.mp hr
    exact rowH_len E rs n i
  have m : rowH E rs n i ∈ rowsH E rs n := by unfold rowsH; exact List.mem_map.mpr ⟨i, List.mem_range.mpr hi, rfl⟩
  have w := (h1 _ m).clo (dual_cls E.length y z) (by rintro x ⟨g, hg, rfl⟩; exact h g hg)
  try dsimp only at w
  rw [rowH_mid] at w
  rw [← w]
  exact sm_congr fun k hk => by rw [rowH_left hk, Int.mul_comm]
theorem mk_mul {a : Int} {b L : Nat} (hb : b ≠ 0) (h : (mkRat a b).den ∣ L) : (b : Int) * ((mkRat a b).num * ((L / (mkRat a b).den : Nat) : Int)) = a * (L : Int) := by
  have e : mkRat a b = mkRat (mkRat a b).num (mkRat a b).den := (Rat.mkRat_self _).symm
  have e2 := (Rat.mkRat_eq_iff hb (Rat.den_nz _)).mp e
  obtain ⟨q, rfl⟩ := h
  have d0 := (mkRat a b).den_pos
  rw [Nat.mul_div_cancel_left _ d0, Int.natCast_mul]
  calc (b : Int) * ((mkRat a b).num * (q : Int)) = ((mkRat a b).num * (b : Int)) * q := by grind
    _ = _ := by rw [← e2]; grind
variable {G : List Rw}
/-- where no reduced row leads at the result -/
structure Stp (E : List Rw) (rs : Rw) (n : Nat) (S : List Rw) : Prop where
  mem : ∀ f ∈ S, f ∈ spn (rowsH E rs n) ∧ piv f < E.length
  all : ∀ g ∈ spn (rowsH E rs n), g ∈ S ∨ E.length < piv g
theorem stp_of (hG : G.Perm (spn (rowsH E rs n))) (nom : ∀ g ∈ G, piv g ≠ E.length) : Stp E rs n (G.filter fun f => decide (piv f ≤ E.length)) := by
  refine ⟨fun f hf => ?_, fun g hg => ?_⟩
  · obtain ⟨m, d⟩ := List.mem_filter.mp hf
    have := of_decide_eq_true d
    have := nom f m
    exact ⟨hG.mem_iff.mp m, by omega⟩
  · have m := hG.mem_iff.mpr hg
    by_cases c : piv g ≤ E.length
    · exact .inl (List.mem_filter.mpr ⟨m, decide_eq_true c⟩)
    · exact .inr (by omega)
theorem far_zero {g : Rw} (hg : g ∈ spn (rowsH E rs n)) (h : E.length < piv g) {k : Nat} (hk : k ≤ E.length) : vl g k = 0 := by
  obtain ⟨R, _, _⟩ := rowsH_spec (E := E) (rs := rs) (n := n)
  exact (piv_spec (pos_allZ (R.pos g hg))).2.2 k (by omega)
theorem off_zero {f g : Rw} (hf : f ∈ spn (rowsH E rs n)) (hg : g ∈ spn (rowsH E rs n)) (ne : piv f ≠ piv g) : vl f (piv g) = 0 := by
  obtain ⟨R, _, _⟩ := rowsH_spec (E := E) (rs := rs) (n := n)
  obtain ⟨i, hi⟩ := List.mem_iff_getElem?.mp hg
  obtain ⟨i2, hi2⟩ := List.mem_iff_getElem?.mp hf
  exact rref_off R hi hi2 fun e => ne (by
    subst e
    rw [hi] at hi2
    cases Option.some.inj hi2; rfl)
theorem same_piv {f g : Rw} (hf : f ∈ spn (rowsH E rs n)) (hg : g ∈ spn (rowsH E rs n)) (e : piv f = piv g) : f = g := by
  obtain ⟨R, _, _⟩ := rowsH_spec (E := E) (rs := rs) (n := n)
  obtain ⟨i, hi⟩ := List.mem_iff_getElem?.mp hg
  obtain ⟨i2, hi2⟩ := List.mem_iff_getElem?.mp hf
  refine Classical.byContradiction fun ne => ?_
  have o := rref_off R hi hi2 fun c => ne (by
    subst c
    rw [hi] at hi2
    exact (Option.some.inj hi2).symm)
  rw [← e] at o
  have := R.pos f hf
  omega
theorem find_piv {S : List Rw} (st : Stp E rs n S) {g : Rw} (hg : g ∈ S) : S.find? (fun f => decide (piv f = piv g)) = some g := by
  cases h : S.find? (fun f => decide (piv f = piv g)) with
  | none => exact absurd (decide_eq_true rfl) (List.find?_eq_none.mp h g hg)
  | some f =>
    obtain ⟨m, e⟩ := find_mem h
    rw [same_piv (st.mem f m).1 (st.mem g hg).1 e]
/-- the groups are groups -/
theorem grp_ok {S : List Rw} (st : Stp E rs n S) {free : Nat} (hf : free < E.length) (np : isPv S free = false) : ∀ i, i < n → (sm E.length fun k => vl (grp S E.length free) k * vl (E.getD k []) i) = 0 := fun i hi => by
  have w := dual_all (E := E) (rs := rs) (n := n) (y := vl (grp S E.length free)) (z := 0) (fun g hg => ?_) i hi
  · rw [w, Int.mul_zero]
  rw [Int.mul_zero]
  rcases st.all g hg with mg | far
  · have pg := (st.mem g mg).2
    obtain ⟨R, _, _⟩ := rowsH_spec (E := E) (rs := rs) (n := n)
    have pos := R.pos g hg
    have nf : piv g ≠ free := fun e => by
      have : isPv S free = true := List.any_eq_true.mpr ⟨g, mg, decide_eq_true e⟩
      rw [np] at this; cases this
    have at_ : ∀ k, k < E.length → vl (grp S E.length free) k = (rhoX S free k).num * ((lcmD (grX S E.length free) / (rhoX S free k).den : Nat) : Int) := fun k hk => by
      refine vl_get ?_
      unfold grp wholeR
      rw [List.getElem?_map]
      unfold grX
      rw [List.getElem?_map, List.getElem?_range hk]; rfl
    have lc := lcm_fold (grX S E.length free) 1 (by decide)
    have dv : ∀ k, k < E.length → (rhoX S free k).den ∣ lcmD (grX S E.length free) := fun k hk => lc.2.2.1 _ (by unfold grX; exact List.mem_map.mpr ⟨k, List.mem_range.mpr hk, rfl⟩)
    have rf : rhoX S free free = 1 := by unfold rhoX; rw [if_pos rfl]
    have rp : rhoX S free (piv g) = mkRat (-(vl g free)) (vl g (piv g)).toNat := by
      unfold rhoX
      rw [if_neg nf, find_piv st mg]
    have e0 : (sm E.length fun k => vl g k * vl (grp S E.length free) k) = 1 * (sm E.length fun k => if k = piv g then vl g (piv g) * vl (grp S E.length free) (piv g) else 0) + 1 * sm E.length fun k => if k = free then vl g free * vl (grp S E.length free) free else 0 := by
      rw [← sm_lin]
      refine sm_congr fun k hk => ?_
      by_cases c1 : k = piv g
      · rw [if_pos c1, if_neg (by omega), c1]; omega
      · rw [if_neg c1]
        by_cases c2 : k = free
        · rw [if_pos c2, c2]; omega
        · rw [if_neg c2]
          cases hp : isPv S k with
          | true =>
            obtain ⟨h, mh, eh⟩ := List.any_eq_true.mp hp
            have := of_decide_eq_true eh
            have o := off_zero (st.mem g mg).1 (st.mem h mh).1 (by omega)
            rw [this] at o
            rw [o]; omega
          | false =>
            have rz : rhoX S free k = 0 := by
              unfold rhoX
              rw [if_neg c2]
              have : S.find? (fun f => decide (piv f = k)) = none := List.find?_eq_none.mpr fun f hf z => by
                have : isPv S k = true := List.any_eq_true.mpr ⟨f, hf, z⟩
                rw [hp] at this; cases this
              rw [this]
            rw [at_ k hk, rz]; simp
    rw [e0, sm_one (k := piv g) pg fun t _ ne => if_neg ne, if_pos rfl, sm_one (k := free) hf fun t _ ne => if_neg ne, if_pos rfl]
    rw [at_ _ pg, at_ _ hf, rp, rf]
    have d := dv _ pg
    rw [rp] at d
    have mm := mk_mul (a := -(vl g free)) (b := (vl g (piv g)).toNat) (by omega) d
    rw [Int.toNat_of_nonneg (by omega)] at mm
    rw [mm]
    show 1 * (-(vl g free) * _) + 1 * (vl g free * (1 * ((lcmD (grX S E.length free) / 1 : Nat) : Int))) = 0
    rw [Nat.div_one]; grind
  · rw [sm_congr (g := fun _ => 0) fun k hk => by rw [far_zero hg far (by omega), Int.zero_mul], sm_zero]
/-- where no row leads at the result, it hangs on the letters -/
theorem in_span {S : List Rw} (st : Stp E rs n S) (lr : rs.length = n) (hE : ∀ e ∈ E, e.length = n) : Spn (inR E) (vl rs) := by
  obtain ⟨R, _, _⟩ := rowsH_spec (E := E) (rs := rs) (n := n)
  have sp : ∀ f ∈ S, 0 < vl f (piv f) := fun f hf => R.pos f (st.mem f hf).1
  have P0 := pvP_pos sp
  let y : Nat → Int := fun k => match S.find? (fun f => decide (piv f = k)) with
    | some f => vl f E.length * ((pvP S / (vl f k).toNat : Nat) : Int)
    | none => 0
  have w := dual_all (E := E) (rs := rs) (n := n) (y := y) (z := (pvP S : Int)) fun g hg => by
    rcases st.all g hg with mg | far
    · have pg := (st.mem g mg).2
      have pos := sp g mg
      rw [sm_one (k := piv g) pg fun k hk ne => ?_]
      · show vl g (piv g) * (match S.find? (fun f => decide (piv f = piv g)) with
          | some f => vl f E.length * ((pvP S / (vl f (piv g)).toNat : Nat) : Int)
          | none => 0) = _
        rw [find_piv st mg]
        obtain ⟨q, hq⟩ := pvP_dvd mg
        have e : pvP S / (vl g (piv g)).toNat = q := by rw [hq, Nat.mul_div_cancel_left _ (by omega)]
        show vl g (piv g) * (vl g E.length * ((pvP S / (vl g (piv g)).toNat : Nat) : Int)) = vl g E.length * (pvP S : Int)
        rw [e, hq, Int.natCast_mul, Int.toNat_of_nonneg (by omega)]; grind
      · cases hp : S.find? (fun f => decide (piv f = k)) with
        | none =>
          have : y k = 0 := by show (match S.find? (fun f => decide (piv f = k)) with | some f => vl f E.length * ((pvP S / (vl f k).toNat : Nat) : Int) | none => 0) = 0; rw [hp]
          rw [this, Int.mul_zero]
        | some h =>
          obtain ⟨mh, eh⟩ := find_mem hp
          have o := off_zero (st.mem g mg).1 (st.mem h mh).1 (by omega)
          rw [eh] at o
          rw [o, Int.zero_mul]
    · rw [sm_congr (g := fun _ => 0) fun k hk => by rw [far_zero hg far (by omega), Int.zero_mul], sm_zero, far_zero hg far (Nat.le_refl _), Int.zero_mul]
  have go : ∀ m, m ≤ E.length → Spn (inR E) fun i => sm m fun k => y k * vl (E.getD k []) i := fun m => by
    induction m with
    | zero => intro _; exact .zero
    | succ m ih =>
      intro hm
      refine Spn.of (Spn.lin 1 (y m) (ih (by omega)) (.mem ⟨E.getD m [], ?_, rfl⟩)) fun i => ?_
      · rw [List.getD_eq_getElem?_getD, List.getElem?_eq_getElem (by omega)]; exact List.getElem_mem _
      · show sm m _ + _ = _
        rw [Int.one_mul]
  refine Spn.div (s := (pvP S : Int)) (by omega) ((go E.length (Nat.le_refl _)).of fun i => ?_)
  by_cases hi : i < n
  · rw [w i hi, Int.mul_comm]
  · rw [vl_out (x := rs) (by omega), sm_congr (g := fun _ => 0) fun k hk => by
      rw [vl_out (x := E.getD k []) (by
        rw [List.getD_eq_getElem?_getD, List.getElem?_eq_getElem hk]
        show (E[k]).length ≤ i
        rw [hE _ (List.getElem_mem _)]; omega), Int.mul_zero], sm_zero, Int.mul_zero]
/-- a row that leads at the result shows that it does not hang on the letters -/
theorem out_span {g : Rw} (hg : g ∈ spn (rowsH E rs n)) (e : piv g = E.length) : (∀ k, k < E.length → (sm n fun i => vl g (E.length + 1 + i) * vl (E.getD k []) i) = 0) ∧ (sm n fun i => vl g (E.length + 1 + i) * vl rs i) ≠ 0 ∧ ¬ Spn (inR E) (vl rs) := by
  obtain ⟨R, L, _⟩ := rowsH_spec (E := E) (rs := rs) (n := n)
  obtain ⟨L1, L2⟩ := L g hg
  have pg := R.pos g hg
  have z := (piv_spec (pos_allZ pg)).2.2
  rw [e] at pg z
  have a1 : ∀ k, k < E.length → (sm n fun i => vl g (E.length + 1 + i) * vl (E.getD k []) i) = 0 := fun k hk => by rw [← L1 k hk, z k hk]
  have a2 : (sm n fun i => vl g (E.length + 1 + i) * vl rs i) ≠ 0 := by rw [← L2]; omega
  refine ⟨a1, a2, fun s => a2 ?_⟩
  refine s.clo (R := fun x => (sm n fun i => vl g (E.length + 1 + i) * x i) = 0) ⟨?_, fun {x w} p t hx hw => ?_, fun {x s} s0 h => ?_⟩ ?_
  · rw [sm_congr (g := fun _ => 0) fun i _ => Int.mul_zero _, sm_zero]
  · dsimp only at hx hw ⊢
    rw [sm_congr (g := fun i => p * (vl g (E.length + 1 + i) * x i) + t * (vl g (E.length + 1 + i) * w i)) fun i _ => by grind, sm_lin, hx, hw]; simp
  · dsimp only at h ⊢
    rw [sm_congr (g := fun i => s * (vl g (E.length + 1 + i) * x i)) fun i _ => by grind, sm_scale] at h
    exact (Int.mul_eq_zero.mp h).resolve_left s0
  · rintro y ⟨r, hr, rfl⟩
    obtain ⟨k, hk⟩ := List.mem_iff_getElem?.mp hr
    have kl := (List.getElem?_eq_some_iff.mp hk).1
    have := a1 k kl
    rw [List.getD_eq_getElem?_getD, hk] at this
    exact this
end

end
end AL
set_option Elab.async false
set_option maxRecDepth 100000
set_option exponentiation.threshold 70000
set_option maxHeartbeats 1000000
namespace AL
open PySem PySem.Spec PyProof.Rows L2 RZ
section
variable {P : Program} {w : World} {K : PySem.W.Frag} {mg : Str → Option Value} {base : Heap}

section
variable {E : List Rw} {rs : Rw} {n : Nat} {S : List Rw}
theorem let_fixed (st : Stp E rs n S) {j : Nat} (hj : j < E.length) {f : Rw} (hf : fixA S E.length j = some f) : f ∈ S ∧ piv f = j ∧ 0 < vl f j ∧ (∀ k, k < E.length → k ≠ j → vl f k = 0) ∧ (grsS S E.length E.length).getD j none = none ∧ (∀ k, k < E.length → (sm n fun i => vl f (E.length + 1 + i) * vl (E.getD k []) i) = vl f k) ∧ (sm n fun i => vl f (E.length + 1 + i) * vl rs i) = vl f E.length := by
  obtain ⟨R, L, _⟩ := rowsH_spec (E := E) (rs := rs) (n := n)
  unfold fixA fixT at hf
  cases hfind : S.find? (fun f => decide (piv f = j)) with
  | none => rw [hfind] at hf; cases hf
  | some f' =>
    rw [hfind] at hf
    replace hf : (if (grsS S E.length E.length).getD j none = none then some f' else none) = some f := hf
    obtain ⟨mf, pf⟩ := find_mem hfind
    have ff := (st.mem f' mf).1
    have pos := R.pos f' ff
    rw [pf] at pos
    by_cases c : (grsS S E.length E.length).getD j none = none
    · rw [if_pos c] at hf
      obtain rfl := Option.some.inj hf
      refine ⟨mf, pf, pos, fun k hk ne => ?_, c, fun k hk => ((L f' ff).1 k hk).symm, (L f' ff).2.symm⟩
      cases e : isPv S k with
      | false => exact (grs_none hj hfind pos).mp c k hk e
      | true =>
        obtain ⟨g, mg, pg⟩ := List.any_eq_true.mp e
        have pg' := of_decide_eq_true pg
        have o := off_zero ff (st.mem g mg).1 (by omega)
        rw [pg'] at o; exact o
    · rw [if_neg c] at hf; cases hf
theorem let_free (st : Stp E rs n S) {j : Nat} (hj : j < E.length) (hf : fixA S E.length j = none) : ∃ free, free < E.length ∧ isPv S free = false ∧ (grsS S E.length E.length)[j]? = some (some (grp S E.length free)) ∧ vl (grp S E.length free) j ≠ 0 := by
  obtain ⟨o, h1, h2, h3⟩ := grsS_spec S E.length E.length hj
  cases o with
  | some g =>
    obtain ⟨free, lt, np, rfl, nz⟩ := h3 g rfl
    exact ⟨free, lt, np, h1, nz⟩
  | none =>
    have al := h2.mp rfl
    cases hp : isPv S j with
    | false =>
      refine absurd ((grp_vl hj).mp (al j hj hp)) ?_
      unfold rhoX
      rw [if_pos rfl]; decide
    | true =>
      obtain ⟨g, mg, pg⟩ := List.any_eq_true.mp hp
      have pg' := of_decide_eq_true pg
      have fp := find_piv st mg
      rw [pg'] at fp
      unfold fixA fixT at hf
      rw [fp] at hf
      replace hf : (if (grsS S E.length E.length).getD j none = none then some g else none) = none := hf
      rw [if_pos (by rw [List.getD_eq_getElem?_getD, h1]; rfl)] at hf
      cases hf
end

end
end AL
set_option Elab.async false
set_option maxRecDepth 100000
set_option exponentiation.threshold 70000
set_option maxHeartbeats 1000000
namespace AL
open PySem PySem.Spec PyProof.Rows L2 RZ
section
variable {P : Program} {w : World} {K : PySem.W.Frag} {mg : Str → Option Value} {base : Heap}

theorem rowD_mem {U : List Rw} {j : Nat} (h : j < U.length) : U.getD j [] ∈ U := by
  rw [List.getD_eq_getElem?_getD, List.getElem?_eq_getElem h]; exact List.getElem_mem h
theorem mk_bd (a : Int) {b : Nat} (hb : 0 < b) : (mkRat a b).num.natAbs ≤ a.natAbs ∧ (mkRat a b).den ≤ b := by
  have d := Nat.le_of_dvd hb (mk_den a hb)
  refine ⟨?_, d⟩
  have e2 := (Rat.mkRat_eq_iff (by omega) (Rat.den_nz _)).mp (Rat.mkRat_self (mkRat a b)).symm
  have e3 : a.natAbs * (mkRat a b).den = (mkRat a b).num.natAbs * b := by
    have := congrArg Int.natAbs e2
    rwa [Int.natAbs_mul, Int.natAbs_mul, Int.natAbs_natCast, Int.natAbs_natCast] at this
  refine Nat.le_of_mul_le_mul_right (c := b) ?_ hb
  rw [← e3]
  exact Nat.mul_le_mul_left _ d

/-- _law_letter_right(exponents, result, told, j) -/
def spLr (CH : Addr) : Sp := fun vs H Q _ => ∃ (w r z : Addr) (n b j : Nat) (E : List Rw) (rs : Rw) (S : List Rw), vs = [.ref w, .ref r, .ref z, .int (j : Int)] ∧ RowsW H w E ∧ LI H r rs ∧ HangsAt CH H z S E.length ∧ Stp E rs n S ∧ j < E.length ∧ E.length ≤ 20 ∧ 0 < n ∧ n ≤ 20 ∧ rs.length = n ∧ (∀ e ∈ E, e.length = n) ∧ (∀ e ∈ E, ∀ v ∈ e, v.natAbs < 2 ^ 60) ∧ (∀ v ∈ rs, v.natAbs < 2 ^ 60) ∧ (∀ f ∈ S, f.length = E.length + 1 + n ∧ ∀ v ∈ f, v.natAbs < 2 ^ 1000) ∧ (∀ free, ∀ v ∈ grp S E.length free, v.natAbs < 2 ^ 4100) ∧
  ∀ H', Same H H' → Q (.bl true) H'

abbrev st_law_letter_right : Stmt := top 49
theorem sc_law_letter_right : FnScope ["_law_exponents_here", "_law_result", "_law_told", "_law_j", "_law_kind", "_law_power", "_law_group", "_law_change", "_law_k", "_law_due"] ["_law_exponents_here", "_law_result", "_law_told", "_law_j"] (defScope st_law_letter_right) := ⟨rfl, rfl, rfl, by decide +kernel, rfl, by decide +kernel, by decide +kernel⟩
theorem ok_law_letter_right (B : Blt mg) {CZero CHangs : Addr} (Es : ErH K mg CZero CHangs) {f_law_inner : Addr} {fd_law_inner : FuncData} (D_law_inner : DefAt K mg "_law_inner" st_law_inner ["_law_row", "_law_column"] f_law_inner fd_law_inner) {f_law_is_whole : Addr} {fd_law_is_whole : FuncData} (D_law_is_whole : DefAt K mg "_law_is_whole" st_law_is_whole ["_law_value"] f_law_is_whole fd_law_is_whole) {f_law_is_change : Addr} {fd_law_is_change : FuncData} (D_law_is_change : DefAt K mg "_law_is_change" st_law_is_change ["_law_value", "_law_wide"] f_law_is_change fd_law_is_change) {f_law_turned : Addr} {fd_law_turned : FuncData} (D_law_turned : DefAt K mg "_law_turned" st_law_turned ["_law_rows"] f_law_turned fd_law_turned) {f_law_unit_of : Addr} {fd_law_unit_of : FuncData} (D_law_unit_of : DefAt K mg "_law_unit_of" st_law_unit_of ["_law_exponents_here", "_law_powers"] f_law_unit_of fd_law_unit_of) {f_law_is_group : Addr} {fd_law_is_group : FuncData} (D_law_is_group : DefAt K mg "_law_is_group" st_law_is_group ["_law_value", "_law_exponents_here"] f_law_is_group fd_law_is_group) {f_law_gcd : Addr} {fd_law_gcd : FuncData} (D_law_gcd : DefAt K mg "_law_gcd" st_law_gcd ["_law_one", "_law_two"] f_law_gcd fd_law_gcd) {f_law_is_ratio : Addr} {fd_law_is_ratio : FuncData} (D_law_is_ratio : DefAt K mg "_law_is_ratio" st_law_is_ratio ["_law_value"] f_law_is_ratio fd_law_is_ratio) {f_law_q : Addr} {fd_law_q : FuncData} (D_law_q : DefAt K mg "_law_q" st_law_q ["_law_top", "_law_bottom"] f_law_q fd_law_q) {f_law_letter_right : Addr} {fd_law_letter_right : FuncData} (D_law_letter_right : DefAt K mg "_law_letter_right" st_law_letter_right ["_law_exponents_here", "_law_result", "_law_told", "_law_j"] f_law_letter_right fd_law_letter_right) : FnOk P w K mg base CX0 4 f_law_letter_right fd_law_letter_right ["_law_exponents_here", "_law_result", "_law_told", "_law_j"] (spLr CHangs) := by
  have OK_law_inner : FnOk P w K mg base CX0 1 f_law_inner fd_law_inner ["_law_row", "_law_column"] spInn := ok_law_inner B  D_law_inner
  have OK_law_is_change : FnOk P w K mg base CX0 2 f_law_is_change fd_law_is_change ["_law_value", "_law_wide"] spIc := ok_law_is_change B  D_law_is_whole D_law_is_change
  have OK_law_is_group : FnOk P w K mg base CX0 3 f_law_is_group fd_law_is_group ["_law_value", "_law_exponents_here"] spIg := ok_law_is_group B  D_law_is_whole D_law_inner D_law_turned D_law_unit_of D_law_is_group
  have OK_law_is_ratio : FnOk P w K mg base CX0 2 f_law_is_ratio fd_law_is_ratio ["_law_value"] spIr7 := ok_law_is_ratio B  D_law_gcd D_law_is_whole D_law_is_ratio
  have OK_law_q : FnOk P w K mg base CX0 2 f_law_q fd_law_q ["_law_top", "_law_bottom"] spQG := ok_law_q B  D_law_gcd D_law_q
  refine D_law_letter_right.F.ok sc_law_letter_right (fun vs H Q E h => ?_) (fun cdv A outer s H vs Q E hr h => ?_)
  · obtain ⟨w, r, z, n, b, j, E, rs, S, rfl, _⟩ := h; rfl
  · have hu := hu_of hr
    refine ⟨_, (pss_cons (ps_asg (pe_tup (pa_cons (pe_ix ix_tup (pe_fld (pv 2) rfl) (pv 3) (fun _ _ => rfl)) (pa_cons (pe_ix ix_tup (pe_fld (pv 2) rfl) (pv 3) (fun _ _ => rfl)) (pa_cons (pe_ix ix_tup (pe_fld (pv 2) rfl) (pv 3) (fun _ _ => rfl)) (pa_cons (pe_ix ix_tup (pe_fld (pv 2) rfl) (pv 3) (fun _ _ => rfl)) pa_nil))))) (pg_tup rfl (pgs_cons (pg_name (i := 4) sc_law_letter_right.nd rfl (Or.inl rfl)) (pgs_cons (pg_name (i := 5) sc_law_letter_right.nd rfl (Or.inl rfl)) (pgs_cons (pg_name (i := 6) sc_law_letter_right.nd rfl (Or.inl rfl)) (pgs_cons (pg_name (i := 7) sc_law_letter_right.nd rfl (Or.inl rfl)) pgs_nil))))))
    (pss_cons (ps_if (pt_cmpR op_eq (pv 4) pe_str (nomark _)) (pss_cons (ps_if (PW.pt (pw_or (pt_cmpR op_notN (pv 5) pe_non (nomark _)) (pw_or1 (pt_cmpR op_notN (pv 7) pe_non (nomark _))))) (pss_one (ps_ret pe_bl)) pss_nil)
    (pss_one (ps_ret (pe_and (pe_call OK_law_is_group (hr.mono (by decide)) rfl D_law_is_group.m D_law_is_group.F.kp D_law_is_group.b .nil pass0 (pa_cons (pv 6) (pa_cons (pv 0) pa_nil))) (pe_one (pe_cmpR op_ne (pe_ix ix_tup (pv 6) (pv 3) (fun _ _ => rfl)) pe_int (nomark _))))))) pss_nil)
    (pss_cons (ps_if (PW.pt (pw_or (pt_cmpR op_notN (pv 6) pe_non (nomark _)) (pw_or (pt_not (pt_val (pe_call OK_law_is_change (hr.mono (by decide)) rfl D_law_is_change.m D_law_is_change.F.kp D_law_is_change.b .nil pass0 (pa_cons (pv 7) (pa_cons (pe_callB call_len_seq (by rfl) B.len_ (by decide +kernel) (pa_cons (pv 1) pa_nil)) pa_nil))))) (pw_or1 (pt_not (pt_val (pe_call OK_law_is_ratio (hr.mono (by decide)) rfl D_law_is_ratio.m D_law_is_ratio.F.kp D_law_is_ratio.b .nil pass0 (pa_cons (pv 5) pa_nil)))))))) (pss_one (ps_ret pe_bl)) pss_nil)
    (pss_cons (ps_for PassesOwn.never rfl (pi_range1 rfl B.range_ (pa_cons (pe_callB call_len_seq (by rfl) B.len_ (by decide +kernel) (pa_cons (pv 0) pa_nil)) pa_nil)) (pg_name (i := 8) sc_law_letter_right.nd rfl (Or.inl rfl))
      (pss_one (ps_if (pt_cmpR op_ne (pe_cmpR op_ne (pe_call OK_law_inner (hr.mono (by decide)) rfl D_law_inner.m D_law_inner.F.kp D_law_inner.b .nil pass0 (pa_cons (pv 7) (pa_cons (pe_ix ix_list (pv 0) (pv 8) (fun _ _ => rfl)) pa_nil))) pe_int (nomark _)) (pe_cmpR op_eq (pv 8) (pv 3) (nomark _)) (nomark _)) (pss_one (ps_ret pe_bl)) pss_nil)))
    (pss_cons (ps_set (i := 9) sc_law_letter_right.nd rfl (Or.inl rfl) (pe_call OK_law_q (hr.mono (by decide)) rfl D_law_q.m D_law_q.F.kp D_law_q.b .nil pass0 (pa_cons (pe_call OK_law_inner (hr.mono (by decide)) rfl D_law_inner.m D_law_inner.F.kp D_law_inner.b .nil pass0 (pa_cons (pv 7) (pa_cons (pv 1) pa_nil))) (pa_cons (pe_call OK_law_inner (hr.mono (by decide)) rfl D_law_inner.m D_law_inner.F.kp D_law_inner.b .nil pass0 (pa_cons (pv 7) (pa_cons (pe_ix ix_list (pv 0) (pv 3) (fun _ _ => rfl)) pa_nil))) pa_nil))))
    (pss_one (ps_ret (pe_and (pe_cmpR (op_eqD hr.units) (pv 5) (pv 9) (nomark _)) (pe_one (pe_cmpR op_eq (pv 4) (pe_ifExp (pt_cmpR op_eq (pe_ix ix_tup (pv 9) pe_int (fun _ _ => rfl)) pe_int (nomark _)) pe_str pe_str) (nomark _))))))))))), ?_⟩
    obtain ⟨w, r, z, n, b, j, E, rs, S, rfl, hw, hr, ⟨dz, t1, t2, t3, t4, y2, y3, y4, hz, h1, h2, h3, h4, p2, p3, p4⟩, st, jl, lE, n0, n20, lr, hl, hB, hBr, Sb, Gb, q⟩ := h
    obtain ⟨es, W1, W2⟩ := id hw
    have les := prd_len W2
    have ly2 := prd_len p2
    have ly3 := prd_len p3
    have ly4 := prd_len p4
    rw [List.length_map, List.length_range] at ly2 ly4
    rw [grsS_len] at ly3
    have gk : atI ((List.range E.length).map fun j => V.str (kindS E.length (fixA S E.length j))) ((j : Nat) : Int) = some (.str (kindS E.length (fixA S E.length j))) := by
      rw [atI_of (by rw [List.length_map, List.length_range]; exact jl), List.getElem?_map, List.getElem?_range jl]; rfl
    obtain ⟨v2, e2⟩ : ∃ v, y2[j]? = some v := ⟨_, List.getElem?_eq_getElem (by omega)⟩
    obtain ⟨v3, e3⟩ : ∃ v, y3[j]? = some v := ⟨_, List.getElem?_eq_getElem (by omega)⟩
    obtain ⟨v4, e4⟩ : ∃ v, y4[j]? = some v := ⟨_, List.getElem?_eq_getElem (by omega)⟩
    have g2 : atI y2 ((j : Nat) : Int) = some v2 := by rw [atI_of (by omega)]; exact e2
    have g3 : atI y3 ((j : Nat) : Int) = some v3 := by rw [atI_of (by omega)]; exact e3
    have g4 : atI y4 ((j : Nat) : Int) = some v4 := by rw [atI_of (by omega)]; exact e4
    obtain ⟨o2, f2, w2⟩ := prd_get p2 e2
    obtain ⟨o3, f3, w3⟩ := prd_get p3 e3
    obtain ⟨o4, f4, w4⟩ := prd_get p4 e4
    rw [List.getElem?_map, List.getElem?_range jl] at f2 f4
    obtain rfl := (Option.some.inj f2).symm
    obtain rfl := (Option.some.inj f4).symm
    replace w2 : PwV H v2 (powO E.length (fixA S E.length j)) := w2
    replace w4 : RwV H v4 (chR E.length (fixA S E.length j)) := w4
    refine ⟨_, rfl, z, _, dz, _, _, rfl, hz, Es.clH, Es.hK, rfl, _, rfl, t1, _, _, _, rfl, rfl, SqT.of h1, gk, ?_⟩
    refine ⟨_, rfl, z, _, dz, _, _, rfl, hz, Es.clH, Es.hP, rfl, _, rfl, t2, _, _, _, rfl, rfl, SqT.of h2, g2, ?_⟩
    refine ⟨_, rfl, z, _, dz, _, _, rfl, hz, Es.clH, Es.hG, rfl, _, rfl, t3, _, _, _, rfl, rfl, SqT.of h3, g3, ?_⟩
    refine ⟨_, rfl, z, _, dz, _, _, rfl, hz, Es.clH, Es.hC, rfl, _, rfl, t4, _, _, _, rfl, rfl, SqT.of h4, g4, (by show 4 ≤ sizeLine; decide), fun T hT => ?_⟩
    have nT := AL.Same.new (o := .tup [.str (kindS E.length (fixA S E.length j)), v2, v3, v4]) hT
    refine ⟨T, _, rfl, SqT.of upd_same, rfl, _, _, rfl, _, _, rfl, _, _, rfl, _, _, rfl, rfl, ?_⟩
    have hw1 := hw.same nT
    have hr1 := hr.same nT
    have w21 : PwV (upd H T (.tup [.str (kindS E.length (fixA S E.length j)), v2, v3, v4])) v2 (powO E.length (fixA S E.length j)) := by
      cases e : powO E.length (fixA S E.length j) with
      | none => rw [e] at w2; exact w2
      | some x => rw [e] at w2; obtain ⟨t, a, b⟩ := w2; exact ⟨t, a, nT _ _ b⟩
    have w3s : ∀ {v : V} {o : Option Rw}, RwV H v o → RwV (upd H T (.tup [.str (kindS E.length (fixA S E.length j)), v2, v3, v4])) v o := fun {v o} h => by
      cases o with
      | none => exact h
      | some x => obtain ⟨t, a, b⟩ := h; exact ⟨t, a, nT _ _ b⟩
    have w31 := w3s w3
    have w41 := w3s w4
    generalize upd H T (.tup [.str (kindS E.length (fixA S E.length j)), v2, v3, v4]) = H1 at nT hw1 hr1 w21 w31 w41 ⊢
    clear w2 w3 w4 w3s hT g2 g3 g4 gk
    refine ⟨_, rfl, rfl, _, rfl, ?_⟩
    cases hfx : fixA S E.length j with
    | none =>
      rw [hfx] at w21 w41
      obtain rfl : v2 = .non := w21
      obtain rfl : v4 = .non := w41
      rw [show decide (V.str (kindS E.length none) = V.str "free") = true from rfl]
      refine iteT ?_
      obtain ⟨free, lt, np, gj, nz⟩ := let_free st jl hfx
      rw [f3] at gj
      obtain rfl := Option.some.inj gj
      obtain ⟨tg, rfl, htg⟩ := w31
      refine ⟨_, rfl, rfl, _, rfl, ?_⟩
      rw [decide_eq_true rfl]
      refine iteF ?_
      refine ⟨_, rfl, rfl, _, rfl, ?_⟩
      rw [decide_eq_true rfl]
      refine iteF ?_
      have lg : (grp S E.length free).length = E.length := by unfold grp wholeR grX; rw [List.length_map, List.length_map, List.length_range]
      have Ene : E ≠ [] := fun e => by rw [e] at jl; simp at jl
      have gok := grp_ok st lt np
      have gj : atI ((grp S E.length free).map V.int) ((j : Nat) : Int) = some (.int (vl (grp S E.length free) j)) := by rw [atI_of (by rw [List.length_map]; omega), List.getElem?_map, vl_at (by omega)]; rfl
      refine ⟨_, rfl, _, rfl, tg, w, n, E, grp S E.length free, rfl, hw1.toT, Ene, hl, n20, lE, hB, htg, lg, Gb free, fun H2 s2 => ⟨true, congrArg V.bl (decide_eq_true (filt_nil.mpr fun i => ?_)), ?_⟩⟩
      · by_cases hi : i < n
        · rw [resR_vl hi]; exact gok i hi
        · exact vl_out (by unfold resR; rw [List.length_map, List.length_range]; omega)
      refine iteT ?_
      refine ⟨_, rfl, _, rfl, tg, _, _, _, rfl, rfl, SqT.of (s2 _ _ htg), gj, rfl, ?_⟩
      rw [show (!decide (V.int (vl (grp S E.length free) j) = V.int 0)) = true by rw [decide_eq_false (fun w => nz (by injection w))]; rfl]
      exact q H2 (nT.trans s2)
    | some f =>
      rw [hfx] at w21 w41
      obtain ⟨fS, pf, pos, zer, gn, Lk, Lr⟩ := let_fixed st jl hfx
      have fk : kindS E.length (some f) = if vl f E.length = 0 then ("none" : Str) else ("fixed" : Str) := rfl
      rw [show decide (V.str (kindS E.length (some f)) = V.str "free") = false by rw [fk]; split <;> rfl]
      refine iteF ?_
      have o3n : o3 = none := by rw [List.getD_eq_getElem?_getD, f3] at gn; exact gn
      subst o3n
      obtain rfl : v3 = .non := w31
      obtain ⟨tp, rfl, htp⟩ := w21
      obtain ⟨tc, rfl, htc⟩ := w41
      obtain ⟨lf, bf⟩ := Sb f fS
      have lc : (f.drop (E.length + 1)).length = n := by rw [List.length_drop, lf]; omega
      have cb : ∀ v ∈ f.drop (E.length + 1), v.natAbs < 2 ^ 4100 := fun v hv => Nat.lt_of_lt_of_le (bf v (List.mem_of_mem_drop hv)) (Nat.pow_le_pow_right (by decide) (by decide))
      have bz : ∀ k, (vl f k).natAbs < 2 ^ 1000 := fun k => by
        by_cases c : k < f.length
        · exact bf _ (vl_mem c)
        · rw [vl_out (by omega)]; exact Nat.two_pow_pos _
      have cE : ∀ k, k < E.length → dotI (f.drop (E.length + 1)) (E.getD k []) = vl f k := fun k hk => by
        have le' := hl _ (rowD_mem hk)
        rw [dotI_sm _ _ (by rw [lc, le']), le', ← Lk k hk]
        refine sm_congr fun i _ => ?_
        show vl (f.drop (E.length + 1)) i * _ = _
        unfold vl
        rw [List.getD_eq_getElem?_getD, List.getElem?_drop, ← List.getD_eq_getElem?_getD]
      have cR : dotI (f.drop (E.length + 1)) rs = vl f E.length := by
        rw [dotI_sm _ _ (by rw [lc, lr]), lr, ← Lr]
        refine sm_congr fun i _ => ?_
        show vl (f.drop (E.length + 1)) i * _ = _
        unfold vl
        rw [List.getD_eq_getElem?_getD, List.getElem?_drop, ← List.getD_eq_getElem?_getD]
      refine ⟨_, rfl, rfl, _, rfl, ?_⟩
      rw [decide_eq_true rfl]
      refine iteF ?_
      have hic : (n : Int) = ((f.drop (E.length + 1)).length : Int) := by rw [lc]
      refine ⟨_, rfl, _, rfl, r, _, rfl, .inl (SqL.of hr1), tc, f.drop (E.length + 1), ?_, htc, fun H2 s2 => ⟨true, rfl, ?_⟩⟩
      · rw [List.length_map, lr, hic]; rfl
      refine iteF ?_
      have bpos : 0 < (vl f j).toNat := by omega
      have ejn : ((vl f j).toNat : Int) = vl f j := Int.toNat_of_nonneg (by omega)
      obtain ⟨bn, bd⟩ := mk_bd (vl f E.length) bpos
      have b1 := bz E.length
      have b2 := bz j
      have p12 : 2 ^ 1000 ≤ 2 ^ 12001 := Nat.pow_le_pow_right (by decide) (by decide)
      have N12 : 2 ^ 12001 ≤ N6 := by unfold N6; decide +kernel
      have htp' : RQ H1 tp (mkRat (vl f E.length) (vl f (piv f)).toNat) := htp
      rw [pf] at htp'
      refine ⟨_, rfl, tp, _, rfl, s2 _ _ htp', by omega, by omega, true, rfl, ?_⟩
      refine iteF ?_
      have hw2 := hw1.same s2
      obtain ⟨es2, W12, W22⟩ := hw2
      have les2 := prd_len W22
      have htc2 := s2 _ _ htc
      have hr2 := hr1.same s2
      have getE : ∀ k, k < E.length → ∃ a, atI (es2.map V.ref) ((k : Nat) : Int) = some (.ref a) ∧ H2 a = some (.tup ((E.getD k []).map V.int)) := fun k hk => by
        obtain ⟨a, ha⟩ : ∃ a, es2[k]? = some a := ⟨_, List.getElem?_eq_getElem (by omega)⟩
        obtain ⟨x, hx, hxa⟩ := prd_get W22 ha
        refine ⟨a, by rw [atI_of (by rw [List.length_map]; omega), List.getElem?_map, ha]; rfl, ?_⟩
        rw [List.getD_eq_getElem?_getD, hx]; exact hxa
      have eb : ∀ k, k < E.length → ∀ v ∈ E.getD k [], v.natAbs < 2 ^ 4100 := fun k hk v hv => Nat.lt_of_lt_of_le (hB _ (rowD_mem hk) v hv) (Nat.pow_le_pow_right (by decide) (by decide))
      refine ⟨_, rfl, w, _, rfl, .inl (SqL.of W12), _, rfl, by omega, by rw [List.length_map]; omega, for_range (lo := 0) (n := (((es2.map V.ref).length : Nat) : Int).toNat) (fun i σ H' => ∃ v8 : Option V, σ = [some (.ref w), some (.ref r), some (.ref z), some (.int (j : Int)), some (.str (kindS E.length (some f))), some (.ref tp), some .non, some (.ref tc), v8, none] ∧ Same H2 H') ⟨_, rfl, fun _ _ h => h⟩ ?_ ?_⟩
      · rintro i σ H3 hi ⟨v8, rfl, s3⟩
        rw [Int.toNat_natCast, List.length_map, les2] at hi
        have zi : (0 : Int) + (i : Int) = ((i : Nat) : Int) := Int.zero_add _
        obtain ⟨a, ga, ha⟩ := getE i hi
        rw [zi]
        have le' := hl _ (rowD_mem hi)
        refine ⟨_, rfl, _, rfl, _, rfl, w, _, _, _, rfl, rfl, SqL.of (s3 _ _ W12), ga, tc, a, _, _, rfl, .inr (s3 _ _ htc2), .inr (s3 _ _ ha), by rw [lc, le'], by rw [le']; omega, cb, eb i hi, fun H4 s4 => ?_⟩
        refine ⟨rfl, _, rfl, _, rfl, rfl, rfl, _, rfl, ?_⟩
        rw [cE i hi]
        have ee : (!decide (V.bl (!decide (V.int (vl f i) = V.int 0)) = V.bl (decide (V.int (i : Int) = V.int (j : Int))))) = false := by
          by_cases c : i = j
          · have d1 : decide (V.int (vl f i) = V.int 0) = false := decide_eq_false (fun e => by injection e with e; rw [c] at e; exact absurd e (Int.ne_of_gt pos))
            have d2 : decide (V.int (i : Int) = V.int (j : Int)) = true := decide_eq_true (by rw [c])
            rw [d1, d2]; rfl
          · have d1 : decide (V.int (vl f i) = V.int 0) = true := decide_eq_true (by rw [zer i hi c])
            have d2 : decide (V.int (i : Int) = V.int (j : Int)) = false := decide_eq_false (fun e => c (by injection e with e; exact Int.ofNat.inj e))
            rw [d1, d2]; rfl
        rw [ee]
        refine iteF ?_
        exact ⟨_, rfl, s3.trans s4⟩
      · rintro σ H3 ⟨v8, rfl, s3⟩
        obtain ⟨a, ga, ha⟩ := getE j jl
        have le' := hl _ (rowD_mem jl)
        refine ⟨_, rfl, _, rfl, tc, r, _, _, rfl, .inr (s3 _ _ htc2), .inl (hr2.same s3), by rw [lc, lr], by rw [lr]; omega, cb, fun v hv => Nat.lt_of_lt_of_le (hBr v hv) (Nat.pow_le_pow_right (by decide) (by decide)), fun H4 s4 => ?_⟩
        refine ⟨_, rfl, _, rfl, _, rfl, w, _, _, _, rfl, rfl, SqL.of ((s3.trans s4) _ _ W12), ga, tc, a, _, _, rfl, .inr ((s3.trans s4) _ _ htc2), .inr ((s3.trans s4) _ _ ha), by rw [lc, le'], by rw [le']; omega, cb, eb j jl, fun H5 s5 => ?_⟩
        rw [cR, cE j jl, ← ejn]
        have up : ∀ {x : Int}, x.natAbs < 2 ^ 1000 → x.natAbs < 2 ^ 12001 := fun h => Nat.lt_of_lt_of_le h p12
        obtain ⟨dok, na, nb⟩ := mid_div (x := vl f E.length) (y := ((vl f j).toNat : Int)) (up b1) (by rw [ejn]; exact up b2)
        refine ⟨_, _, rfl, na, nb, dok, (by rw [ejn]; exact Int.ne_of_gt pos), fun tq htq => ?_⟩
        have lq := low_rq (vl f E.length) bpos
        rw [lq]
        have nq := AL.Same.new (o := .tup [.int (mkRat (vl f E.length) (vl f j).toNat).num, .int ((mkRat (vl f E.length) (vl f j).toNat).den : Int)]) htq
        have s35 := (s2.trans s3).trans ((s4.trans s5).trans nq)
        have htp5 : upd H5 tq (.tup [.int (mkRat (vl f E.length) (vl f j).toNat).num, .int ((mkRat (vl f E.length) (vl f j).toNat).den : Int)]) tp = some (.tup [.int (mkRat (vl f E.length) (vl f j).toNat).num, .int ((mkRat (vl f E.length) (vl f j).toNat).den : Int)]) := s35 _ _ htp'
        have htq5 : upd H5 tq (.tup [.int (mkRat (vl f E.length) (vl f j).toNat).num, .int ((mkRat (vl f E.length) (vl f j).toNat).den : Int)]) tq = some (.tup [.int (mkRat (vl f E.length) (vl f j).toNat).num, .int ((mkRat (vl f E.length) (vl f j).toNat).den : Int)]) := upd_same
        generalize upd H5 tq (.tup [.int (mkRat (vl f E.length) (vl f j).toNat).num, .int ((mkRat (vl f E.length) (vl f j).toNat).den : Int)]) = H6 at s35 htp5 htq5 ⊢
        have a1 : H6 tp = some (.tup ([(mkRat (vl f E.length) (vl f j).toNat).num, ((mkRat (vl f E.length) (vl f j).toNat).den : Int)].map V.int)) := htp5
        have a2 : H6 tq = some (.tup ([(mkRat (vl f E.length) (vl f j).toNat).num, ((mkRat (vl f E.length) (vl f j).toNat).den : Int)].map V.int)) := htq5
        refine ⟨_, rfl, _, rfl, _, _, dp_ints a1, dp_ints a2, shaped_ints _, shaped_ints _, true, ?_, ?_⟩
        · rw [eqv_ints, decide_eq_true rfl]
        refine iteT ?_
        refine ⟨_, rfl, ?_⟩
        have nz0 : (mkRat (vl f E.length) (vl f j).toNat).num = 0 ↔ vl f E.length = 0 := by
          rw [Rat.num_eq_zero, Rat.mkRat_eq_zero (by omega)]
        have fin : ∀ s : Str, s = kindS E.length (some f) → Q (.bl (decide (V.str (kindS E.length (some f)) = V.str s))) H6 := fun s e => by
          rw [e, decide_eq_true rfl]
          exact q H6 (nT.trans s35)
        refine ⟨_, rfl, tq, _, _, _, rfl, rfl, SqT.of a2, rfl, rfl, _, rfl, ?_⟩
        by_cases z0 : vl f E.length = 0
        · rw [show decide (V.int (mkRat (vl f E.length) (vl f j).toNat).num = V.int 0) = true from decide_eq_true (by rw [nz0.mpr z0])]
          refine iteT ?_
          exact ⟨rfl, fin _ (by rw [fk, if_pos z0])⟩
        · rw [show decide (V.int (mkRat (vl f E.length) (vl f j).toNat).num = V.int 0) = false from decide_eq_false (fun e => z0 (nz0.mp (by injection e)))]
          refine iteF ?_
          exact ⟨rfl, fin _ (by rw [fk, if_neg z0])⟩
end
end AL
set_option Elab.async false
set_option maxRecDepth 100000
set_option exponentiation.threshold 70000
set_option maxHeartbeats 1000000
namespace AL
open PySem PySem.Spec PyProof.Rows L2 RZ
section
variable {P : Program} {w : World} {K : PySem.W.Frag} {mg : Str → Option Value} {base : Heap}

theorem hang_same {CH : Addr} {H H' : Hp} {z : Addr} {S : List Rw} {m : Nat} (h : HangsAt CH H z S m) (s : Same H H') : HangsAt CH H' z S m := by
  obtain ⟨dz, t1, t2, t3, t4, y2, y3, y4, hz, h1, h2, h3, h4, p2, p3, p4⟩ := h
  refine ⟨dz, t1, t2, t3, t4, y2, y3, y4, s _ _ hz, s _ _ h1, s _ _ h2, s _ _ h3, s _ _ h4, paired_mono p2 fun v o h => ?_, paired_mono p3 fun v o h => ?_, paired_mono p4 fun v o h => ?_⟩
  · cases o with
    | none => exact h
    | some x => obtain ⟨t, a, b⟩ := h; exact ⟨t, a, s _ _ b⟩
  · cases o with
    | none => exact h
    | some x => obtain ⟨t, a, b⟩ := h; exact ⟨t, a, s _ _ b⟩
  · cases o with
    | none => exact h
    | some x => obtain ⟨t, a, b⟩ := h; exact ⟨t, a, s _ _ b⟩
/-- _law_right(exponents, result, told) -/
def spRt (CZ CH : Addr) : Sp := fun vs H Q _ => ∃ (w r z : Addr) (n B : Nat) (E : List Rw) (rs : Rw), vs = [.ref w, .ref r, .ref z] ∧ RowsW H w E ∧ LI H r rs ∧ 0 < E.length ∧ E.length ≤ 20 ∧ 0 < n ∧ n ≤ 20 ∧ rs.length = n ∧ (∀ e ∈ E, e.length = n) ∧ 1 ≤ B ∧ B < 2 ^ 60 ∧ (∀ e ∈ E, ∀ v ∈ e, v.natAbs ≤ B) ∧ (∀ v ∈ rs, v.natAbs ≤ B) ∧ facB B (E.length + 2) < 2 ^ 6000 ∧
  ((∃ g ∈ spn (rowsH E rs n), piv g = E.length ∧ g.length = E.length + 1 + n ∧ (∀ v ∈ g, v.natAbs < 2 ^ 1000) ∧ ZeroAt CZ H z (g.drop (E.length + 1))) ∨
   ∃ S, Stp E rs n S ∧ HangsAt CH H z S E.length ∧ (∀ f ∈ S, f.length = E.length + 1 + n ∧ ∀ v ∈ f, v.natAbs < 2 ^ 1000) ∧ (∀ free, ∀ v ∈ grp S E.length free, v.natAbs < 2 ^ 4100)) ∧
  ∀ H', Same H H' → Q (.bl true) H'

abbrev st_law_right : Stmt := top 50
theorem sc_law_right : FnScope ["_law_exponents_here", "_law_result", "_law_told", "_law_row", "_law_j"] ["_law_exponents_here", "_law_result", "_law_told"] (defScope st_law_right) := ⟨rfl, rfl, rfl, by decide +kernel, rfl, by decide +kernel, by decide +kernel⟩
theorem ok_law_right (B : Blt mg) {CZero CHangs : Addr} (Es : ErH K mg CZero CHangs) {f_law_rank : Addr} {fd_law_rank : FuncData} (D_law_rank : DefAt K mg "_law_rank" st_law_rank ["_law_rows"] f_law_rank fd_law_rank) {f_law_in_span : Addr} {fd_law_in_span : FuncData} (D_law_in_span : DefAt K mg "_law_in_span" st_law_in_span ["_law_exponents_here", "_law_row"] f_law_in_span fd_law_in_span) {f_law_inner : Addr} {fd_law_inner : FuncData} (D_law_inner : DefAt K mg "_law_inner" st_law_inner ["_law_row", "_law_column"] f_law_inner fd_law_inner) {f_law_is_whole : Addr} {fd_law_is_whole : FuncData} (D_law_is_whole : DefAt K mg "_law_is_whole" st_law_is_whole ["_law_value"] f_law_is_whole fd_law_is_whole) {f_law_is_change : Addr} {fd_law_is_change : FuncData} (D_law_is_change : DefAt K mg "_law_is_change" st_law_is_change ["_law_value", "_law_wide"] f_law_is_change fd_law_is_change) {f_law_turned : Addr} {fd_law_turned : FuncData} (D_law_turned : DefAt K mg "_law_turned" st_law_turned ["_law_rows"] f_law_turned fd_law_turned) {f_law_unit_of : Addr} {fd_law_unit_of : FuncData} (D_law_unit_of : DefAt K mg "_law_unit_of" st_law_unit_of ["_law_exponents_here", "_law_powers"] f_law_unit_of fd_law_unit_of) {f_law_is_group : Addr} {fd_law_is_group : FuncData} (D_law_is_group : DefAt K mg "_law_is_group" st_law_is_group ["_law_value", "_law_exponents_here"] f_law_is_group fd_law_is_group) {f_law_gcd : Addr} {fd_law_gcd : FuncData} (D_law_gcd : DefAt K mg "_law_gcd" st_law_gcd ["_law_one", "_law_two"] f_law_gcd fd_law_gcd) {f_law_is_ratio : Addr} {fd_law_is_ratio : FuncData} (D_law_is_ratio : DefAt K mg "_law_is_ratio" st_law_is_ratio ["_law_value"] f_law_is_ratio fd_law_is_ratio) {f_law_q : Addr} {fd_law_q : FuncData} (D_law_q : DefAt K mg "_law_q" st_law_q ["_law_top", "_law_bottom"] f_law_q fd_law_q) {f_law_letter_right : Addr} {fd_law_letter_right : FuncData} (D_law_letter_right : DefAt K mg "_law_letter_right" st_law_letter_right ["_law_exponents_here", "_law_result", "_law_told", "_law_j"] f_law_letter_right fd_law_letter_right) {f_law_right : Addr} {fd_law_right : FuncData} (D_law_right : DefAt K mg "_law_right" st_law_right ["_law_exponents_here", "_law_result", "_law_told"] f_law_right fd_law_right) : FnOk P w K mg base CX0 5 f_law_right fd_law_right ["_law_exponents_here", "_law_result", "_law_told"] (spRt CZero CHangs) := by
  have OK_law_in_span : FnOk P w K mg base CX0 2 f_law_in_span fd_law_in_span ["_law_exponents_here", "_law_row"] spIs := ok_law_in_span B  D_law_rank D_law_in_span
  have OK_law_inner : FnOk P w K mg base CX0 1 f_law_inner fd_law_inner ["_law_row", "_law_column"] spInn := ok_law_inner B  D_law_inner
  have OK_law_is_change : FnOk P w K mg base CX0 2 f_law_is_change fd_law_is_change ["_law_value", "_law_wide"] spIc := ok_law_is_change B  D_law_is_whole D_law_is_change
  have OK_law_letter_right : FnOk P w K mg base CX0 4 f_law_letter_right fd_law_letter_right ["_law_exponents_here", "_law_result", "_law_told", "_law_j"] (spLr CHangs) := ok_law_letter_right B Es D_law_inner D_law_is_whole D_law_is_change D_law_turned D_law_unit_of D_law_is_group D_law_gcd D_law_is_ratio D_law_q D_law_letter_right
  refine D_law_right.F.ok sc_law_right (fun vs H Q E h => ?_) (fun cdv A outer s H vs Q E hr h => ?_)
  · obtain ⟨w, r, z, n, B0, E, rs, rfl, _⟩ := h; rfl
  · have hu := hu_of hr
    refine ⟨_, (pss_cons (ps_if (pt_not (pt_val (pe_call OK_law_in_span (hr.mono (by decide)) rfl D_law_in_span.m D_law_in_span.F.kp D_law_in_span.b .nil pass0 (pa_cons (pv 0) (pa_cons (pv 1) pa_nil))))) (pss_cons (ps_if (PW.pt (pw_or (pt_not (pt_val (pe_callB call_isi (by rfl) B.isinstance_ (by decide +kernel) (pa_cons (pv 2) (pa_cons (pe_glob (v := .ref CZero) rfl Es.mZ rfl) pa_nil))))) (pw_or1 (pt_not (pt_val (pe_call OK_law_is_change (hr.mono (by decide)) rfl D_law_is_change.m D_law_is_change.F.kp D_law_is_change.b .nil pass0 (pa_cons (pe_fld (pv 2) rfl : PE _ _ (tFld K (tVar 2) "change")) (pa_cons (pe_callB call_len_seq (by rfl) B.len_ (by decide +kernel) (pa_cons (pv 1) pa_nil)) pa_nil)))))))) (pss_one (ps_ret pe_bl)) pss_nil)
    (pss_cons (ps_if (pt_cmpR (op_neD hr.units) (pe_lc (own := [("_law_row", 3)]) (g := gName 3) rfl sc_law_right.nd (pi_list (pv 0)) (blkOk_by (own := [("_law_row", 3)]) (N := ["_law_exponents_here", "_law_result", "_law_told", "_law_row", "_law_j"]) (sc := defScope st_law_right) (by decide +kernel)) (fun _ _ _ _ _ => (pg_name (i := 3) sc_law_right.nd rfl (Or.inl rfl))) (fun _ _ _ _ _ => (pts_one (pt_cmpR op_ne (pe_call OK_law_inner (hr.mono (by decide)) rfl D_law_inner.m D_law_inner.F.kp D_law_inner.b .nil pass0 (pa_cons (pe_fld (pv 2) rfl : PE _ _ (tFld K (tVar 2) "change")) (pa_cons (pv 3) pa_nil))) pe_int (nomark _)))) (fun _ _ _ _ _ => (pv 3))) (pe_lst pa_nil) (nomark _)) (pss_one (ps_ret pe_bl)) pss_nil)
    (pss_one (ps_ret (pe_cmpR op_ne (pe_call OK_law_inner (hr.mono (by decide)) rfl D_law_inner.m D_law_inner.F.kp D_law_inner.b .nil pass0 (pa_cons (pe_fld (pv 2) rfl : PE _ _ (tFld K (tVar 2) "change")) (pa_cons (pv 1) pa_nil))) pe_int (nomark _)))))) pss_nil)
    (pss_cons (ps_if (pt_not (pt_val (pe_callB call_isi (by rfl) B.isinstance_ (by decide +kernel) (pa_cons (pv 2) (pa_cons (pe_glob (v := .ref CHangs) rfl Es.mH rfl) pa_nil))))) (pss_one (ps_ret pe_bl)) pss_nil)
    (pss_cons (ps_for PassesOwn.never rfl (pi_list (pe_lst (pa_cons (pe_fld (pv 2) rfl) (pa_cons (pe_fld (pv 2) rfl) (pa_cons (pe_fld (pv 2) rfl) (pa_cons (pe_fld (pv 2) rfl) pa_nil)))))) (pg_name (i := 3) sc_law_right.nd rfl (Or.inl rfl))
      (pss_one (ps_if (PW.pt (pw_or (pt_not (pt_val (pe_callB call_isi (by rfl) B.isinstance_ (by decide +kernel) (pa_cons (pv 3) (pa_cons (pe_bltn (v := .ty "tuple") (by rfl) B.tuple_ PyProof.Rows.Boot.«tuple» rfl) pa_nil))))) (pw_or1 (pt_cmpR op_ne (pe_callB call_len_seq (by rfl) B.len_ (by decide +kernel) (pa_cons (pv 3) pa_nil)) (pe_callB call_len_seq (by rfl) B.len_ (by decide +kernel) (pa_cons (pv 0) pa_nil)) (nomark _))))) (pss_one (ps_ret pe_bl)) pss_nil)))
    (pss_cons (ps_for PassesOwn.never rfl (pi_range1 rfl B.range_ (pa_cons (pe_callB call_len_seq (by rfl) B.len_ (by decide +kernel) (pa_cons (pv 0) pa_nil)) pa_nil)) (pg_name (i := 4) sc_law_right.nd rfl (Or.inl rfl))
      (pss_one (ps_if (pt_not (pt_val (pe_call OK_law_letter_right (hr.mono (by decide)) rfl D_law_letter_right.m D_law_letter_right.F.kp D_law_letter_right.b .nil pass0 (pa_cons (pv 0) (pa_cons (pv 1) (pa_cons (pv 2) (pa_cons (pv 4) pa_nil))))))) (pss_one (ps_ret pe_bl)) pss_nil)))
    (pss_one (ps_ret pe_bl)))))), ?_⟩
    obtain ⟨w, r, z, n, B0, E, rs, rfl, hw, hr, E0, lE, n0, n20, lr, hl, B1, Bs, hB, hBr, fb, res, q⟩ := h
    refine ⟨_, rfl, _, rfl, w, r, n, B0, E, rs, rfl, hw, .inl hr, lr, hl, n20, lE, B1, hB, hBr, fb, fun H1 b s1 hb => ⟨b, rfl, ?_⟩⟩
    have hw1 := hw.same s1
    have hr1 := hr.same s1
    obtain ⟨es, W1, W2⟩ := id hw1
    have les := prd_len W2
    have hB6 : ∀ e ∈ E, ∀ v ∈ e, v.natAbs < 2 ^ 60 := fun e he v hv => Nat.lt_of_le_of_lt (hB e he v hv) Bs
    have hBr6 : ∀ v ∈ rs, v.natAbs < 2 ^ 60 := fun v hv => Nat.lt_of_le_of_lt (hBr v hv) Bs
    rcases res with ⟨g, mg, pg, lg, bg, dz, t, hz, ht⟩ | ⟨S, st, hng, Sb, Gb⟩
    · obtain ⟨oz, onz, nsp⟩ := out_span mg pg
      have eb : b = false := by cases e : b with | false => rfl | true => exact absurd (hb.mp e) nsp
      subst eb
      refine iteT ?_
      have hz1 := s1 _ _ hz
      have ht1 := s1 _ _ ht
      have lc : (g.drop (E.length + 1)).length = n := by rw [List.length_drop, lg]; omega
      have cb : ∀ v ∈ g.drop (E.length + 1), v.natAbs < 2 ^ 4100 := fun v hv => Nat.lt_of_lt_of_le (bg v (List.mem_of_mem_drop hv)) (Nat.pow_le_pow_right (by decide) (by decide))
      have dr : ∀ i, vl (g.drop (E.length + 1)) i = vl g (E.length + 1 + i) := fun i => by
        unfold vl
        rw [List.getD_eq_getElem?_getD, List.getElem?_drop, ← List.getD_eq_getElem?_getD]
      have cE : ∀ k, k < E.length → dotI (g.drop (E.length + 1)) (E.getD k []) = 0 := fun k hk => by
        have le' := hl _ (rowD_mem hk)
        rw [dotI_sm _ _ (by rw [lc, le']), le']
        refine Eq.trans ?_ (oz k hk)
        exact sm_congr fun i _ => by rw [← dr]; rfl
      have cR : dotI (g.drop (E.length + 1)) rs ≠ 0 := by
        rw [dotI_sm _ _ (by rw [lc, lr]), lr]
        intro e
        refine onz (Eq.trans ?_ e)
        exact sm_congr fun i _ => by rw [← dr]; rfl
      refine ⟨_, rfl, _, _, _, _, _, rfl, ClsV.own _, TyX.base (.ins hz1 Es.clZ Es.c1 Es.c2 Es.c3 Es.c4), Es.z1, true, rfl, ?_⟩
      refine iteF ?_
      refine ⟨_, rfl, z, _, dz, _, _, rfl, hz1, Es.clZ, Es.zC, rfl, _, rfl, r, _, rfl, .inl (SqL.of hr1), t, g.drop (E.length + 1), by rw [lc, List.length_map, lr]; rfl, ht1, fun H2 s2 => ⟨true, rfl, ?_⟩⟩
      refine iteF ?_
      have W12 := s2 _ _ W1
      refine ⟨_, rfl, w, rfl, ⟨_, SqL.of W12⟩, fun D hD => ?_⟩
      refine lc_list (K := K) (a := w) (xs := es.map V.ref) (fun i H' => Same H2 H' ∧ H' D = some (.lst [])) ⟨AL.Same.new hD, upd_same⟩ (fun i H' _ hh => SqL.of (hh.1 _ _ W12)) ?_ ?_
      · rintro i x H3 hx ⟨s3, hd⟩
        obtain ⟨a, ha, rfl⟩ := map_ref hx
        obtain ⟨e, he, hea⟩ := prd_get W2 ha
        have il := (List.getElem?_eq_some_iff.mp he).1
        have s23 := s2.trans s3
        have ge : E.getD i [] = e := by rw [List.getD_eq_getElem?_getD, he]; rfl
        have me := List.mem_of_getElem? he
        have ce := cE i il
        rw [ge] at ce
        refine ⟨rfl, ?_⟩
        refine ⟨_, rfl, z, _, dz, _, _, rfl, s23 _ _ hz1, Es.clZ, Es.zC, rfl, _, rfl, t, a, _, _, rfl, .inr (s23 _ _ ht1), .inr (s23 _ _ hea), by rw [lc, hl e me], by rw [hl e me]; omega, cb, fun v hv => Nat.lt_of_lt_of_le (hB6 e me v hv) (Nat.pow_le_pow_right (by decide) (by decide)), fun H4 s4 => ⟨rfl, _, rfl, ?_⟩⟩
        rw [ce, show (!decide (V.int 0 = V.int 0)) = false from rfl]
        refine iteF ?_
        exact ⟨s3.trans s4, s4 _ _ hd⟩
      rintro H3 ⟨s3, hd⟩
      refine ⟨(by show 0 ≤ sizeLine; decide), fun l hl => ?_⟩
      have n1 := AL.Same.new (o := .lst []) hl
      refine ⟨_, _, .lst (SqL.of (n1 _ _ hd)) .nil, .lst (SqL.of upd_same) .nil, rfl, rfl, _, rfl, ?_⟩
      rw [SeqAt.eqv_refl _ (SeqAt.canLay_of_shaped (by rfl))]
      refine iteF ?_
      have s4 := s2.trans (s3.trans n1)
      refine ⟨_, rfl, z, _, dz, _, _, rfl, s4 _ _ hz1, Es.clZ, Es.zC, rfl, _, rfl, t, r, _, _, rfl, .inr (s4 _ _ ht1), .inl (hr1.same s4), by rw [lc, lr], by rw [lr]; omega, cb, fun v hv => Nat.lt_of_lt_of_le (hBr6 v hv) (Nat.pow_le_pow_right (by decide) (by decide)), fun H5 s5 => ⟨rfl, ?_⟩⟩
      rw [show (!decide (V.int (dotI (g.drop (E.length + 1)) rs) = V.int 0)) = true by rw [decide_eq_false (fun w => cR (by injection w))]; rfl]
      exact q H5 (s1.trans (s4.trans s5))
    · have eb : b = true := hb.mpr (in_span st lr hl)
      subst eb
      refine iteF ?_
      obtain ⟨dz, t1, t2, t3, t4, y2, y3, y4, hz, h1, h2, h3, h4, rest⟩ := id hng
      have hz1 := s1 _ _ hz
      refine ⟨_, rfl, _, _, _, _, _, rfl, ClsV.own _, TyX.base (.ins hz1 Es.clH Es.d1 Es.c2 Es.c3 Es.d4), Es.z2, true, rfl, ?_⟩
      refine iteF ?_
      have h11 := s1 _ _ h1
      have h21 := s1 _ _ h2
      have h31 := s1 _ _ h3
      have h41 := s1 _ _ h4
      have ly2 := prd_len rest.1
      have ly3 := prd_len rest.2.1
      have ly4 := prd_len rest.2.2
      rw [List.length_map, List.length_range] at ly2 ly4
      rw [grsS_len] at ly3
      refine ⟨_, rfl, z, _, dz, _, _, rfl, hz1, Es.clH, Es.hK, rfl, _, rfl, z, _, dz, _, _, rfl, hz1, Es.clH, Es.hP, rfl, _, rfl, z, _, dz, _, _, rfl, hz1, Es.clH, Es.hG, rfl, _, rfl, z, _, dz, _, _, rfl, hz1, Es.clH, Es.hC, rfl, (by show 4 ≤ sizeLine; decide), fun L hL => ?_⟩
      have nL := AL.Same.new (o := .lst [.ref t1, .ref t2, .ref t3, .ref t4]) hL
      have hL2 : upd H1 L (.lst [.ref t1, .ref t2, .ref t3, .ref t4]) L = some (.lst [.ref t1, .ref t2, .ref t3, .ref t4]) := upd_same
      generalize upd H1 L (.lst [.ref t1, .ref t2, .ref t3, .ref t4]) = H2 at nL hL2 ⊢
      refine ⟨L, rfl, ⟨_, SqL.of hL2⟩, for_list (K := K) (a := L) (xs := [V.ref t1, V.ref t2, V.ref t3, V.ref t4]) (fun i σ H' => ∃ v3 : Option V, σ = [some (.ref w), some (.ref r), some (.ref z), v3, none] ∧ Same H2 H') ⟨_, rfl, fun _ _ h => h⟩ (fun i σ H' _ hh => by obtain ⟨_, _, s⟩ := hh; exact SqL.of (s _ _ hL2)) ?_ ?_⟩
      · rintro i x σ H3 hx ⟨v3, rfl, s3⟩
        have s13 := nL.trans s3
        obtain ⟨t, ys, rfl, ht, hy⟩ : ∃ t ys, x = V.ref t ∧ H1 t = some (.tup ys) ∧ ys.length = E.length := by
          have mx := List.mem_of_getElem? hx
          simp only [List.mem_cons, List.not_mem_nil, or_false] at mx
          rcases mx with rfl | rfl | rfl | rfl
          · exact ⟨t1, _, rfl, h11, by rw [List.length_map, List.length_range]⟩
          · exact ⟨t2, _, rfl, h21, ly2⟩
          · exact ⟨t3, _, rfl, h31, ly3⟩
          · exact ⟨t4, _, rfl, h41, ly4⟩
        have ht3 := s13 _ _ ht
        refine ⟨_, rfl, _, _, _, _, _, rfl, ClsV.ty _, TyX.base (.tup ht3), rfl, true, rfl, ?_⟩
        refine iteF ?_
        refine ⟨_, rfl, t, _, rfl, .inr (SqT.of ht3), _, rfl, w, _, rfl, .inl (SqL.of (s13 _ _ W1)), rfl, _, rfl, ?_⟩
        rw [List.length_map, les, hy, decide_eq_true rfl]
        refine iteF ?_
        exact ⟨_, rfl, s3⟩
      rintro σ H3 ⟨v3, rfl, s3⟩
      have s13 := nL.trans s3
      have W13 := s13 _ _ W1
      refine ⟨_, rfl, w, _, rfl, .inl (SqL.of W13), _, rfl, by omega, by rw [List.length_map]; omega, for_range (lo := 0) (n := (((es.map V.ref).length : Nat) : Int).toNat) (fun i σ H' => ∃ v4 : Option V, σ = [some (.ref w), some (.ref r), some (.ref z), v3, v4] ∧ Same H3 H') ⟨_, rfl, fun _ _ h => h⟩ ?_ ?_⟩
      · rintro i σ H4 hi ⟨v4, rfl, s4⟩
        rw [Int.toNat_natCast, List.length_map, les] at hi
        have s14 := s13.trans s4
        have zi : (0 : Int) + (i : Int) = ((i : Nat) : Int) := Int.zero_add _
        rw [zi]
        refine ⟨_, rfl, _, rfl, _, rfl, _, rfl, w, r, z, n, 0, i, E, rs, S, rfl, hw1.same s14, hr1.same s14, hang_same hng (s1.trans s14), st, hi, lE, n0, n20, lr, hl, hB6, hBr6, Sb, Gb, fun H5 s5 => ⟨true, rfl, ?_⟩⟩
        refine iteF ?_
        exact ⟨_, rfl, s4.trans s5⟩
      rintro σ H4 ⟨v4, rfl, s4⟩
      exact q H4 (s1.trans (s13.trans s4))
end
end AL
set_option Elab.async false
set_option maxRecDepth 100000
set_option exponentiation.threshold 70000
set_option maxHeartbeats 1000000
namespace AL
open PySem PySem.Spec PyProof.Rows L2 RZ
section
variable {P : Program} {w : World} {K : PySem.W.Frag} {mg : Str → Option Value} {base : Heap}

theorem sm_bd {c : Nat} {f : Nat → Int} : ∀ {n : Nat}, (∀ t, t < n → (f t).natAbs ≤ c) → (sm n f).natAbs ≤ n * c
  | 0, _ => by unfold sm; simp
  | n + 1, h => by
    have ih := sm_bd (n := n) fun t ht => h t (by omega)
    have := h n (by omega)
    unfold sm
    rw [Nat.succ_mul]
    omega

theorem szN_mono51 (b : Nat) : ∀ {k l : Nat}, k ≤ l → szN b k ≤ szN b l := fun {k l} h => by
  induction h with
  | refl => exact Nat.le_refl _
  | step _ ih => exact Nat.le_trans ih (szN_le b _)
theorem sz_ok51 {n : Nat} (h : n ≤ 4) : szN 18 n ≤ 802 ∧ szN 18 n ≤ 6000 ∧ 18 + n * (szN 18 n + 1) ≤ 13000 ∧ szN 18 n * n < 12000 := by
  have e : szN 18 n ≤ szN 18 4 := szN_mono51 18 h
  have v : szN 18 4 ≤ 802 := by decide
  have h1 : n * (szN 18 n + 1) ≤ 4 * 803 := Nat.mul_le_mul h (by omega)
  have h2 : szN 18 n * n ≤ 802 * 4 := Nat.mul_le_mul (by omega) h
  exact ⟨by omega, by omega, by omega, by omega⟩
theorem fac_ok51 : ∀ {m : Nat}, m ≤ 6 → facB 174960 (m + 2) < 2 ^ 6000
  | 0, _ => by decide +kernel
  | 1, _ => by decide +kernel
  | 2, _ => by decide +kernel
  | 3, _ => by decide +kernel
  | 4, _ => by decide +kernel
  | 5, _ => by decide +kernel
  | 6, _ => by decide +kernel
  | m + 7, h => by omega
theorem mk_num_le (a : Int) (b : Nat) : (mkRat a b).num.natAbs ≤ a.natAbs := by
  by_cases b0 : b = 0
  · subst b0; simp
  · rw [Rat.num_mkRat, if_neg b0, Int.natAbs_ediv_of_dvd]
    · exact Nat.div_le_self _ _
    · exact Int.ofNat_dvd_left.mpr (Nat.gcd_dvd_right _ _)
theorem grp_bd51 {S : List Rw} (pos : ∀ f ∈ S, 0 < vl f (piv f)) (b : ∀ f ∈ S, Bb 802 f) (l : S.length ≤ 4) (m free : Nat) : ∀ v ∈ grp S m free, v.natAbs < 2 ^ 4100 := fun v hv => by
  unfold grp wholeR at hv
  obtain ⟨x, hx, rfl⟩ := List.mem_map.mp hv
  have hr : ∀ x ∈ grX S m free, x.den ∣ pvP S ∧ x.num.natAbs < 2 ^ 802 := fun x hx => by
    unfold grX at hx
    obtain ⟨j, _, rfl⟩ := List.mem_map.mp hx
    unfold rhoX
    split
    · exact ⟨Nat.one_dvd _, by show (1 : Nat) < _; exact Nat.one_lt_two_pow (by decide)⟩
    · split
      · rename_i f hf
        have mf := List.mem_of_find?_eq_some hf
        have pf : piv f = j := by have z := List.find?_some hf; exact of_decide_eq_true z
        have ps := pos f mf
        subst pf
        refine ⟨Nat.dvd_trans (mk_den _ (by omega)) (pvP_dvd mf), Nat.lt_of_le_of_lt (mk_num_le _ _) ?_⟩
        rw [Int.natAbs_neg]
        exact b f mf free
      · exact ⟨Nat.one_dvd _, by show (0 : Nat) < _; exact Nat.two_pow_pos _⟩
  have lc := lcm_fold (grX S m free) 1 (by decide)
  have d := lc.2.2.2 (pvP S) (Nat.one_dvd _) fun x hx => (hr x hx).1
  have le : lcmD (grX S m free) ≤ 2 ^ 3208 := Nat.le_trans (Nat.le_of_dvd (pvP_pos pos) d) (Nat.le_trans (pvP_le pos b) (Nat.pow_le_pow_right (by decide) (by omega)))
  have le2 : lcmD (grX S m free) / x.den ≤ 2 ^ 3208 := Nat.le_trans (Nat.div_le_self _ _) le
  rw [Int.natAbs_mul, Int.natAbs_natCast]
  refine Nat.lt_of_le_of_lt (Nat.mul_le_mul (Nat.le_of_lt (hr x hx).2) le2) ?_
  rw [← Nat.pow_add]
  exact Nat.pow_lt_pow_right (by decide) (by decide)

abbrev stlaw : Stmt := top 51
theorem sclaw : FnScope ["_law_script", "_law_pen_here", "_law_turn", "_law_many", "_law_wide", "_law_exponents_here", "_law_result", "_law_k", "_law_way", "_law_one", "_law_passed", "_law_row", "_law_told", "_law_none", "_law_hung", "_law_made"] ["_law_script"] (defScope stlaw) := ⟨rfl, rfl, rfl, by decide +kernel, rfl, by decide +kernel, by decide +kernel⟩
theorem oklaw (B : Blt mg) {CZero CHangs : Addr} (Es : ErH K mg CZero CHangs) {fis_list : Addr} {fdis_list : FuncData} (Dis_list : DefAt K mg "is_list" stis_list ["value"] fis_list fdis_list) {fas_tuples0 : Addr} {fdas_tuples0 : FuncData} (Das_tuples0 : DefAt K mg "as_tuples" stas_tuples0 ["value"] fas_tuples0 fdas_tuples0) {fas_tuples1 : Addr} {fdas_tuples1 : FuncData} (Das_tuples1 : DefAt K mg "as_tuples" stas_tuples1 ["value"] fas_tuples1 fdas_tuples1) {fas_tuples : Addr} {fdas_tuples : FuncData} (Das_tuples : DefAt K mg "as_tuples" stas_tuples ["value"] fas_tuples fdas_tuples) {fH_init : Addr} {fdH_init : FuncData} (DH_init : IniA K "__init__" "Hangs.__init__" stH_init ["self", "kinds", "powers", "groups", "changes"] CHangs fH_init fdH_init) {fZ_init : Addr} {fdZ_init : FuncData} (DZ_init : IniA K "__init__" "Zero.__init__" stZ_init ["self", "change"] CZero fZ_init fdZ_init) {f_law_draw : Addr} {fd_law_draw : FuncData} (D_law_draw : DefAt K mg "_law_draw" st_law_draw ["_law_pen_here", "_law_many"] f_law_draw fd_law_draw) {f_law_pick : Addr} {fd_law_pick : FuncData} (D_law_pick : DefAt K mg "_law_pick" st_law_pick ["_law_pen_here", "_law_some"] f_law_pick fd_law_pick) {f_law_matrix : Addr} {fd_law_matrix : FuncData} (D_law_matrix : DefAt K mg "_law_matrix" st_law_matrix ["_law_pen_here", "_law_many", "_law_wide", "_law_most"] f_law_matrix fd_law_matrix) {f_law_exponents : Addr} {fd_law_exponents : FuncData} (D_law_exponents : DefAt K mg "_law_exponents" st_law_exponents ["_law_pen_here", "_law_many", "_law_wide", "_law_most"] f_law_exponents fd_law_exponents) {f_law_pen : Addr} {fd_law_pen : FuncData} (D_law_pen : DefAt K mg "_law_pen" st_law_pen ["_law_script"] f_law_pen fd_law_pen) {f_law_rank : Addr} {fd_law_rank : FuncData} (D_law_rank : DefAt K mg "_law_rank" st_law_rank ["_law_rows"] f_law_rank fd_law_rank) {f_law_in_span : Addr} {fd_law_in_span : FuncData} (D_law_in_span : DefAt K mg "_law_in_span" st_law_in_span ["_law_exponents_here", "_law_row"] f_law_in_span fd_law_in_span) {f_law_inner : Addr} {fd_law_inner : FuncData} (D_law_inner : DefAt K mg "_law_inner" st_law_inner ["_law_row", "_law_column"] f_law_inner fd_law_inner) {f_law_is_whole : Addr} {fd_law_is_whole : FuncData} (D_law_is_whole : DefAt K mg "_law_is_whole" st_law_is_whole ["_law_value"] f_law_is_whole fd_law_is_whole) {f_law_is_change : Addr} {fd_law_is_change : FuncData} (D_law_is_change : DefAt K mg "_law_is_change" st_law_is_change ["_law_value", "_law_wide"] f_law_is_change fd_law_is_change) {f_law_turned : Addr} {fd_law_turned : FuncData} (D_law_turned : DefAt K mg "_law_turned" st_law_turned ["_law_rows"] f_law_turned fd_law_turned) {f_law_unit_of : Addr} {fd_law_unit_of : FuncData} (D_law_unit_of : DefAt K mg "_law_unit_of" st_law_unit_of ["_law_exponents_here", "_law_powers"] f_law_unit_of fd_law_unit_of) {f_law_is_group : Addr} {fd_law_is_group : FuncData} (D_law_is_group : DefAt K mg "_law_is_group" st_law_is_group ["_law_value", "_law_exponents_here"] f_law_is_group fd_law_is_group) {f_law_gcd : Addr} {fd_law_gcd : FuncData} (D_law_gcd : DefAt K mg "_law_gcd" st_law_gcd ["_law_one", "_law_two"] f_law_gcd fd_law_gcd) {f_law_is_ratio : Addr} {fd_law_is_ratio : FuncData} (D_law_is_ratio : DefAt K mg "_law_is_ratio" st_law_is_ratio ["_law_value"] f_law_is_ratio fd_law_is_ratio) {f_law_q : Addr} {fd_law_q : FuncData} (D_law_q : DefAt K mg "_law_q" st_law_q ["_law_top", "_law_bottom"] f_law_q fd_law_q) {f_law_letter_right : Addr} {fd_law_letter_right : FuncData} (D_law_letter_right : DefAt K mg "_law_letter_right" st_law_letter_right ["_law_exponents_here", "_law_result", "_law_told", "_law_j"] f_law_letter_right fd_law_letter_right) {f_law_right : Addr} {fd_law_right : FuncData} (D_law_right : DefAt K mg "_law_right" st_law_right ["_law_exponents_here", "_law_result", "_law_told"] f_law_right fd_law_right) {fis_whole : Addr} {fdis_whole : FuncData} (Dis_whole : DefAt K mg "is_whole" stis_whole ["value"] fis_whole fdis_whole) {fare_integers : Addr} {fdare_integers : FuncData} (Dare_integers : DefAt K mg "are_integers" stare_integers ["items"] fare_integers fdare_integers) {fis_matrix : Addr} {fdis_matrix : FuncData} (Dis_matrix : DefAt K mg "is_matrix" stis_matrix ["rows"] fis_matrix fdis_matrix) {fcheck_matrix : Addr} {fdcheck_matrix : FuncData} (Dcheck_matrix : DefDf [.str "rows"] K mg "check_matrix" stcheck_matrix ["rows", "what"] fcheck_matrix fdcheck_matrix) {fcheck_exponents : Addr} {fdcheck_exponents : FuncData} (Dcheck_exponents : DefAt K mg "check_exponents" stcheck_exponents ["exponents", "result"] fcheck_exponents fdcheck_exponents) {fidentity : Addr} {fdidentity : FuncData} (Didentity : DefAt K mg "identity" stidentity ["many"] fidentity fdidentity) {fcommon_bottom : Addr} {fdcommon_bottom : FuncData} (Dcommon_bottom : DefAt K mg "common_bottom" stcommon_bottom ["ratios"] fcommon_bottom fdcommon_bottom) {fwhole_row : Addr} {fdwhole_row : FuncData} (Dwhole_row : DefAt K mg "whole_row" stwhole_row ["ratios"] fwhole_row fdwhole_row) {fleast_multiple : Addr} {fdleast_multiple : FuncData} (Dleast_multiple : DefAt K mg "least_multiple" stleast_multiple ["ratios"] fleast_multiple fdleast_multiple) {flowest : Addr} {fdlowest : FuncData} (Dlowest : DefAt K mg "lowest" stlowest ["top", "bottom"] flowest fdlowest) {fpivot_of : Addr} {fdpivot_of : FuncData} (Dpivot_of : DefAt K mg "pivot_of" stpivot_of ["row"] fpivot_of fdpivot_of) {fletter_groups : Addr} {fdletter_groups : FuncData} (Dletter_groups : DefAt K mg "letter_groups" stletter_groups ["steps", "many"] fletter_groups fdletter_groups) {fcombined : Addr} {fdcombined : FuncData} (Dcombined : DefAt K mg "combined" stcombined ["many", "one", "times", "other"] fcombined fdcombined) {fwithout_item : Addr} {fdwithout_item : FuncData} (Dwithout_item : DefAt K mg "without_item" stwithout_item ["row", "at", "held"] fwithout_item fdwithout_item) {fcleared : Addr} {fdcleared : FuncData} (Dcleared : DefAt K mg "cleared" stcleared ["reduced_rows", "row"] fcleared fdcleared) {fprimitive : Addr} {fdprimitive : FuncData} (Dprimitive : DefAt K mg "primitive" stprimitive ["row"] fprimitive fdprimitive) {fspan_of : Addr} {fdspan_of : FuncData} (Dspan_of : DefAt K mg "span_of" stspan_of ["rows"] fspan_of fdspan_of) {ftransposed : Addr} {fdtransposed : FuncData} (Dtransposed : DefAt K mg "transposed" sttransposed ["rows"] ftransposed fdtransposed) {fhangs : Addr} {fdhangs : FuncData} (Dhangs : DefAt K mg "hangs" sthangs ["exponents", "result"] fhangs fdhangs) {flaw : Addr} {fdlaw : FuncData} (Dlaw : DefAt K mg "law" stlaw ["_law_script"] flaw fdlaw) : FnOk P w K mg base CX0 10 flaw fdlaw ["_law_script"] (spLaw K) := by
  have OKH_init : FnOk P w K mg base CX0 5 fH_init fdH_init ["self", "kinds", "powers", "groups", "changes"] (spHI CHangs) := okH_init B Es Dis_list Das_tuples0 Das_tuples1 Das_tuples DH_init
  have OKZ_init : FnOk P w K mg base CX0 5 fZ_init fdZ_init ["self", "change"] (spZI CZero) := okZ_init B Es Dis_list Das_tuples0 Das_tuples1 Das_tuples DZ_init
  have OK_law_draw : FnOk P w K mg base CX0 1 f_law_draw fd_law_draw ["_law_pen_here", "_law_many"] spDraw := ok_law_draw B  D_law_draw
  have OK_law_exponents : FnOk P w K mg base CX0 4 f_law_exponents fd_law_exponents ["_law_pen_here", "_law_many", "_law_wide", "_law_most"] spExs := ok_law_exponents B  D_law_draw D_law_pick D_law_matrix D_law_exponents
  have OK_law_pen : FnOk P w K mg base CX0 1 f_law_pen fd_law_pen ["_law_script"] (spPen K) := ok_law_pen B  D_law_pen
  have OK_law_pick : FnOk P w K mg base CX0 2 f_law_pick fd_law_pick ["_law_pen_here", "_law_some"] (spPick K) := ok_law_pick B  D_law_draw D_law_pick
  have OK_law_right : FnOk P w K mg base CX0 5 f_law_right fd_law_right ["_law_exponents_here", "_law_result", "_law_told"] (spRt CZero CHangs) := ok_law_right B Es D_law_rank D_law_in_span D_law_inner D_law_is_whole D_law_is_change D_law_turned D_law_unit_of D_law_is_group D_law_gcd D_law_is_ratio D_law_q D_law_letter_right D_law_right
  have OK_law_unit_of : FnOk P w K mg base CX0 2 f_law_unit_of fd_law_unit_of ["_law_exponents_here", "_law_powers"] spUo := ok_law_unit_of B  D_law_inner D_law_turned D_law_unit_of
  have OKhangs : FnOk P w K mg base CX0 8 fhangs fdhangs ["exponents", "result"] (spHg CZero CHangs) := okhangs B Es Dis_list Das_tuples0 Das_tuples1 Das_tuples DH_init DZ_init Dis_whole Dare_integers Dis_matrix Dcheck_matrix Dcheck_exponents Didentity Dcommon_bottom Dwhole_row Dleast_multiple Dlowest Dpivot_of Dletter_groups Dcombined Dwithout_item Dcleared Dprimitive Dspan_of Dtransposed Dhangs
  refine Dlaw.F.ok sclaw (fun vs H Q E h => ?_) (fun cdv A outer s H vs Q E hr h => ?_)
  · obtain ⟨a, ns, rfl, _⟩ := h; rfl
  · have hu := hu_of hr
    refine ⟨_, (pss_cons (ps_set (i := 1) sclaw.nd rfl (Or.inr rfl) (pe_call OK_law_pen (hr.mono (by decide)) rfl D_law_pen.m D_law_pen.F.kp D_law_pen.b .nil pass0 (pa_cons (pv 0) pa_nil)))
    (pss_cons (ps_for PassesOwn.never rfl (pi_range1 rfl B.range_ (pa_cons pe_int pa_nil)) (pg_name (i := 2) sclaw.nd rfl (Or.inl rfl))
      (pss_cons (ps_par (i := 3) (j := 4) (by rfl) sclaw.nd rfl rfl (by decide) rfl rfl (pa_cons (pe_op op_add pe_int (pe_call OK_law_draw (hr.mono (by decide)) rfl D_law_draw.m D_law_draw.F.kp D_law_draw.b .nil pass0 (pa_cons (pv 1) (pa_cons pe_int pa_nil)))) (pa_cons (pe_op op_add pe_int (pe_call OK_law_draw (hr.mono (by decide)) rfl D_law_draw.m D_law_draw.F.kp D_law_draw.b .nil pass0 (pa_cons (pv 1) (pa_cons pe_int pa_nil)))) pa_nil)) (by rfl))
    (pss_cons (ps_set (i := 5) sclaw.nd rfl (Or.inl rfl) (pe_call OK_law_exponents (hr.mono (by decide)) rfl D_law_exponents.m D_law_exponents.F.kp D_law_exponents.b .nil pass0 (pa_cons (pv 1) (pa_cons (pv 3) (pa_cons (pv 4) (pa_cons (pe_call OK_law_pick (hr.mono (by decide)) rfl D_law_pick.m D_law_pick.F.kp D_law_pick.b .nil pass0 (pa_cons (pv 1) (pa_cons (pe_lst (pa_cons pe_int (pa_cons pe_int (pa_cons pe_int pa_nil)))) pa_nil))) pa_nil))))))
    (pss_cons (ps_set (i := 6) sclaw.nd rfl (Or.inl rfl) (pe_call OK_law_unit_of (hr.mono (by decide)) rfl D_law_unit_of.m D_law_unit_of.F.kp D_law_unit_of.b .nil pass0 (pa_cons (pv 5) (pa_cons (pe_lc (own := [("_law_k", 7)]) (g := gName 7) (tt := tYes) rfl sclaw.nd (pi_range1 rfl B.range_ (pa_cons (pv 3) pa_nil)) (blkOk_by (own := [("_law_k", 7)]) (N := ["_law_script", "_law_pen_here", "_law_turn", "_law_many", "_law_wide", "_law_exponents_here", "_law_result", "_law_k", "_law_way", "_law_one", "_law_passed", "_law_row", "_law_told", "_law_none", "_law_hung", "_law_made"]) (sc := defScope stlaw) (by decide +kernel)) (fun _ _ _ _ _ => (pg_name (i := 7) sclaw.nd rfl (Or.inl rfl))) (fun _ _ _ _ _ => pts_nil) (fun _ _ _ _ _ => (pe_op op_sub (pe_call OK_law_draw (hr.mono (by decide)) rfl D_law_draw.m D_law_draw.F.kp D_law_draw.b .nil pass0 (pa_cons (pv 1) (pa_cons pe_int pa_nil))) pe_int))) pa_nil))))
    (pss_cons (ps_set (i := 8) sclaw.nd rfl (Or.inl rfl) (pe_call OK_law_draw (hr.mono (by decide)) rfl D_law_draw.m D_law_draw.F.kp D_law_draw.b .nil pass0 (pa_cons (pv 1) (pa_cons pe_int pa_nil))))
    (Evl.pss_cut (ps_if (pt_cmpR op_eq (pv 8) pe_int (nomark _)) (pss_one (ps_setLc (i := 6) (own := [("_law_k", 7)]) (g := gName 7) (tt := tYes) rfl sclaw.nd rfl rfl (sw_true rfl rfl rfl (by decide +kernel)) (pi_range1 rfl B.range_ (pa_cons (pv 4) pa_nil)) (blkOk_by (own := [("_law_k", 7)]) (N := ["_law_script", "_law_pen_here", "_law_turn", "_law_many", "_law_wide", "_law_exponents_here", "_law_result", "_law_k", "_law_way", "_law_one", "_law_passed", "_law_row", "_law_told", "_law_none", "_law_hung", "_law_made"]) (sc := defScope stlaw) (by decide +kernel)) (fun _ _ _ _ _ => (pg_name (i := 7) sclaw.nd rfl (Or.inl rfl))) (fun _ _ _ _ _ => pts_nil) (fun _ _ _ _ _ => (pe_op op_sub (pe_call OK_law_draw (hr.mono (by decide)) rfl D_law_draw.m D_law_draw.F.kp D_law_draw.b .nil pass0 (pa_cons (pv 1) (pa_cons pe_int pa_nil))) pe_int)))) pss_nil)
    (Evl.pss_cut (ps_if (PW.pt (pw_and (pt_cmpR op_eq (pv 8) pe_int (nomark _)) (pw_and1 (pt_cmpR (op_eqD hr.units) (pe_lc (own := [("_law_one", 9)]) (g := gName 9) rfl sclaw.nd (pi_list (pv 6)) (blkOk_by (own := [("_law_one", 9)]) (N := ["_law_script", "_law_pen_here", "_law_turn", "_law_many", "_law_wide", "_law_exponents_here", "_law_result", "_law_k", "_law_way", "_law_one", "_law_passed", "_law_row", "_law_told", "_law_none", "_law_hung", "_law_made"]) (sc := defScope stlaw) (by decide +kernel)) (fun _ _ _ _ _ => (pg_name (i := 9) sclaw.nd rfl (Or.inl rfl))) (fun _ _ _ _ _ => (pts_one (pt_cmpR op_ne (pe_op op_modN (pe_callTy call_int1 (by rfl) B.int_ (by decide +kernel) (pa_cons (pv 9) pa_nil)) pe_int) pe_int (nomark _)))) (fun _ _ _ _ _ => (pv 9))) (pe_lst pa_nil) (nomark _))))) (pss_one (ps_setLc (i := 6) (own := [("_law_one", 9)]) (g := gName 9) (tt := tYes) rfl sclaw.nd rfl rfl (sw_true rfl rfl rfl (by decide +kernel)) (pi_list (pv 6)) (blkOk_by (own := [("_law_one", 9)]) (N := ["_law_script", "_law_pen_here", "_law_turn", "_law_many", "_law_wide", "_law_exponents_here", "_law_result", "_law_k", "_law_way", "_law_one", "_law_passed", "_law_row", "_law_told", "_law_none", "_law_hung", "_law_made"]) (sc := defScope stlaw) (by decide +kernel)) (fun _ _ _ _ _ => (pg_name (i := 9) sclaw.nd rfl (Or.inl rfl))) (fun _ _ _ _ _ => pts_nil) (fun _ _ _ _ _ => (pe_op op_fdivB (pv 9) pe_int)))) pss_nil)
    (pss_cons (ps_set (i := 10) sclaw.nd rfl (Or.inl rfl) (pe_call OK_law_pick (hr.mono (by decide)) rfl D_law_pick.m D_law_pick.F.kp D_law_pick.b .nil pass0 (pa_cons (pv 1) (pa_cons (pe_lst (pa_cons (pv 5) (pa_cons (pe_callTy (call_tupK : CallR _ _ (rTup K)) (by rfl) B.tuple_ (by decide +kernel) (pa_cons (pv 5) pa_nil)) (pa_cons (pe_lc (own := [("_law_row", 11)]) (g := gName 11) (tt := tYes) rfl sclaw.nd (pi_list (pv 5)) (blkOk_by (own := [("_law_row", 11)]) (N := ["_law_script", "_law_pen_here", "_law_turn", "_law_many", "_law_wide", "_law_exponents_here", "_law_result", "_law_k", "_law_way", "_law_one", "_law_passed", "_law_row", "_law_told", "_law_none", "_law_hung", "_law_made"]) (sc := defScope stlaw) (by decide +kernel)) (fun _ _ _ _ _ => (pg_name (i := 11) sclaw.nd rfl (Or.inl rfl))) (fun _ _ _ _ _ => pts_nil) (fun _ _ _ _ _ => (pe_callTy (call_listK : CallR _ _ (rListK K)) (by rfl) B.list_ (by decide +kernel) (pa_cons (pv 11) pa_nil)))) pa_nil)))) pa_nil))))
    (pss_cons (ps_set (i := 12) sclaw.nd rfl (Or.inl rfl) (pe_call OKhangs (hr.mono (by decide)) rfl Dhangs.m Dhangs.F.kp Dhangs.b .nil pass0 (pa_cons (pv 10) (pa_cons (pe_call OK_law_pick (hr.mono (by decide)) rfl D_law_pick.m D_law_pick.F.kp D_law_pick.b .nil pass0 (pa_cons (pv 1) (pa_cons (pe_lst (pa_cons (pv 6) (pa_cons (pe_callTy (call_tupK : CallR _ _ (rTup K)) (by rfl) B.tuple_ (by decide +kernel) (pa_cons (pv 6) pa_nil)) pa_nil))) pa_nil))) pa_nil))))
    (pss_one (ps_if (pt_not (pt_val (pe_call OK_law_right (hr.mono (by decide)) rfl D_law_right.m D_law_right.F.kp D_law_right.b .nil pass0 (pa_cons (pv 5) (pa_cons (pv 6) (pa_cons (pv 12) pa_nil)))))) (pss_one (ps_ret pe_bl)) pss_nil)))))))))))
    (pss_cons (ps_par (i := 13) (j := 14) (by rfl) sclaw.nd rfl rfl (by decide) rfl rfl (pa_cons (pe_make DZ_init.M OKZ_init (hr.mono (by decide)) rfl Es.mZ DZ_init.b .nil pass0 (pa_cons (pe_tup (pa_cons pe_int (pa_cons pe_int pa_nil))) pa_nil)) (pa_cons (pe_make DH_init.M OKH_init (hr.mono (by decide)) rfl Es.mH DH_init.b .nil pass0 (pa_cons (pe_tup (pa_cons pe_str pa_nil)) (pa_cons (pe_tup (pa_cons (pe_tup (pa_cons pe_int (pa_cons pe_int pa_nil))) pa_nil)) (pa_cons (pe_tup (pa_cons pe_non pa_nil)) (pa_cons (pe_tup (pa_cons (pe_tup (pa_cons pe_int pa_nil)) pa_nil)) pa_nil))))) pa_nil)) (by rfl))
    (pss_cons (ps_set (i := 15) sclaw.nd rfl (Or.inl rfl) (pe_tup (pa_cons (pe_fld (pv 13) rfl) (pa_cons (pe_fld (pv 14) rfl) (pa_cons (pe_fld (pv 14) rfl) (pa_cons (pe_fld (pv 14) rfl) (pa_cons (pe_fld (pv 14) rfl) pa_nil)))))))
    (pss_one (ps_ret (pe_cmpR (op_eqD hr.units) (pv 15) (pe_tup (pa_cons (pe_tup (pa_cons pe_int (pa_cons pe_int pa_nil))) (pa_cons (pe_tup (pa_cons pe_str pa_nil)) (pa_cons (pe_tup (pa_cons (pe_tup (pa_cons pe_int (pa_cons pe_int pa_nil))) pa_nil)) (pa_cons (pe_tup (pa_cons pe_non pa_nil)) (pa_cons (pe_tup (pa_cons (pe_tup (pa_cons pe_int pa_nil)) pa_nil)) pa_nil)))))) (nomark _)))))))), ?_⟩
    obtain ⟨a, ns, rfl, ha, _, q⟩ := h
    refine ⟨_, rfl, a, ns, rfl, ha, fun p c H0 hpn hcn pc P0 s0 => ?_⟩
    refine ⟨_, rfl, by omega, by omega, for_range (lo := 0) (n := ((3 : Int)).toNat) (fun i σ H' => ∃ v2 v3 v4 v5 v6 v7 v8 v9 v10 v11 v12 : Option V, σ = [some (.ref a), some (.ref p), v2, v3, v4, v5, v6, v7, v8, v9, v10, v11, v12, none, none, none] ∧ Pen H' p c (300 * i)) ⟨none, none, none, none, none, none, none, none, none, none, none, rfl, P0⟩ ?_ ?_⟩
    · rintro turn σ H1 hturn ⟨v2, v3, v4, v5, v6, v7, v8, v9, v10, v11, v12, rfl, P1⟩
      have tu : turn < 3 := hturn
      refine ⟨_, rfl, p, c, _, (6 : Int), rfl, P1, by omega, by decide, by decide, fun v H2 v0 v1 P2 k2 => ⟨_, _, rfl, rfl, ?_⟩⟩
      obtain ⟨m, hm, m1, m6⟩ : ∃ m : Nat, (1 : Int) + v = (m : Int) ∧ 1 ≤ m ∧ m ≤ 6 := ⟨(1 + v).toNat, by omega, by omega, by omega⟩
      dsimp only
      rw [hm]
      refine ⟨_, rfl, p, c, _, (4 : Int), rfl, P2, by omega, by decide, by decide, fun u H3 u0 u1 P3 k3 => ⟨_, _, rfl, rfl, ?_⟩⟩
      obtain ⟨n, hn, n1, n4⟩ : ∃ n : Nat, (1 : Int) + u = (n : Int) ∧ 1 ≤ n ∧ n ≤ 4 := ⟨(1 + u).toNat, by omega, by omega, by omega⟩
      dsimp only
      rw [hn]
      refine ⟨_, _, rfl, ?_⟩
      refine ⟨_, rfl, _, rfl, _, rfl, _, rfl, (by show 3 ≤ sizeLine; decide), fun lp hlp => ?_⟩
      have nlp := AL.Same.new (o := .lst [.int 2, .int 4, .int 20]) hlp
      refine ⟨p, c, lp, _, _, rfl, P3.same nlp, by omega, SqL.of upd_same, (by show 0 < 3; decide), (by show 3 < 1000000000; decide), fun jx x H4 hx P4 k4 => ?_⟩
      obtain ⟨mo, rfl, mo1, mo20⟩ : ∃ s : Nat, x = V.int (s : Int) ∧ 1 ≤ s ∧ s ≤ 20 := by
        refine pick_of (P := fun x => ∃ s : Nat, x = V.int (s : Int) ∧ 1 ≤ s ∧ s ≤ 20) (fun y hy => ?_) hx
        simp only [List.mem_cons, List.not_mem_nil, or_false] at hy
        rcases hy with rfl | rfl | rfl
        · exact ⟨2, rfl, by decide, by decide⟩
        · exact ⟨4, rfl, by decide, by decide⟩
        · exact ⟨20, rfl, by decide, by decide⟩
      refine ⟨p, c, _, m, n, mo, rfl, P4, by omega, m6, n4, mo1, mo20, fun w H5 E P5 k5 hE5 lE bE => ?_⟩
      have Ene : E ≠ [] := fun e => by rw [e] at lE; simp at lE; omega
      have El : ∀ r ∈ E, r.length = n := fun r hr => (bE r hr).1
      have Eb : ∀ r ∈ E, ∀ v ∈ r, v.natAbs ≤ 14580 := fun r hr v hv => by
        have h1 := (bE r hr).2 v hv
        have h2 : 3 ^ m ≤ 3 ^ 6 := Nat.pow_le_pow_right (by decide) m6
        have h3 : mo * 3 ^ m ≤ 20 * 3 ^ 6 := Nat.mul_le_mul mo20 h2
        omega
      clear bE hx nlp hlp
      -- the drawn powers
      refine ⟨_, rfl, _, rfl, _, rfl, by omega, by omega, fun D hD => ?_⟩
      obtain ⟨pD, cD⟩ := pen_ne7 P5 hD
      have nD := AL.Same.new (o := .lst []) hD
      refine lc_range (lo := 0) (n := ((m : Int)).toNat) (fun i H' => Pen H' p c (300 * turn + 90 + i) ∧ Keep p H5 H' ∧ ∃ qs : List Int, H' D = some (.lst (qs.map V.int)) ∧ qs.length = i ∧ ∀ x ∈ qs, x.natAbs ≤ 2) ⟨(P5.same nD).mono (by omega), same_k7 nD, [], upd_same, rfl, (fun r hr => nomatch hr)⟩ ?_ ?_
      · rintro i H6 hi ⟨P6, k6, qs, hq, lq, bq⟩
        rw [Int.toNat_natCast] at hi
        refine ⟨rfl, ?_⟩
        refine ⟨_, rfl, p, c, _, (5 : Int), rfl, P6, by omega, by decide, by decide, fun v H7 v0 v1 P7 k7 => ⟨_, _, rfl, rfl, ?_⟩⟩
        refine ⟨_, k7.at P6 hq (fun _ z => nomatch z), ?_, (pen_upd7 P7 pD cD).mono (by omega), keep_upd7 (k6.trans k7) hD, qs ++ [v - 2], ?_, ?_, ?_⟩
        · rw [List.length_map, lq]; exact Nat.lt_of_lt_of_le (by omega : i < 9) (by decide)
        · rw [upd_same, List.map_append]; rfl
        · rw [List.length_append, lq]; rfl
        · intro y hy
          rcases List.mem_append.mp hy with hy | hy
          · exact bq y hy
          · rw [List.mem_singleton.mp hy]; omega
      rintro H6 ⟨P6, k6, qs, hq, lq, bq⟩
      rw [Int.toNat_natCast] at P6 lq
      have hE6 : RowsW H6 w E := by
        obtain ⟨as, h1, h2⟩ := hE5
        exact ⟨as, k6.at P5 h1 (fun _ z => nomatch z), paired_mono h2 fun _ _ z => k6.at P5 z (fun _ z => nomatch z)⟩
      refine ⟨w, D, n, E, qs, rfl, hE6.toT, Ene, El, by omega, by omega, fun r hr v hv => Nat.lt_of_le_of_lt (Eb r hr v hv) (by decide), .inl hq, by omega, fun x hx => Nat.lt_of_le_of_lt (bq x hx) (Nat.lt_of_lt_of_le (by decide : 2 < 2 ^ 2) (Nat.pow_le_pow_right (by decide) (by decide))), fun ro H7 hro s7 hr7 => ?_⟩
      have P7 := P6.same s7
      have hE7 := hE6.same s7
      have rl : (resR n E qs).length = n := by unfold resR; rw [List.length_map, List.length_range]
      have rb : ∀ v ∈ resR n E qs, v.natAbs ≤ 174960 := fun v hv => by
        obtain ⟨i, hi⟩ := List.mem_iff_getElem?.mp hv
        have il := (List.getElem?_eq_some_iff.mp hi).1
        rw [rl] at il
        rw [← vl_get hi, resR_vl il]
        refine Nat.le_trans (sm_bd (c := 29160) fun k hk => ?_) (by omega)
        rw [Int.natAbs_mul]
        have h1 : (qs.getD k 0).natAbs ≤ 2 := bq _ (vl_mem (by omega))
        have h2 : (vl (E.getD k []) i).natAbs ≤ 14580 := Eb _ (rowD_mem hk) _ (vl_mem (by rw [El _ (rowD_mem hk)]; exact il))
        exact Nat.mul_le_mul h1 h2
      generalize resR n E qs = r0 at hr7 rl rb
      clear hq bq lq k6 P6 P5 hE5 hE6 hro s7 hD nD pD cD P4 k4 P3 k3 P2 k2 P1 k5
      refine ⟨_, rfl, p, c, _, (3 : Int), rfl, P7, by omega, by decide, by decide, fun way H8 y0 y1 P8 k8 => ?_⟩
      have hE8 : RowsW H8 w E := by
        obtain ⟨as, h1, h2⟩ := hE7
        exact ⟨as, k8.at P7 h1 (fun _ z => nomatch z), paired_mono h2 fun _ _ z => k8.at P7 z (fun _ z => nomatch z)⟩
      have hr8 : LI H8 ro r0 := k8.at P7 hr7 (fun _ z => nomatch z)
      clear hE7 hr7 P7 k8
      refine ⟨fun σ' H' => ∃ (ro : Addr) (r0 : Rw), σ' = [some (.ref a), some (.ref p), some (.int (0 + (turn : Int))), some (.int (m : Int)), some (.int (n : Int)), some (.ref w), some (.ref ro), v7, some (.int way), v9, v10, v11, v12, none, none, none] ∧ Pen H' p c (300 * turn + 110) ∧ RowsW H' w E ∧ LI H' ro r0 ∧ r0.length = n ∧ ∀ v ∈ r0, v.natAbs ≤ 174960, ?_, ?_⟩
      · refine ⟨_, rfl, rfl, _, rfl, ?_⟩
        by_cases w0 : way = 0
        · rw [decide_eq_true (by rw [w0])]
          refine iteT ?_
          refine ⟨_, rfl, _, rfl, by omega, by omega, fun D hD => ?_⟩
          obtain ⟨pD, cD⟩ := pen_ne7 P8 hD
          have nD := AL.Same.new (o := .lst []) hD
          refine lc_range (lo := 0) (n := ((n : Int)).toNat) (fun i H' => Pen H' p c (300 * turn + 100 + i) ∧ Keep p H8 H' ∧ ∃ qs : List Int, H' D = some (.lst (qs.map V.int)) ∧ qs.length = i ∧ ∀ x ∈ qs, x.natAbs ≤ 174960) ⟨(P8.same nD).mono (by omega), same_k7 nD, [], upd_same, rfl, (fun r hr => nomatch hr)⟩ ?_ ?_
          · rintro i H9 hi ⟨P9, k9, qs, hq, lq, bq⟩
            rw [Int.toNat_natCast] at hi
            refine ⟨rfl, ?_⟩
            refine ⟨_, rfl, p, c, _, (7 : Int), rfl, P9, by omega, by decide, by decide, fun v H10 v0 v1 P10 k10 => ⟨_, _, rfl, rfl, ?_⟩⟩
            refine ⟨_, k10.at P9 hq (fun _ z => nomatch z), ?_, (pen_upd7 P10 pD cD).mono (by omega), keep_upd7 (k9.trans k10) hD, qs ++ [v - 3], ?_, ?_, ?_⟩
            · rw [List.length_map, lq]; exact Nat.lt_of_lt_of_le (by omega : i < 9) (by decide)
            · rw [upd_same, List.map_append]; rfl
            · rw [List.length_append, lq]; rfl
            · intro y hy
              rcases List.mem_append.mp hy with hy | hy
              · exact bq y hy
              · rw [List.mem_singleton.mp hy]; omega
          rintro H9 ⟨P9, k9, qs, hq, lq, bq⟩
          rw [Int.toNat_natCast] at P9 lq
          refine ⟨D, qs, rfl, P9.mono (by omega), ?_, hq, lq, bq⟩
          obtain ⟨as, h1, h2⟩ := hE8
          exact ⟨as, k9.at P8 h1 (fun _ z => nomatch z), paired_mono h2 fun _ _ z => k9.at P8 z (fun _ z => nomatch z)⟩
        · rw [decide_eq_false (fun z => w0 (by injection z))]
          refine iteF ?_
          exact ⟨ro, r0, rfl, P8.mono (by omega), hE8, hr8, rl, rb⟩
      clear hE8 hr8 rl rb P8
      rintro σ' H9 ⟨ro, r0, rfl, P9, hE9, hr9, rl, rb⟩
      refine ⟨fun σ' H' => ∃ (ro : Addr) (r0 : Rw), σ' = [some (.ref a), some (.ref p), some (.int (0 + (turn : Int))), some (.int (m : Int)), some (.int (n : Int)), some (.ref w), some (.ref ro), v7, some (.int way), v9, v10, v11, v12, none, none, none] ∧ Pen H' p c (300 * turn + 110) ∧ RowsW H' w E ∧ LI H' ro r0 ∧ r0.length = n ∧ ∀ v ∈ r0, v.natAbs ≤ 174960, ?_, ?_⟩
      · refine ⟨_, rfl, rfl, _, rfl, ?_⟩
        by_cases w1 : way = 1
        · rw [decide_eq_true (by rw [w1])]
          refine iteT ?_
          refine ⟨_, rfl, ro, rfl, ⟨_, SqL.of hr9⟩, fun D hD => ?_⟩
          refine lc_list (K := K) (a := ro) (xs := r0.map V.int) (fun i H' => Same H9 H' ∧ ∃ qs : List Int, H' D = some (.lst (qs.map V.int)) ∧ qs.length ≤ i) ⟨AL.Same.new hD, [], upd_same, Nat.le_refl _⟩ (fun i H' _ hh => SqL.of (hh.1 _ _ hr9)) ?_ ?_
          · rintro i x H10 hx ⟨s10, qs, hq, lq⟩
            obtain ⟨z, hz, rfl⟩ := map_int hx
            have il := (List.getElem?_eq_some_iff.mp hz).1
            refine ⟨rfl, ?_⟩
            refine ⟨_, rfl, .inl ⟨z, rfl, _, _, rfl, rfl, (by show (2 : Int) ≠ 0; decide), rfl, _, rfl, ?_⟩⟩
            refine ite2 (fun _ => ?_) (fun _ => ?_)
            · refine ⟨_, rfl, _, hq, ?_, AL.Same.updn s10 hD, qs ++ [z], by rw [upd_same, List.map_append]; rfl, by rw [List.length_append]; exact Nat.succ_le_succ lq⟩
              rw [List.length_map]; exact Nat.lt_of_le_of_lt (by omega : _ ≤ 1000) (by decide)
            · exact ⟨s10, qs, hq, by omega⟩
          rintro H10 ⟨s10, qs, hq, _⟩
          refine ⟨(by show 0 ≤ sizeLine; decide), fun l hl => ?_⟩
          have nl := AL.Same.new (o := .lst []) hl
          refine ⟨.list (qs.map PyData.int), .list (([] : List Int).map PyData.int), .lst (SqL.of (nl _ _ hq)) (dpAll_int _), .lst (SqL.of upd_same) .nil, shaped_intsL _, shaped_intsL _, _, rfl, ?_⟩
          have s11 := s10.trans nl
          have hr11 := hr9.same s11
          have P11 := P9.same s11
          have hE11 := hE9.same s11
          generalize upd H10 l (.lst []) = H11 at s11 hr11 P11 hE11 ⊢
          refine ite2 (fun _ => ?_) (fun _ => ?_)
          · refine ⟨_, rfl, ro, rfl, ⟨_, SqL.of hr11⟩, fun D2 hD2 => ?_⟩
            refine lc_list (K := K) (a := ro) (xs := r0.map V.int) (fun i H' => Same H11 H' ∧ H' D2 = some (.lst (((r0.map fun v => v.fdiv 2).take i).map V.int))) ⟨AL.Same.new hD2, upd_same⟩ (fun i H' _ hh => SqL.of (hh.1 _ _ hr11)) ?_ ?_
            · rintro i x H12 hx ⟨s12, hd⟩
              obtain ⟨z, hz, rfl⟩ := map_int hx
              have il := (List.getElem?_eq_some_iff.mp hz).1
              refine ⟨rfl, ?_⟩
              refine ⟨_, rfl, _, _, rfl, rfl, ⟨by show (2 : Int) ≠ 0; decide, Nat.lt_of_le_of_lt (rb z (List.mem_of_getElem? hz)) (Nat.lt_of_lt_of_le (by decide : 174960 < 2 ^ 60) (Nat.pow_le_pow_right (by decide) (by decide)))⟩, _, hd, ?_, AL.Same.updn s12 hD2, ?_⟩
              · rw [List.length_map, List.length_take, List.length_map]; exact Nat.lt_of_le_of_lt (by omega : _ ≤ 1000) (by decide)
              · rw [upd_same, List.take_add_one, List.getElem?_map, hz, List.map_append]; rfl
            · rintro H12 ⟨s12, hd⟩
              rw [List.take_of_length_le (by rw [List.length_map, List.length_map]; exact Nat.le_refl _)] at hd
              refine ⟨D2, List.map (fun v : Int => v.fdiv 2) r0, rfl, P11.same s12, hE11.same s12, hd, by rw [List.length_map]; exact rl, fun v hv => ?_⟩
              obtain ⟨x, hx, rfl⟩ := List.mem_map.mp hv
              have := rb x hx
              rw [Int.fdiv_eq_ediv_of_nonneg _ (by decide)]
              omega
          · exact ⟨ro, r0, rfl, P11, hE11, hr11, rl, rb⟩
        · rw [decide_eq_false (fun z => w1 (by injection z))]
          refine iteF ?_
          refine iteF ?_
          exact ⟨ro, r0, rfl, P9, hE9, hr9, rl, rb⟩
      clear P9 hE9 hr9 rl rb
      rintro σ' H9 ⟨ro, r0, rfl, P9, hE9, hr9, rl, rb⟩
      obtain ⟨es, W1, W2⟩ := id hE9
      have les := prd_len W2
      refine ⟨_, rfl, _, rfl, _, rfl, w, _, rfl, .inl ⟨SqL.of W1, fun et het => ?_⟩⟩
      have net := AL.Same.new (o := .tup (es.map V.ref)) het
      have het1 : upd H9 et (.tup (es.map V.ref)) et = some (.tup (es.map V.ref)) := upd_same
      have W11 := net _ _ W1
      generalize upd H9 et (.tup (es.map V.ref)) = H10 at net het1 W11 ⊢
      refine ⟨_, rfl, w, rfl, ⟨_, SqL.of W11⟩, fun D hD => ?_⟩
      refine lc_list (K := K) (a := w) (xs := es.map V.ref) (fun i H' => Same H10 H' ∧ ∃ cs : List Addr, H' D = some (.lst (cs.map V.ref)) ∧ Paired (fun a r => a ≠ D ∧ H' a = some (.lst (r.map V.int))) cs (E.take i)) ⟨AL.Same.new hD, [], upd_same, .nil⟩ (fun i H' _ hh => SqL.of (hh.1 _ _ W11)) ?_ ?_
      · rintro i x H11 hx ⟨s11, cs, hd, pr⟩
        obtain ⟨e, he, rfl⟩ := map_ref hx
        obtain ⟨y, hy, hya⟩ := prd_get W2 he
        have lcs := prd_len pr
        rw [List.length_take] at lcs
        refine ⟨rfl, ?_⟩
        refine ⟨_, rfl, e, _, rfl, .inr (SqT.of ((net.trans s11) _ _ hya)), fun l hl => ?_⟩
        have nl := AL.Same.new (o := .lst (y.map V.int)) hl
        have lD : l ≠ D := fun e => by rw [e, hd] at hl; cases hl
        obtain ⟨r1, r2⟩ := rowsZ_snoc (nl _ _ hd) (paired_mono pr fun _ _ z => ⟨z.1, nl _ _ z.2⟩) lD (upd_same : upd H11 l (.lst (y.map V.int)) l = _)
        refine ⟨_, nl _ _ hd, ?_, AL.Same.updn (s11.trans nl) hD, cs ++ [l], r1, ?_⟩
        · rw [List.length_map]; exact Nat.lt_of_le_of_lt (by omega : _ ≤ 1000) (by decide)
        · rw [List.take_add_one, hy]; exact r2
      rintro H11 ⟨s11, cs, hd, pr⟩
      rw [List.length_map, les, List.take_length] at pr
      refine ⟨(by show 3 ≤ sizeLine; decide), fun lp hlp => ?_⟩
      have nlp := AL.Same.new (o := .lst [.ref w, .ref et, .ref D]) hlp
      have s12 := net.trans (s11.trans nlp)
      have P12 := P9.same s12
      refine ⟨p, c, lp, _, _, rfl, P12, by omega, SqL.of upd_same, (by show 0 < 3; decide), (by show 3 < 1000000000; decide), fun jx x H13 hx P13 k13 => ?_⟩
      obtain ⟨pw, rfl, hpw⟩ : ∃ pw, x = V.ref pw ∧ RowsA H13 pw E := by
        refine pick_of (P := fun x => ∃ pw, x = V.ref pw ∧ RowsA H13 pw E) (fun y hy => ?_) hx
        simp only [List.mem_cons, List.not_mem_nil, or_false] at hy
        rcases hy with rfl | rfl | rfl
        · exact ⟨w, rfl, es, .inl (k13.at P12 (s12 _ _ W1) (fun _ z => nomatch z)), paired_mono W2 fun _ _ z => .inr (k13.at P12 (s12 _ _ z) (fun _ z => nomatch z))⟩
        · exact ⟨et, rfl, es, .inr (k13.at P12 ((s11.trans nlp) _ _ het1) (fun _ z => nomatch z)), paired_mono W2 fun _ _ z => .inr (k13.at P12 (s12 _ _ z) (fun _ z => nomatch z))⟩
        · exact ⟨D, rfl, cs, .inl (k13.at P12 (nlp _ _ hd) (fun _ z => nomatch z)), paired_mono pr fun _ _ z => .inl (k13.at P12 (nlp _ _ z.2) (fun _ z => nomatch z))⟩
      have hE13 : RowsW H13 w E := ⟨es, k13.at P12 (s12 _ _ W1) (fun _ z => nomatch z), paired_mono W2 fun _ _ z => k13.at P12 (s12 _ _ z) (fun _ z => nomatch z)⟩
      have hr13 : LI H13 ro r0 := k13.at P12 (s12 _ _ hr9) (fun _ z => nomatch z)
      clear hx nlp hlp hd pr s11 hD net het1 W11 s12 P12 k13 W1 W2 hE9 hr9 P9
      refine ⟨_, rfl, _, rfl, _, rfl, _, rfl, ro, r0.map V.int, rfl, .inl ⟨SqL.of hr13, fun rt hrt => ?_⟩⟩
      have nrt := AL.Same.new (o := .tup (r0.map V.int)) hrt
      have hrt1 : upd H13 rt (.tup (r0.map V.int)) rt = some (.tup (r0.map V.int)) := upd_same
      refine ⟨(by show 2 ≤ sizeLine; decide), fun lp hlp => ?_⟩
      have nlp := AL.Same.new (o := .lst [.ref ro, .ref rt]) hlp
      have s15 := nrt.trans nlp
      have P15 := P13.same s15
      refine ⟨p, c, lp, _, _, rfl, P15, by omega, SqL.of upd_same, (by show 0 < 2; decide), (by show 2 < 1000000000; decide), fun jx x H16 hx P16 k16 => ?_⟩
      obtain ⟨pr, rfl, hpr⟩ : ∃ pr, x = V.ref pr ∧ LT H16 pr r0 := by
        refine pick_of (P := fun x => ∃ pr, x = V.ref pr ∧ LT H16 pr r0) (fun y hy => ?_) hx
        simp only [List.mem_cons, List.not_mem_nil, or_false] at hy
        rcases hy with rfl | rfl
        · exact ⟨ro, rfl, .inl (k16.at P15 (s15 _ _ hr13) (fun _ z => nomatch z))⟩
        · exact ⟨rt, rfl, .inr (k16.at P15 (nlp _ _ hrt1) (fun _ z => nomatch z))⟩
      have hE16 : RowsW H16 w E := by
        obtain ⟨as, h1, h2⟩ := hE13.same s15
        exact ⟨as, k16.at P15 h1 (fun _ z => nomatch z), paired_mono h2 fun _ _ z => k16.at P15 z (fun _ z => nomatch z)⟩
      have hpw16 : RowsA H16 pw E := by
        obtain ⟨as, h1, h2⟩ := hpw.same s15
        exact ⟨as, h1.imp (fun z => k16.at P15 z (fun _ z => nomatch z)) (fun z => k16.at P15 z (fun _ z => nomatch z)), paired_mono h2 fun _ _ z => Or.imp (fun z => k16.at P15 z (fun _ z => nomatch z)) (fun z => k16.at P15 z (fun _ z => nomatch z)) z⟩
      have hr16 : LI H16 ro r0 := k16.at P15 (s15 _ _ hr13) (fun _ z => nomatch z)
      clear hE13 hpw hr13 k16 s15 nrt hrt1 nlp P15 P13 hrt hlp
      have Bs : ∀ e ∈ E, Bb 18 e := fun e he => Bd.vl fun v hv => Nat.lt_of_le_of_lt (Eb e he v hv) (by decide)
      have Br : Bb 18 r0 := Bd.vl fun v hv => Nat.lt_of_le_of_lt (rb v hv) (by decide)
      obtain ⟨y0, y1, y2, y3⟩ := sz_ok51 n4
      obtain ⟨R, _, _⟩ := rowsH_spec (E := E) (rs := r0) (n := n)
      have lH : ∀ r ∈ rowsH E r0 n, r.length = E.length + 1 + n := fun r hr => by
        unfold rowsH at hr
        obtain ⟨i, _, rfl⟩ := List.mem_map.mp hr
        exact rowH_len E r0 n i
      obtain ⟨z1, z2⟩ := spn_size lH fun r hr => by
        unfold rowsH at hr
        obtain ⟨i, _, rfl⟩ := List.mem_map.mp hr
        exact rowH_bb (b := 18) (by decide) Bs Br
      rw [rowsH_len] at z1 z2
      have z3 : ∀ f ∈ spn (rowsH E r0 n), Bb 802 f := fun f hf => (z2 f hf).mono y0
      have z4 : ∀ f ∈ spn (rowsH E r0 n), ∀ v ∈ f, v.natAbs < 2 ^ 1000 := fun f hf v hv => by
        obtain ⟨i, hi⟩ := List.mem_iff_getElem?.mp hv
        rw [← vl_get hi]
        exact Nat.lt_of_lt_of_le (z3 f hf i) (Nat.pow_le_pow_right (by decide) (by decide))
      refine ⟨pw, pr, n, 18, E, r0, rfl, hpw16, Ene, El, by omega, by omega, by omega, hpr, rl, by decide, Bs, Br, y1, y2, y3, fun G pG asc => ⟨fun z H17 g s hg pg hz => ?_, fun z H17 s nom hh => ?_⟩⟩
      · have mg := pG.mem_iff.mp hg
        have res : (∃ g ∈ spn (rowsH E r0 n), piv g = E.length ∧ g.length = E.length + 1 + n ∧ (∀ v ∈ g, v.natAbs < 2 ^ 1000) ∧ ZeroAt CZero H17 z (g.drop (E.length + 1))) := ⟨g, mg, pg, R.len g mg, z4 g mg, hz⟩
        refine ⟨_, rfl, _, rfl, _, rfl, ?_⟩
        refine ⟨w, ro, z, n, 174960, E, r0, rfl, hE16.same s, hr16.same s, by omega, by omega, by omega, by omega, rl, El, by decide, by decide, fun e he v hv => Nat.le_trans (Eb e he v hv) (by decide), rb, fac_ok51 (by omega), .inl res, fun H18 s18 => ⟨true, rfl, ?_⟩⟩
        refine iteF ?_
        exact ⟨_, _, _, _, _, _, _, _, _, _, _, rfl, (P16.same (s.trans s18)).mono (by omega)⟩
      · have st := stp_of pG nom
        have res : ∃ S, Stp E r0 n S ∧ HangsAt CHangs H17 z S E.length ∧ (∀ f ∈ S, f.length = E.length + 1 + n ∧ ∀ v ∈ f, v.natAbs < 2 ^ 1000) ∧ (∀ free, ∀ v ∈ grp S E.length free, v.natAbs < 2 ^ 4100) := ⟨_, st, hh, fun f hf => ⟨R.len f (st.mem f hf).1, z4 f (st.mem f hf).1⟩, fun free => grp_bd51 (fun f hf => R.pos f (st.mem f hf).1) (fun f hf => z3 f (st.mem f hf).1) (Nat.le_trans (List.length_filter_le _ _) (by rw [pG.length_eq]; omega)) _ free⟩
        refine ⟨_, rfl, _, rfl, _, rfl, ?_⟩
        refine ⟨w, ro, z, n, 174960, E, r0, rfl, hE16.same s, hr16.same s, by omega, by omega, by omega, by omega, rl, El, by decide, by decide, fun e he v hv => Nat.le_trans (Eb e he v hv) (by decide), rb, fac_ok51 (by omega), .inr res, fun H18 s18 => ⟨true, rfl, ?_⟩⟩
        refine iteF ?_
        exact ⟨_, _, _, _, _, _, _, _, _, _, _, rfl, (P16.same (s.trans s18)).mono (by omega)⟩
    rintro σ H1 ⟨v2, v3, v4, v5, v6, v7, v8, v9, v10, v11, v12, rfl, P1⟩
    dsimp only
    have sl1 : 1 ≤ sizeLine := by decide
    have sl2 : 2 ≤ sizeLine := by decide
    refine ⟨sl2, fun tz htz => ?_⟩
    refine fun x dx hx hdx ndx => ?_
    have e1 : tz ≠ x := fun e => by rw [e, upd_same] at hx; cases hx
    have e2 : tz ≠ dx := fun e => by rw [e, upd_same] at hdx; cases hdx
    refine ⟨x, dx, tz, [.int 1, .int 0], [.inl (.int 1), .inl (.int 0)], rfl, upd_same, .inr ?_, .cons ⟨rfl, .int _⟩ (.cons ⟨rfl, .int _⟩ .nil), (by show 2 ≤ 100; decide), fun t H2 ys k1 hx2 ht2 py => ⟨rfl, ?_⟩⟩
    · rw [upd_ne e1, upd_ne e2, upd_same]
    obtain ⟨y1, y2, rfl, rfl, rfl⟩ : ∃ y1 y2, ys = [y1, y2] ∧ y1 = V.int 1 ∧ y2 = V.int 0 := by
      cases py with
      | cons h1 pr => cases pr with
        | cons h2 pr => cases pr with
          | nil => exact ⟨_, _, rfl, h1, h2⟩
    clear k1 htz hx hdx ndx e1 e2
    refine ⟨sl1, fun a1 ha1 => ?_⟩
    have na1 := AL.Same.new (o := .tup [V.str "fixed"]) ha1
    have qa1 : upd H2 a1 (.tup [V.str "fixed"]) a1 = some _ := upd_same
    generalize upd H2 a1 (.tup [V.str "fixed"]) = J1 at na1 qa1 ⊢
    replace hx2 := na1 _ _ hx2
    replace ht2 := na1 _ _ ht2
    refine ⟨sl2, fun i2 hi2 => ?_⟩
    have ni2 := AL.Same.new (o := .tup [.int 1, .int 2]) hi2
    have qi2 : upd J1 i2 (.tup [.int 1, .int 2]) i2 = some _ := upd_same
    generalize upd J1 i2 (.tup [.int 1, .int 2]) = J2 at ni2 qi2 ⊢
    replace hx2 := ni2 _ _ hx2
    replace ht2 := ni2 _ _ ht2
    replace qa1 := ni2 _ _ qa1
    refine ⟨sl1, fun a2 ha2 => ?_⟩
    have na2 := AL.Same.new (o := .tup [.ref i2]) ha2
    have qa2 : upd J2 a2 (.tup [.ref i2]) a2 = some _ := upd_same
    generalize upd J2 a2 (.tup [.ref i2]) = J3 at na2 qa2 ⊢
    replace hx2 := na2 _ _ hx2
    replace ht2 := na2 _ _ ht2
    replace qa1 := na2 _ _ qa1
    replace qi2 := na2 _ _ qi2
    refine ⟨sl1, fun a3 ha3 => ?_⟩
    have na3 := AL.Same.new (o := .tup [V.non]) ha3
    have qa3 : upd J3 a3 (.tup [V.non]) a3 = some _ := upd_same
    generalize upd J3 a3 (.tup [V.non]) = J4 at na3 qa3 ⊢
    replace hx2 := na3 _ _ hx2
    replace ht2 := na3 _ _ ht2
    replace qa1 := na3 _ _ qa1
    replace qi2 := na3 _ _ qi2
    replace qa2 := na3 _ _ qa2
    refine ⟨sl1, fun i4 hi4 => ?_⟩
    have ni4 := AL.Same.new (o := .tup [.int 3]) hi4
    have qi4 : upd J4 i4 (.tup [.int 3]) i4 = some _ := upd_same
    generalize upd J4 i4 (.tup [.int 3]) = J5 at ni4 qi4 ⊢
    replace hx2 := ni4 _ _ hx2
    replace ht2 := ni4 _ _ ht2
    replace qa1 := ni4 _ _ qa1
    replace qi2 := ni4 _ _ qi2
    replace qa2 := ni4 _ _ qa2
    replace qa3 := ni4 _ _ qa3
    refine ⟨sl1, fun a4 ha4 => ?_⟩
    have na4 := AL.Same.new (o := .tup [.ref i4]) ha4
    have qa4 : upd J5 a4 (.tup [.ref i4]) a4 = some _ := upd_same
    generalize upd J5 a4 (.tup [.ref i4]) = J6 at na4 qa4 ⊢
    replace hx2 := na4 _ _ hx2
    replace ht2 := na4 _ _ ht2
    replace qa1 := na4 _ _ qa1
    replace qi2 := na4 _ _ qi2
    replace qa2 := na4 _ _ qa2
    replace qa3 := na4 _ _ qa3
    replace qi4 := na4 _ _ qi4
    refine fun x2 dx2 hx3 hdx3 ndx3 => ?_
    have SS : Same J6 (upd (upd J6 dx2 (.own x2)) x2 (.ins CHangs dx2 [])) := (AL.Same.new hdx3).trans (AL.Same.new (by rw [upd_ne (Ne.symm ndx3)]; exact hx3))
    have qz : upd (upd J6 dx2 (.own x2)) x2 (.ins CHangs dx2 []) x2 = some (.ins CHangs dx2 []) := upd_same
    generalize upd (upd J6 dx2 (.own x2)) x2 (.ins CHangs dx2 []) = J7 at SS qz ⊢
    replace hx2 := SS _ _ hx2
    replace ht2 := SS _ _ ht2
    replace qa1 := SS _ _ qa1
    replace qi2 := SS _ _ qi2
    replace qa2 := SS _ _ qa2
    replace qa3 := SS _ _ qa3
    replace qi4 := SS _ _ qi4
    replace qa4 := SS _ _ qa4
    refine ⟨x2, dx2, a1, a2, a3, a4, [V.str "fixed"], [.ref i2], [V.non], [.ref i4], [.inl (V.str "fixed")], [.inr [.int 1, .int 2]], [.inl V.non], [.inr [.int 3]], rfl, qz, .inr qa1, .inr qa2, .inr qa3, .inr qa4, .cons ⟨rfl, .str _⟩ .nil, .cons ⟨i2, rfl, .inr qi2, by show 2 ≤ 100; decide, ?_⟩ .nil, .cons ⟨rfl, .non⟩ .nil, .cons ⟨i4, rfl, .inr qi4, by show 1 ≤ 100; decide, ?_⟩ .nil, by show 1 ≤ 100; decide, by show 1 ≤ 100; decide, by show 1 ≤ 100; decide, by show 1 ≤ 100; decide, fun t1 t2 t3 t4 J8 y1 y2 y3 y4 kk hz8 ht1 ht3 ht4 ht5 p1 p2 p3 p4 => ⟨rfl, ?_⟩⟩
    · exact atomI [1, 2]
    · exact atomI [3]
    have xx : x ≠ x2 := fun e => by rw [e, qz] at hx2; cases hx2
    have tx : t ≠ x2 := fun e => by rw [e, qz] at ht2; cases ht2
    replace hx2 := kk _ _ xx hx2
    replace ht2 := kk _ _ tx ht2
    obtain ⟨v1, rfl, rfl⟩ : ∃ v, y1 = [v] ∧ v = V.str "fixed" := by
      cases p1 with
      | cons h pr => cases pr with
        | nil => exact ⟨_, rfl, h⟩
    obtain ⟨v2, rfl, j2, rfl, hj2⟩ : ∃ v, y2 = [v] ∧ ∃ t, v = .ref t ∧ J8 t = some (.tup [.int 1, .int 2]) := by
      cases p2 with
      | cons h pr => cases pr with
        | nil => exact ⟨_, rfl, h⟩
    obtain ⟨v3, rfl, rfl⟩ : ∃ v, y3 = [v] ∧ v = V.non := by
      cases p3 with
      | cons h pr => cases pr with
        | nil => exact ⟨_, rfl, h⟩
    obtain ⟨v4, rfl, j4, rfl, hj4⟩ : ∃ v, y4 = [v] ∧ ∃ t, v = .ref t ∧ J8 t = some (.tup [.int 3]) := by
      cases p4 with
      | cons h pr => cases pr with
        | nil => exact ⟨_, rfl, h⟩
    refine ⟨_, _, rfl, ?_⟩
    dsimp only
    refine ⟨_, rfl, x, _, dx, _, _, rfl, hx2, Es.clZ, Es.zC, rfl, _, rfl, x2, _, dx2, _, _, rfl, hz8, Es.clH, Es.hK, rfl, _, rfl, x2, _, dx2, _, _, rfl, hz8, Es.clH, Es.hP, rfl, _, rfl, x2, _, dx2, _, _, rfl, hz8, Es.clH, Es.hG, rfl, _, rfl, x2, _, dx2, _, _, rfl, hz8, Es.clH, Es.hC, rfl, (by show 5 ≤ sizeLine; decide), fun m hm => ?_⟩
    have nm := AL.Same.new (o := .tup [.ref t, .ref t1, .ref t2, .ref t3, .ref t4]) hm
    have qm : upd J8 m (.tup [.ref t, .ref t1, .ref t2, .ref t3, .ref t4]) m = some _ := upd_same
    generalize upd J8 m (.tup [.ref t, .ref t1, .ref t2, .ref t3, .ref t4]) = J9 at nm qm ⊢
    replace ht2 := nm _ _ ht2
    replace ht1 := nm _ _ ht1
    replace ht3 := nm _ _ ht3
    replace ht4 := nm _ _ ht4
    replace ht5 := nm _ _ ht5
    replace hj2 := nm _ _ hj2
    replace hj4 := nm _ _ hj4
    refine ⟨_, rfl, ?_⟩
    dsimp only
    refine ⟨sl2, fun b1 hb1 => ?_⟩
    have nb1 := AL.Same.new (o := .tup [.int 1, .int 0]) hb1
    have qb1 : upd J9 b1 (.tup [.int 1, .int 0]) b1 = some _ := upd_same
    generalize upd J9 b1 (.tup [.int 1, .int 0]) = G1 at nb1 qb1 ⊢
    replace ht2 := nb1 _ _ ht2
    replace ht1 := nb1 _ _ ht1
    replace ht3 := nb1 _ _ ht3
    replace ht4 := nb1 _ _ ht4
    replace ht5 := nb1 _ _ ht5
    replace hj2 := nb1 _ _ hj2
    replace hj4 := nb1 _ _ hj4
    replace qm := nb1 _ _ qm
    refine ⟨sl1, fun b2 hb2 => ?_⟩
    have nb2 := AL.Same.new (o := .tup [.str "fixed"]) hb2
    have qb2 : upd G1 b2 (.tup [.str "fixed"]) b2 = some _ := upd_same
    generalize upd G1 b2 (.tup [.str "fixed"]) = G2 at nb2 qb2 ⊢
    replace ht2 := nb2 _ _ ht2
    replace ht1 := nb2 _ _ ht1
    replace ht3 := nb2 _ _ ht3
    replace ht4 := nb2 _ _ ht4
    replace ht5 := nb2 _ _ ht5
    replace hj2 := nb2 _ _ hj2
    replace hj4 := nb2 _ _ hj4
    replace qm := nb2 _ _ qm
    replace qb1 := nb2 _ _ qb1
    refine ⟨sl2, fun c3 hc3 => ?_⟩
    have nc3 := AL.Same.new (o := .tup [.int 1, .int 2]) hc3
    have qc3 : upd G2 c3 (.tup [.int 1, .int 2]) c3 = some _ := upd_same
    generalize upd G2 c3 (.tup [.int 1, .int 2]) = G3 at nc3 qc3 ⊢
    replace ht2 := nc3 _ _ ht2
    replace ht1 := nc3 _ _ ht1
    replace ht3 := nc3 _ _ ht3
    replace ht4 := nc3 _ _ ht4
    replace ht5 := nc3 _ _ ht5
    replace hj2 := nc3 _ _ hj2
    replace hj4 := nc3 _ _ hj4
    replace qm := nc3 _ _ qm
    replace qb1 := nc3 _ _ qb1
    replace qb2 := nc3 _ _ qb2
    refine ⟨sl1, fun b3 hb3 => ?_⟩
    have nb3 := AL.Same.new (o := .tup [.ref c3]) hb3
    have qb3 : upd G3 b3 (.tup [.ref c3]) b3 = some _ := upd_same
    generalize upd G3 b3 (.tup [.ref c3]) = G4 at nb3 qb3 ⊢
    replace ht2 := nb3 _ _ ht2
    replace ht1 := nb3 _ _ ht1
    replace ht3 := nb3 _ _ ht3
    replace ht4 := nb3 _ _ ht4
    replace ht5 := nb3 _ _ ht5
    replace hj2 := nb3 _ _ hj2
    replace hj4 := nb3 _ _ hj4
    replace qm := nb3 _ _ qm
    replace qb1 := nb3 _ _ qb1
    replace qb2 := nb3 _ _ qb2
    replace qc3 := nb3 _ _ qc3
    refine ⟨sl1, fun b4 hb4 => ?_⟩
    have nb4 := AL.Same.new (o := .tup [V.non]) hb4
    have qb4 : upd G4 b4 (.tup [V.non]) b4 = some _ := upd_same
    generalize upd G4 b4 (.tup [V.non]) = G5 at nb4 qb4 ⊢
    replace ht2 := nb4 _ _ ht2
    replace ht1 := nb4 _ _ ht1
    replace ht3 := nb4 _ _ ht3
    replace ht4 := nb4 _ _ ht4
    replace ht5 := nb4 _ _ ht5
    replace hj2 := nb4 _ _ hj2
    replace hj4 := nb4 _ _ hj4
    replace qm := nb4 _ _ qm
    replace qb1 := nb4 _ _ qb1
    replace qb2 := nb4 _ _ qb2
    replace qc3 := nb4 _ _ qc3
    replace qb3 := nb4 _ _ qb3
    refine ⟨sl1, fun c5 hc5 => ?_⟩
    have nc5 := AL.Same.new (o := .tup [.int 3]) hc5
    have qc5 : upd G5 c5 (.tup [.int 3]) c5 = some _ := upd_same
    generalize upd G5 c5 (.tup [.int 3]) = G6 at nc5 qc5 ⊢
    replace ht2 := nc5 _ _ ht2
    replace ht1 := nc5 _ _ ht1
    replace ht3 := nc5 _ _ ht3
    replace ht4 := nc5 _ _ ht4
    replace ht5 := nc5 _ _ ht5
    replace hj2 := nc5 _ _ hj2
    replace hj4 := nc5 _ _ hj4
    replace qm := nc5 _ _ qm
    replace qb1 := nc5 _ _ qb1
    replace qb2 := nc5 _ _ qb2
    replace qc3 := nc5 _ _ qc3
    replace qb3 := nc5 _ _ qb3
    replace qb4 := nc5 _ _ qb4
    refine ⟨sl1, fun b5 hb5 => ?_⟩
    have nb5 := AL.Same.new (o := .tup [.ref c5]) hb5
    have qb5 : upd G6 b5 (.tup [.ref c5]) b5 = some _ := upd_same
    generalize upd G6 b5 (.tup [.ref c5]) = G7 at nb5 qb5 ⊢
    replace ht2 := nb5 _ _ ht2
    replace ht1 := nb5 _ _ ht1
    replace ht3 := nb5 _ _ ht3
    replace ht4 := nb5 _ _ ht4
    replace ht5 := nb5 _ _ ht5
    replace hj2 := nb5 _ _ hj2
    replace hj4 := nb5 _ _ hj4
    replace qm := nb5 _ _ qm
    replace qb1 := nb5 _ _ qb1
    replace qb2 := nb5 _ _ qb2
    replace qc3 := nb5 _ _ qc3
    replace qb3 := nb5 _ _ qb3
    replace qb4 := nb5 _ _ qb4
    replace qc5 := nb5 _ _ qc5
    refine ⟨(by show 5 ≤ sizeLine; decide), fun b6 hb6 => ?_⟩
    have nb6 := AL.Same.new (o := .tup [.ref b1, .ref b2, .ref b3, .ref b4, .ref b5]) hb6
    have qb6 : upd G7 b6 (.tup [.ref b1, .ref b2, .ref b3, .ref b4, .ref b5]) b6 = some _ := upd_same
    generalize upd G7 b6 (.tup [.ref b1, .ref b2, .ref b3, .ref b4, .ref b5]) = G8 at nb6 qb6 ⊢
    replace ht2 := nb6 _ _ ht2
    replace ht1 := nb6 _ _ ht1
    replace ht3 := nb6 _ _ ht3
    replace ht4 := nb6 _ _ ht4
    replace ht5 := nb6 _ _ ht5
    replace hj2 := nb6 _ _ hj2
    replace hj4 := nb6 _ _ hj4
    replace qm := nb6 _ _ qm
    replace qb1 := nb6 _ _ qb1
    replace qb2 := nb6 _ _ qb2
    replace qc3 := nb6 _ _ qc3
    replace qb3 := nb6 _ _ qb3
    replace qb4 := nb6 _ _ qb4
    replace qc5 := nb6 _ _ qc5
    replace qb5 := nb6 _ _ qb5
    have D1 : ∀ {u a1 a2 a3 a4 a5 j2 j4 : Addr}, G8 u = some (.tup [.ref a1, .ref a2, .ref a3, .ref a4, .ref a5]) → G8 a1 = some (.tup [.int 1, .int 0]) → G8 a2 = some (.tup [.str "fixed"]) → G8 a3 = some (.tup [.ref j2]) → G8 a4 = some (.tup [V.non]) → G8 a5 = some (.tup [.ref j4]) → G8 j2 = some (.tup [.int 1, .int 2]) → G8 j4 = some (.tup [.int 3]) → Dp K G8 (.ref u) (.tuple [.tuple [.int 1, .int 0], .tuple [.str "fixed"], .tuple [.tuple [.int 1, .int 2]], .tuple [.none], .tuple [.tuple [.int 3]]]) := fun u0 u1 u2 u3 u4 u5 u6 u7 =>
      .tup (SqT.of u0) (.cons (.tup (SqT.of u1) (.cons (.int _) (.cons (.int _) .nil))) (.cons (.tup (SqT.of u2) (.cons (.str _) .nil)) (.cons (.tup (SqT.of u3) (.cons (.tup (SqT.of u6) (.cons (.int _) (.cons (.int _) .nil))) .nil)) (.cons (.tup (SqT.of u4) (.cons .non .nil)) (.cons (.tup (SqT.of u5) (.cons (.tup (SqT.of u7) (.cons (.int _) .nil)) .nil)) .nil)))))
    have sh1 : SeqAt.shaped (.tuple [.tuple [.int 1, .int 0], .tuple [.str "fixed"], .tuple [.tuple [.int 1, .int 2]], .tuple [.none], .tuple [.tuple [.int 3]]]) = true := by decide +kernel
    refine ⟨_, _, D1 qm ht2 ht1 ht3 ht4 ht5 hj2 hj4, D1 qb6 qb1 qb2 qb3 qb4 qb5 qc3 qc5, sh1, sh1, ?_⟩
    rw [SeqAt.eqv_refl _ (SeqAt.canLay_of_shaped sh1)]
    exact q G8
end
end AL
set_option Elab.async false
set_option maxRecDepth 100000
set_option maxHeartbeats 2000000
/-! The end of a law that makes lambdas, and whose defs ask repr. -/
namespace AL
open PySem PySem.Spec PyProof.Rows L2 LamX
/-- the heap at the entry: the script, locked, and the empty tables of the defs that make lambdas -/
def tabH (K : PySem.W.Frag) (a : Addr) (us : List Value) (ns : List Int) (Ts : List Addr) : Hp := fun b => if b ∈ Ts then some (.tbl #[]) else scrH K a us ns b
theorem tabH_in {K : PySem.W.Frag} {a b : Addr} {us : List Value} {ns : List Int} {Ts : List Addr} (h : b ∈ Ts) : tabH K a us ns Ts b = some (.tbl #[]) := if_pos h
theorem tabH_out {K : PySem.W.Frag} {a b : Addr} {us : List Value} {ns : List Int} {Ts : List Addr} (h : b ∉ Ts) : tabH K a us ns Ts b = scrH K a us ns b := if_neg h
theorem lawGT {P : Program} {w : World} {K : PySem.W.Frag} {mg mb : Str → Option Value} {CX : CXT} {k : Nat} {fa a : Addr} {cs : List (Addr × Addr)} {fd : FuncData} {x : Str} {sp : Sp} {t : Shared} {us : List Value} {ns : List Int}
    (kin : K.In t.heap) (glb : t.heap.Ns mainGlobals mg) (blt : t.heap.Ns builtinsNs mb) (boot : ∀ y : Str, y ≠ "__name__" → mb y = bootBuiltins y) (free : t.heap.NoLimit) (noG : t.gens = #[])
    (tb : ∀ p ∈ cs, t.heap.get? p.2 = some (PySem.W.tabObj #[])) (nk : ∀ p ∈ cs, K.lookup p.2 = none) (ch : ∀ p ∈ cs, PySem.W.CodeHd t.heap p.1 p.2)
    (bmn : ∃ (bm : Addr) (ob : Obj), mg "__builtins__" = some (.ref bm) ∧ bm ≠ builtinsNs ∧ t.heap.get? bm = some ob ∧ ob.cls = .type "module" ∧ ob.dict = some builtinsNs ∧ ob.data = .plain)
    (at_a : t.heap.get? a = some (scrO us)) (isI : IntsAre us ns) (short : ns.length ≤ sizeLine) (room : Room k callerA)
    (F : ∀ base : Heap, K.In base → base.Ns mainGlobals mg → (∀ p ∈ cs, TabB base mg p.1 p.2) → FnG P w K mg base CX k fa fd [x] sp) (bind : ∀ (s : Shared) (u : Value), BindsTo s fd ⟨[u], []⟩ [(x, u)])
    (wish : ∀ H : Hp, (∀ p ∈ cs, H p.2 = some (.tbl #[])) → SqL K H a (ns.map V.int) → sp [.ref a] H (fun v _ => v = .bl true) fun _ _ _ => False)
    (noX : ∀ H e s', CX [] H t (fun _ _ _ => False) e s' → False) :
    codeAny (model P w) callerA (.call (.ref fa) ⟨[.ref a], []⟩) (fun r s' => r = .ok (.ret (.bool true)) ∧ OldK t.heap s'.heap ∧ s'.os = t.os ∧ AllBare s'.gens) t := by
  have vals := vals_ints isI
  have many := isI.length
  have tabs : ∀ b : Addr, b ∈ cs.map Prod.snd → t.heap.get? b = some (PySem.W.tabObj #[]) ∧ K.lookup b = none := fun b hb => by
    obtain ⟨p, hp, rfl⟩ := List.mem_map.mp hb
    exact ⟨tb p hp, nk p hp⟩
  have here : ∀ p ∈ cs, p.2 ∈ cs.map Prod.snd := fun p hp => List.mem_map.mpr ⟨p, hp, rfl⟩
  have aOut : a ∉ cs.map Prod.snd := fun z => by
    have e := (tabs a z).1
    rw [at_a] at e
    have e2 := congrArg Obj.cls (Option.some.inj e)
    cases e2
  have isA : ∀ {b : Addr}, b = a → b ∉ cs.map Prod.snd := fun e => by rw [e]; exact aOut
  have inT : ∀ p ∈ cs, tabH K a us ns (cs.map Prod.snd) p.2 = some (.tbl #[]) := fun p hp => tabH_in (here p hp)
  have seq : SqL K (tabH K a us ns (cs.map Prod.snd)) a (ns.map V.int) := by
    cases e : K.lookup a with
    | none => exact .inl (.inr ⟨scrO us, (tabH_out aOut).trans (if_pos ⟨rfl, e⟩)⟩)
    | some o =>
      have z := kin a o e
      rw [at_a] at z
      cases z
      exact .inr ⟨_, us.toArray, _, e, rfl, rfl, rfl, by rw [List.size_toArray, many]; exact short, vals⟩
  have held : HOk P w (tabH K a us ns (cs.map Prod.snd)) t.heap := fun b u e => by
    by_cases m : b ∈ cs.map Prod.snd
    · rw [tabH_in m] at e
      cases e
      exact (tabs b m).1
    · rw [tabH_out m] at e
      obtain ⟨rfl, _, rfl⟩ := scrH_some e
      exact ⟨at_a, by rw [List.length_map]; exact short, us, _, vals, at_a⟩
  -- what is neither the script nor a table is not tracked
  have bare0 : ∀ {b : Addr} {o : Obj}, t.heap.get? b = some o → (∀ vs n, o.data ≠ .seq vs n) → o.data ≠ .fields #[] → tabH K a us ns (cs.map Prod.snd) b = none := by
    intro b o e1 e2 e3
    by_cases m : b ∈ cs.map Prod.snd
    · rw [(tabs b m).1] at e1
      cases e1
      exact (e3 rfl).elim
    · rw [tabH_out m]
      cases e : scrH K a us ns b with
      | none => rfl
      | some u =>
        obtain ⟨rfl, _, _⟩ := scrH_some e
        rw [at_a] at e1
        cases e1
        exact (e2 _ _ rfl).elim
  have dict0 : ∀ {b : Addr} {o : Obj} {es : Array DictEntry} {n : Nat}, t.heap.get? b = some o → o.data = .dict es n → tabH K a us ns (cs.map Prod.snd) b = none := fun {b o es n} e1 e2 =>
    bare0 e1 (fun vs m z => by rw [e2] at z; cases z) fun z => by rw [e2] at z; cases z
  have ns_of : ∀ {b : Addr} {m : Str → Option Value}, t.heap.Ns b m → (hidT t.heap (tabH K a us ns (cs.map Prod.snd))).Ns b m := by
    rintro b m ⟨o, es, n, e1, e2, r⟩
    exact ⟨o, es, n, hidT_get e1 (dict0 e1 e2), e2, r⟩
  have kin' : K.In (hidT t.heap (tabH K a us ns (cs.map Prod.snd))) := fun b o e => hidT_get (kin b o e) (by
    by_cases m : b ∈ cs.map Prod.snd
    · rw [(tabs b m).2] at e; cases e
    · rw [tabH_out m]
      cases z : scrH K a us ns b with
      | none => rfl
      | some u =>
        obtain ⟨rfl, n, _⟩ := scrH_some z
        rw [n] at e
        cases e)
  have modl : Mod K mg (hidT t.heap (tabH K a us ns (cs.map Prod.snd))) := by
    obtain ⟨mc, f1, f2⟩ := free
    exact ⟨kin', ns_of glb, ⟨mb, ns_of blt, boot⟩, ⟨mc, ns_of f1, f2⟩⟩
  have apart : ∀ p ∈ cs, ∀ {b : Addr} {o : Obj}, t.heap.get? b = some o → o.cls ≠ .none → b ≠ p.2 := fun p hp b o e c z => by
    rw [z, tb p hp] at e
    cases e
    exact c rfl
  have tabB : ∀ p ∈ cs, TabB (hidT t.heap (tabH K a us ns (cs.map Prod.snd))) mg p.1 p.2 := fun p hp => by
    refine ⟨?_, ?_, ?_⟩
    · obtain ⟨o, vs, file, tf, flags, tg, inF, text, tt, g1, g2, g3, g4, g5⟩ := ch p hp
      refine ⟨o, vs, file, tf, flags, tg, inF, text, tt, hidT_get g1 (bare0 g1 (fun w n z => by rw [g3] at z; cases z) fun z => ?_), g2, g3, g4, g5⟩
      rw [g3] at z
      injection z with z
      rw [z] at g4
      simp at g4
    · obtain ⟨bm, ob, m1, m2, m3, m4, m5, m6⟩ := bmn
      refine ⟨bm, ob, m1, m2, fun z => ?_, apart p hp m3 (by rw [m4]; intro z; cases z), hidT_get m3 (bare0 m3 (fun w n z => by rw [m6] at z; cases z) fun z => by rw [m6] at z; cases z), m4, m5, m6⟩
      obtain ⟨o, es, n, e1, e2, _⟩ := glb
      rw [z, e1] at m3
      cases m3
      rw [e2] at m6
      cases m6
    · obtain ⟨o, es, n, e1, e2, _⟩ := glb
      intro z
      rw [z, tb p hp] at e1
      cases e1
      cases e2
  have env0 : Env0 P w K mg (hidT t.heap (tabH K a us ns (cs.map Prod.snd))) callerA [] t (tabH K a us ns (cs.map Prod.snd)) :=
    ⟨rfl, modl, fun b o z => of_hidT z, Nat.le_of_eq (hidT_size _ _), trivial, fun b z => absurd (show b ∈ ([] : List Addr) from z) (by simp), held, .of_eq noG⟩
  refine codeAny_mono ((F _ kin' (ns_of glb) tabB).run callerA [] t _ ⟨[.ref a], []⟩ [.ref a] [.ref a] _ _ rfl room env0 (bind t (.ref a)) (.cons rfl .nil) (wish _ inT seq)) fun r s' z => ?_
  cases r with
  | error e => exact (noX _ e s' z).elim
  | ok fl =>
    cases fl with
    | next => exact z.elim
    | brk => exact z.elim
    | cont => exact z.elim
    | ret u =>
      obtain ⟨v, H', os, bare, un, held', rv, q⟩ := z
      cases (show v = .bl true from q)
      cases (show u = Value.bool true from rv)
      have kept : ∀ b o, b ∉ cs.map Prod.snd → t.heap.get? b = some o → s'.heap.get? b = some o := fun b o nb e => by
        cases c : scrH K a us ns b with
        | none => exact un.keep b o e ((tabH_out nb).trans c) (fun z => absurd (show b ∈ ([] : List Addr) from z) (by simp)) (by simp)
        | some u2 =>
          obtain ⟨rfl, _, rfl⟩ := scrH_some c
          obtain ⟨e2, _⟩ := held' _ _ (un.frzs _ _ _ ((tabH_out nb).trans c))
          rw [at_a] at e
          cases e
          exact e2
      have more : ∀ p ∈ cs, ∃ ps : Array Value, s'.heap.get? p.2 = some (PySem.W.tabObj (#[] ++ ps)) := fun p hp => by
        obtain ⟨ps, z⟩ := un.tbls p.2 #[] (inT p hp)
        exact ⟨ps, held' p.2 _ z⟩
      refine ⟨rfl, ⟨fun b o e => ?_, fun b o e => ?_⟩, os, bare⟩
      · by_cases m : b ∈ cs.map Prod.snd
        · obtain ⟨p, hp, rfl⟩ := List.mem_map.mp m
          obtain ⟨ps, hps⟩ := more p hp
          rw [tb p hp] at e
          cases e
          exact .inr (.inl ⟨((ch p hp).tab (tb p hp)).isCodeTable, rfl, #[], ps, rfl, hps⟩)
        · exact .inl (kept b o m e)
      · by_cases m : b ∈ cs.map Prod.snd
        · obtain ⟨p, hp, rfl⟩ := List.mem_map.mp m
          obtain ⟨ps, hps⟩ := more p hp
          exact ⟨_, hps⟩
        · exact ⟨o, kept b o m e⟩
/-- a law's promise, its code objects and tables told by numbers -/
theorem walkGT {l : PySem.W.OpenLaw} {n k : Nat} {q : Program} {loose : List Str} {XP : (Str → Option Value) → Heap → Prop} {YP : World → Heap → Prop} {d : DefRec} {K : Params → PySem.W.Frag} {sp : PySem.W.Frag → List (Addr × Addr) → Sp} {x : Str}
    (most : l.most = some n) (few : n ≤ sizeLine) (plain : d.params.defaults = []) (room : Room k callerA) (ky : ∀ (w : World) (h : Heap), YP w h → (K w.params).In h)
    (F : ∀ (w : World) (mg : Str → Option Value) (fa : Addr) (h : Heap), YP w h → (K w.params).In h → h.Ns mainGlobals mg → mg d.name = some (.ref fa) → ∃ (fd : FuncData) (cs : List (Addr × Addr)), (∀ p ∈ cs, h.get? p.2 = some (PySem.W.tabObj #[])) ∧ (∀ p ∈ cs, (K w.params).lookup p.2 = none) ∧ (∀ p ∈ cs, PySem.W.CodeHd h p.1 p.2) ∧ (∀ (s : Shared) (u : Value), BindsTo s fd ⟨[u], []⟩ [(x, u)]) ∧
      ∀ base : Heap, (K w.params).In base → base.Ns mainGlobals mg → (∀ p ∈ cs, TabB base mg p.1 p.2) → FnG l.prog w (K w.params) mg base CX0 k fa fd [x] (sp (K w.params) cs))
    (wish : ∀ (K : PySem.W.Frag) (cs : List (Addr × Addr)) (H : Hp) (a : Addr) (ns : List Int), ns.length ≤ n → (∀ p ∈ cs, H p.2 = some (.tbl #[])) → SqL K H a (ns.map V.int) → sp K cs [.ref a] H (fun v _ => v = .bl true) fun _ _ _ => False) :
    PySem.W.WalkO q loose XP YP l.row.toRowW d [] (fun f vs => PySem.call f vs) := by
  refine Att.attach_callB most plain ?_
  intro w s0 t mg mb fa o pm cd doc a us ns G Y ho hd hcd hmg at_a isI many _ noG
  obtain ⟨fd, cs, t1, t2, t3, bind, ok⟩ := F w mg fa _ Y (ky w _ Y) G.T.g hmg
  exact lawGT (ky w _ Y) G.T.g G.T.b G.T.builtins G.T.nolimit noG t1 t2 t3 G.T.bmain at_a isI (Nat.le_trans many few) room ok bind (fun H o1 o2 => wish (K w.params) cs H a ns many o1 o2) fun _ _ _ z => z.elim
end AL
set_option Elab.async false
set_option maxRecDepth 100000
set_option exponentiation.threshold 70000
set_option maxHeartbeats 2000000
namespace AL
open PySem PySem.Spec PyProof.Rows L2 RZ
theorem all_mk {l : PySem.W.OpenLaw} {w : World} {K : PySem.W.Frag} {h : Heap} {mg : Str → Option Value} {CZero CHangs f_law_pen f_law_draw f_law_pick fpivot_of fcombined fidentity ftransposed f_law_turned fprimitive fwithout_item fcleared fspan_of fis_list fis_whole fare_integers fis_matrix fcheck_matrix fcheck_exponents fas_tuples0 fas_tuples1 fas_tuples flowest fcommon_bottom fwhole_row fleast_multiple fletter_groups fZ_init fH_init fhangs f_law_gcd f_law_q f_law_inner f_law_rank f_law_is_whole f_law_is_ratio f_law_unit_of f_law_is_group f_law_matrix f_law_exponents f_law_is_change f_law_in_span f_law_letter_right f_law_right flaw fa : Addr} (X : K.In h) (G : h.Ns mainGlobals mg) (hfa : mg "law" = some (.ref fa))
    {oc_law_pen kV_law_pen dc_law_pen pm_law_pen cd_law_pen ct_law_pen : Value} {od_law_pen an_law_pen : Option Addr} {sl_law_pen : Array (Option Value)}
    {oc_law_draw kV_law_draw dc_law_draw pm_law_draw cd_law_draw ct_law_draw : Value} {od_law_draw an_law_draw : Option Addr} {sl_law_draw : Array (Option Value)}
    {oc_law_pick kV_law_pick dc_law_pick pm_law_pick cd_law_pick ct_law_pick : Value} {od_law_pick an_law_pick : Option Addr} {sl_law_pick : Array (Option Value)}
    {ocpivot_of kVpivot_of dcpivot_of pmpivot_of cdpivot_of ctpivot_of : Value} {odpivot_of anpivot_of : Option Addr} {slpivot_of : Array (Option Value)}
    {occombined kVcombined dccombined pmcombined cdcombined ctcombined : Value} {odcombined ancombined : Option Addr} {slcombined : Array (Option Value)}
    {ocidentity kVidentity dcidentity pmidentity cdidentity ctidentity : Value} {odidentity anidentity : Option Addr} {slidentity : Array (Option Value)}
    {octransposed kVtransposed dctransposed pmtransposed cdtransposed cttransposed : Value} {odtransposed antransposed : Option Addr} {sltransposed : Array (Option Value)}
    {oc_law_turned kV_law_turned dc_law_turned pm_law_turned cd_law_turned ct_law_turned : Value} {od_law_turned an_law_turned : Option Addr} {sl_law_turned : Array (Option Value)}
    {ocprimitive kVprimitive dcprimitive pmprimitive cdprimitive ctprimitive : Value} {odprimitive anprimitive : Option Addr} {slprimitive : Array (Option Value)}
    {ocwithout_item kVwithout_item dcwithout_item pmwithout_item cdwithout_item ctwithout_item : Value} {odwithout_item anwithout_item : Option Addr} {slwithout_item : Array (Option Value)}
    {occleared kVcleared dccleared pmcleared cdcleared ctcleared : Value} {odcleared ancleared : Option Addr} {slcleared : Array (Option Value)}
    {ocspan_of kVspan_of dcspan_of pmspan_of cdspan_of ctspan_of : Value} {odspan_of anspan_of : Option Addr} {slspan_of : Array (Option Value)}
    {ocis_list kVis_list dcis_list pmis_list cdis_list ctis_list : Value} {odis_list anis_list : Option Addr} {slis_list : Array (Option Value)}
    {ocis_whole kVis_whole dcis_whole pmis_whole cdis_whole ctis_whole : Value} {odis_whole anis_whole : Option Addr} {slis_whole : Array (Option Value)}
    {ocare_integers kVare_integers dcare_integers pmare_integers cdare_integers ctare_integers : Value} {odare_integers anare_integers : Option Addr} {slare_integers : Array (Option Value)}
    {ocis_matrix kVis_matrix dcis_matrix pmis_matrix cdis_matrix ctis_matrix : Value} {odis_matrix anis_matrix : Option Addr} {slis_matrix : Array (Option Value)}
    {occheck_matrix tccheck_matrix kVcheck_matrix dccheck_matrix pmcheck_matrix cdcheck_matrix ctcheck_matrix : Value} {odcheck_matrix ancheck_matrix : Option Addr} {slcheck_matrix : Array (Option Value)} {Tcheck_matrix : Addr} {tvcheck_matrix : Tok} {tdcheck_matrix : Option Addr} {tncheck_matrix : Nat} {tscheck_matrix : Array (Option Value)}
    {occheck_exponents kVcheck_exponents dccheck_exponents pmcheck_exponents cdcheck_exponents ctcheck_exponents : Value} {odcheck_exponents ancheck_exponents : Option Addr} {slcheck_exponents : Array (Option Value)}
    {ocas_tuples0 kVas_tuples0 dcas_tuples0 pmas_tuples0 cdas_tuples0 ctas_tuples0 : Value} {odas_tuples0 anas_tuples0 : Option Addr} {slas_tuples0 : Array (Option Value)}
    {ocas_tuples1 kVas_tuples1 dcas_tuples1 pmas_tuples1 cdas_tuples1 ctas_tuples1 : Value} {odas_tuples1 anas_tuples1 : Option Addr} {slas_tuples1 : Array (Option Value)}
    {ocas_tuples kVas_tuples dcas_tuples pmas_tuples cdas_tuples ctas_tuples : Value} {odas_tuples anas_tuples : Option Addr} {slas_tuples : Array (Option Value)}
    {oclowest kVlowest dclowest pmlowest cdlowest ctlowest : Value} {odlowest anlowest : Option Addr} {sllowest : Array (Option Value)}
    {occommon_bottom kVcommon_bottom dccommon_bottom pmcommon_bottom cdcommon_bottom ctcommon_bottom : Value} {odcommon_bottom ancommon_bottom : Option Addr} {slcommon_bottom : Array (Option Value)}
    {ocwhole_row kVwhole_row dcwhole_row pmwhole_row cdwhole_row ctwhole_row : Value} {odwhole_row anwhole_row : Option Addr} {slwhole_row : Array (Option Value)}
    {ocleast_multiple kVleast_multiple dcleast_multiple pmleast_multiple cdleast_multiple ctleast_multiple : Value} {odleast_multiple anleast_multiple : Option Addr} {slleast_multiple : Array (Option Value)}
    {ocletter_groups kVletter_groups dcletter_groups pmletter_groups cdletter_groups ctletter_groups : Value} {odletter_groups anletter_groups : Option Addr} {slletter_groups : Array (Option Value)}
    {ocZ_init kVZ_init dcZ_init pmZ_init cdZ_init ctZ_init : Value} {odZ_init anZ_init : Option Addr} {slZ_init : Array (Option Value)}
    {ocH_init kVH_init dcH_init pmH_init cdH_init ctH_init : Value} {odH_init anH_init : Option Addr} {slH_init : Array (Option Value)}
    {ochangs kVhangs dchangs pmhangs cdhangs cthangs : Value} {odhangs anhangs : Option Addr} {slhangs : Array (Option Value)}
    {oc_law_gcd kV_law_gcd dc_law_gcd pm_law_gcd cd_law_gcd ct_law_gcd : Value} {od_law_gcd an_law_gcd : Option Addr} {sl_law_gcd : Array (Option Value)}
    {oc_law_q kV_law_q dc_law_q pm_law_q cd_law_q ct_law_q : Value} {od_law_q an_law_q : Option Addr} {sl_law_q : Array (Option Value)}
    {oc_law_inner kV_law_inner dc_law_inner pm_law_inner cd_law_inner ct_law_inner : Value} {od_law_inner an_law_inner : Option Addr} {sl_law_inner : Array (Option Value)}
    {oc_law_rank kV_law_rank dc_law_rank pm_law_rank cd_law_rank ct_law_rank : Value} {od_law_rank an_law_rank : Option Addr} {sl_law_rank : Array (Option Value)}
    {oc_law_is_whole kV_law_is_whole dc_law_is_whole pm_law_is_whole cd_law_is_whole ct_law_is_whole : Value} {od_law_is_whole an_law_is_whole : Option Addr} {sl_law_is_whole : Array (Option Value)}
    {oc_law_is_ratio kV_law_is_ratio dc_law_is_ratio pm_law_is_ratio cd_law_is_ratio ct_law_is_ratio : Value} {od_law_is_ratio an_law_is_ratio : Option Addr} {sl_law_is_ratio : Array (Option Value)}
    {oc_law_unit_of kV_law_unit_of dc_law_unit_of pm_law_unit_of cd_law_unit_of ct_law_unit_of : Value} {od_law_unit_of an_law_unit_of : Option Addr} {sl_law_unit_of : Array (Option Value)}
    {oc_law_is_group kV_law_is_group dc_law_is_group pm_law_is_group cd_law_is_group ct_law_is_group : Value} {od_law_is_group an_law_is_group : Option Addr} {sl_law_is_group : Array (Option Value)}
    {oc_law_matrix kV_law_matrix dc_law_matrix pm_law_matrix cd_law_matrix ct_law_matrix : Value} {od_law_matrix an_law_matrix : Option Addr} {sl_law_matrix : Array (Option Value)}
    {oc_law_exponents kV_law_exponents dc_law_exponents pm_law_exponents cd_law_exponents ct_law_exponents : Value} {od_law_exponents an_law_exponents : Option Addr} {sl_law_exponents : Array (Option Value)}
    {oc_law_is_change kV_law_is_change dc_law_is_change pm_law_is_change cd_law_is_change ct_law_is_change : Value} {od_law_is_change an_law_is_change : Option Addr} {sl_law_is_change : Array (Option Value)}
    {oc_law_in_span kV_law_in_span dc_law_in_span pm_law_in_span cd_law_in_span ct_law_in_span : Value} {od_law_in_span an_law_in_span : Option Addr} {sl_law_in_span : Array (Option Value)}
    {oc_law_letter_right kV_law_letter_right dc_law_letter_right pm_law_letter_right cd_law_letter_right ct_law_letter_right : Value} {od_law_letter_right an_law_letter_right : Option Addr} {sl_law_letter_right : Array (Option Value)}
    {oc_law_right kV_law_right dc_law_right pm_law_right cd_law_right ct_law_right : Value} {od_law_right an_law_right : Option Addr} {sl_law_right : Array (Option Value)}
    {oclaw kVlaw dclaw pmlaw cdlaw ctlaw : Value} {odlaw anlaw : Option Addr} {sllaw : Array (Option Value)}
    (aCZero : PySem.W.nsIn K mainGlobals "Zero" = some (some (.ref CZero)))
    (pgZero : PySem.W.plainGet K CZero Str.empty = true)
    (hdZero : PySem.W.hasDictIn K CZero = true)
    (poZero : PySem.W.plainOver K CZero = true)
    (saZero : PySem.W.findIn K (.ref CZero) "__setattr__" = some (some (.builtin "object.__setattr__")))
    (mkZero : PySem.W.makesIn K CZero = true)
    (kcZero : PySem.W.keepIn K (.ref CZero) = true)
    (sfZero : PySem.W.selfFirst K CZero = true)
    (q1Zero : PySem.W.findIn K (.ref CZero) "__class__" = some (some (.builtin "object.__class__")))
    (q2Zero : PySem.W.specialIn K (.builtin "object.__class__") "__get__" = some (some (.builtin "getset_descriptor.__get__")))
    (q3Zero : PySem.W.takesIn K (.builtin "object.__class__") = some true)
    (q4Zero : PySem.W.mroIn K CZero (.type "object") = some true)
    (nZerochange : PySem.W.findIn K (.ref CZero) "change" = some none)
    (aCHangs : PySem.W.nsIn K mainGlobals "Hangs" = some (some (.ref CHangs)))
    (pgHangs : PySem.W.plainGet K CHangs Str.empty = true)
    (hdHangs : PySem.W.hasDictIn K CHangs = true)
    (poHangs : PySem.W.plainOver K CHangs = true)
    (saHangs : PySem.W.findIn K (.ref CHangs) "__setattr__" = some (some (.builtin "object.__setattr__")))
    (mkHangs : PySem.W.makesIn K CHangs = true)
    (kcHangs : PySem.W.keepIn K (.ref CHangs) = true)
    (sfHangs : PySem.W.selfFirst K CHangs = true)
    (q1Hangs : PySem.W.findIn K (.ref CHangs) "__class__" = some (some (.builtin "object.__class__")))
    (q2Hangs : PySem.W.specialIn K (.builtin "object.__class__") "__get__" = some (some (.builtin "getset_descriptor.__get__")))
    (q3Hangs : PySem.W.takesIn K (.builtin "object.__class__") = some true)
    (q4Hangs : PySem.W.mroIn K CHangs (.type "object") = some true)
    (nHangskinds : PySem.W.findIn K (.ref CHangs) "kinds" = some none)
    (nHangspowers : PySem.W.findIn K (.ref CHangs) "powers" = some none)
    (nHangsgroups : PySem.W.findIn K (.ref CHangs) "groups" = some none)
    (nHangschanges : PySem.W.findIn K (.ref CHangs) "changes" = some none)
    (a_law_pen : PySem.W.nsIn K mainGlobals "_law_pen" = some (some (.ref f_law_pen)))
    (l_law_pen : K.lookup f_law_pen = some ⟨oc_law_pen, od_law_pen, .func (PySem.W.fnOf "_law_pen" "_law_pen" (defArgs st_law_pen) (defBody st_law_pen) (defScope st_law_pen) .none kV_law_pen dc_law_pen pm_law_pen an_law_pen cd_law_pen ct_law_pen), sl_law_pen⟩)
    (c_law_pen : PySem.W.codeIn K cd_law_pen "_law_pen" = true)
    (k_law_pen : PySem.W.keepIn K (.ref f_law_pen) = true)
    (a_law_draw : PySem.W.nsIn K mainGlobals "_law_draw" = some (some (.ref f_law_draw)))
    (l_law_draw : K.lookup f_law_draw = some ⟨oc_law_draw, od_law_draw, .func (PySem.W.fnOf "_law_draw" "_law_draw" (defArgs st_law_draw) (defBody st_law_draw) (defScope st_law_draw) .none kV_law_draw dc_law_draw pm_law_draw an_law_draw cd_law_draw ct_law_draw), sl_law_draw⟩)
    (c_law_draw : PySem.W.codeIn K cd_law_draw "_law_draw" = true)
    (k_law_draw : PySem.W.keepIn K (.ref f_law_draw) = true)
    (a_law_pick : PySem.W.nsIn K mainGlobals "_law_pick" = some (some (.ref f_law_pick)))
    (l_law_pick : K.lookup f_law_pick = some ⟨oc_law_pick, od_law_pick, .func (PySem.W.fnOf "_law_pick" "_law_pick" (defArgs st_law_pick) (defBody st_law_pick) (defScope st_law_pick) .none kV_law_pick dc_law_pick pm_law_pick an_law_pick cd_law_pick ct_law_pick), sl_law_pick⟩)
    (c_law_pick : PySem.W.codeIn K cd_law_pick "_law_pick" = true)
    (k_law_pick : PySem.W.keepIn K (.ref f_law_pick) = true)
    (apivot_of : PySem.W.nsIn K mainGlobals "pivot_of" = some (some (.ref fpivot_of)))
    (lpivot_of : K.lookup fpivot_of = some ⟨ocpivot_of, odpivot_of, .func (PySem.W.fnOf "pivot_of" "pivot_of" (defArgs stpivot_of) (defBody stpivot_of) (defScope stpivot_of) .none kVpivot_of dcpivot_of pmpivot_of anpivot_of cdpivot_of ctpivot_of), slpivot_of⟩)
    (cpivot_of : PySem.W.codeIn K cdpivot_of "pivot_of" = true)
    (kpivot_of : PySem.W.keepIn K (.ref fpivot_of) = true)
    (acombined : PySem.W.nsIn K mainGlobals "combined" = some (some (.ref fcombined)))
    (lcombined : K.lookup fcombined = some ⟨occombined, odcombined, .func (PySem.W.fnOf "combined" "combined" (defArgs stcombined) (defBody stcombined) (defScope stcombined) .none kVcombined dccombined pmcombined ancombined cdcombined ctcombined), slcombined⟩)
    (ccombined : PySem.W.codeIn K cdcombined "combined" = true)
    (kcombined : PySem.W.keepIn K (.ref fcombined) = true)
    (aidentity : PySem.W.nsIn K mainGlobals "identity" = some (some (.ref fidentity)))
    (lidentity : K.lookup fidentity = some ⟨ocidentity, odidentity, .func (PySem.W.fnOf "identity" "identity" (defArgs stidentity) (defBody stidentity) (defScope stidentity) .none kVidentity dcidentity pmidentity anidentity cdidentity ctidentity), slidentity⟩)
    (cidentity : PySem.W.codeIn K cdidentity "identity" = true)
    (kidentity : PySem.W.keepIn K (.ref fidentity) = true)
    (atransposed : PySem.W.nsIn K mainGlobals "transposed" = some (some (.ref ftransposed)))
    (ltransposed : K.lookup ftransposed = some ⟨octransposed, odtransposed, .func (PySem.W.fnOf "transposed" "transposed" (defArgs sttransposed) (defBody sttransposed) (defScope sttransposed) .none kVtransposed dctransposed pmtransposed antransposed cdtransposed cttransposed), sltransposed⟩)
    (ctransposed : PySem.W.codeIn K cdtransposed "transposed" = true)
    (ktransposed : PySem.W.keepIn K (.ref ftransposed) = true)
    (a_law_turned : PySem.W.nsIn K mainGlobals "_law_turned" = some (some (.ref f_law_turned)))
    (l_law_turned : K.lookup f_law_turned = some ⟨oc_law_turned, od_law_turned, .func (PySem.W.fnOf "_law_turned" "_law_turned" (defArgs st_law_turned) (defBody st_law_turned) (defScope st_law_turned) .none kV_law_turned dc_law_turned pm_law_turned an_law_turned cd_law_turned ct_law_turned), sl_law_turned⟩)
    (c_law_turned : PySem.W.codeIn K cd_law_turned "_law_turned" = true)
    (k_law_turned : PySem.W.keepIn K (.ref f_law_turned) = true)
    (aprimitive : PySem.W.nsIn K mainGlobals "primitive" = some (some (.ref fprimitive)))
    (lprimitive : K.lookup fprimitive = some ⟨ocprimitive, odprimitive, .func (PySem.W.fnOf "primitive" "primitive" (defArgs stprimitive) (defBody stprimitive) (defScope stprimitive) .none kVprimitive dcprimitive pmprimitive anprimitive cdprimitive ctprimitive), slprimitive⟩)
    (cprimitive : PySem.W.codeIn K cdprimitive "primitive" = true)
    (kprimitive : PySem.W.keepIn K (.ref fprimitive) = true)
    (awithout_item : PySem.W.nsIn K mainGlobals "without_item" = some (some (.ref fwithout_item)))
    (lwithout_item : K.lookup fwithout_item = some ⟨ocwithout_item, odwithout_item, .func (PySem.W.fnOf "without_item" "without_item" (defArgs stwithout_item) (defBody stwithout_item) (defScope stwithout_item) .none kVwithout_item dcwithout_item pmwithout_item anwithout_item cdwithout_item ctwithout_item), slwithout_item⟩)
    (cwithout_item : PySem.W.codeIn K cdwithout_item "without_item" = true)
    (kwithout_item : PySem.W.keepIn K (.ref fwithout_item) = true)
    (acleared : PySem.W.nsIn K mainGlobals "cleared" = some (some (.ref fcleared)))
    (lcleared : K.lookup fcleared = some ⟨occleared, odcleared, .func (PySem.W.fnOf "cleared" "cleared" (defArgs stcleared) (defBody stcleared) (defScope stcleared) .none kVcleared dccleared pmcleared ancleared cdcleared ctcleared), slcleared⟩)
    (ccleared : PySem.W.codeIn K cdcleared "cleared" = true)
    (kcleared : PySem.W.keepIn K (.ref fcleared) = true)
    (aspan_of : PySem.W.nsIn K mainGlobals "span_of" = some (some (.ref fspan_of)))
    (lspan_of : K.lookup fspan_of = some ⟨ocspan_of, odspan_of, .func (PySem.W.fnOf "span_of" "span_of" (defArgs stspan_of) (defBody stspan_of) (defScope stspan_of) .none kVspan_of dcspan_of pmspan_of anspan_of cdspan_of ctspan_of), slspan_of⟩)
    (cspan_of : PySem.W.codeIn K cdspan_of "span_of" = true)
    (kspan_of : PySem.W.keepIn K (.ref fspan_of) = true)
    (ais_list : PySem.W.nsIn K mainGlobals "is_list" = some (some (.ref fis_list)))
    (lis_list : K.lookup fis_list = some ⟨ocis_list, odis_list, .func (PySem.W.fnOf "is_list" "is_list" (defArgs stis_list) (defBody stis_list) (defScope stis_list) .none kVis_list dcis_list pmis_list anis_list cdis_list ctis_list), slis_list⟩)
    (cis_list : PySem.W.codeIn K cdis_list "is_list" = true)
    (kis_list : PySem.W.keepIn K (.ref fis_list) = true)
    (ais_whole : PySem.W.nsIn K mainGlobals "is_whole" = some (some (.ref fis_whole)))
    (lis_whole : K.lookup fis_whole = some ⟨ocis_whole, odis_whole, .func (PySem.W.fnOf "is_whole" "is_whole" (defArgs stis_whole) (defBody stis_whole) (defScope stis_whole) .none kVis_whole dcis_whole pmis_whole anis_whole cdis_whole ctis_whole), slis_whole⟩)
    (cis_whole : PySem.W.codeIn K cdis_whole "is_whole" = true)
    (kis_whole : PySem.W.keepIn K (.ref fis_whole) = true)
    (aare_integers : PySem.W.nsIn K mainGlobals "are_integers" = some (some (.ref fare_integers)))
    (lare_integers : K.lookup fare_integers = some ⟨ocare_integers, odare_integers, .func (PySem.W.fnOf "are_integers" "are_integers" (defArgs stare_integers) (defBody stare_integers) (defScope stare_integers) .none kVare_integers dcare_integers pmare_integers anare_integers cdare_integers ctare_integers), slare_integers⟩)
    (care_integers : PySem.W.codeIn K cdare_integers "are_integers" = true)
    (kare_integers : PySem.W.keepIn K (.ref fare_integers) = true)
    (ais_matrix : PySem.W.nsIn K mainGlobals "is_matrix" = some (some (.ref fis_matrix)))
    (lis_matrix : K.lookup fis_matrix = some ⟨ocis_matrix, odis_matrix, .func (PySem.W.fnOf "is_matrix" "is_matrix" (defArgs stis_matrix) (defBody stis_matrix) (defScope stis_matrix) .none kVis_matrix dcis_matrix pmis_matrix anis_matrix cdis_matrix ctis_matrix), slis_matrix⟩)
    (cis_matrix : PySem.W.codeIn K cdis_matrix "is_matrix" = true)
    (kis_matrix : PySem.W.keepIn K (.ref fis_matrix) = true)
    (acheck_matrix : PySem.W.nsIn K mainGlobals "check_matrix" = some (some (.ref fcheck_matrix)))
    (lcheck_matrix : K.lookup fcheck_matrix = some ⟨occheck_matrix, odcheck_matrix, .func (PySem.W.fnOf "check_matrix" "check_matrix" (defArgs stcheck_matrix) (defBody stcheck_matrix) (defScope stcheck_matrix) (.ref Tcheck_matrix) kVcheck_matrix dccheck_matrix pmcheck_matrix ancheck_matrix cdcheck_matrix ctcheck_matrix), slcheck_matrix⟩)
    (ccheck_matrix : PySem.W.codeIn K cdcheck_matrix "check_matrix" = true)
    (kcheck_matrix : PySem.W.keepIn K (.ref fcheck_matrix) = true)
    (tcheck_matrix : K.lookup Tcheck_matrix = some ⟨tccheck_matrix, tdcheck_matrix, .seq #[.str "rows" tvcheck_matrix] tncheck_matrix, tscheck_matrix⟩)
    (acheck_exponents : PySem.W.nsIn K mainGlobals "check_exponents" = some (some (.ref fcheck_exponents)))
    (lcheck_exponents : K.lookup fcheck_exponents = some ⟨occheck_exponents, odcheck_exponents, .func (PySem.W.fnOf "check_exponents" "check_exponents" (defArgs stcheck_exponents) (defBody stcheck_exponents) (defScope stcheck_exponents) .none kVcheck_exponents dccheck_exponents pmcheck_exponents ancheck_exponents cdcheck_exponents ctcheck_exponents), slcheck_exponents⟩)
    (ccheck_exponents : PySem.W.codeIn K cdcheck_exponents "check_exponents" = true)
    (kcheck_exponents : PySem.W.keepIn K (.ref fcheck_exponents) = true)
    (aas_tuples0 : PySem.W.nsIn K mainGlobals "as_tuples" = some (some (.ref fas_tuples0)))
    (las_tuples0 : K.lookup fas_tuples0 = some ⟨ocas_tuples0, odas_tuples0, .func (PySem.W.fnOf "as_tuples" "as_tuples" (defArgs stas_tuples0) (defBody stas_tuples0) (defScope stas_tuples0) .none kVas_tuples0 dcas_tuples0 pmas_tuples0 anas_tuples0 cdas_tuples0 ctas_tuples0), slas_tuples0⟩)
    (cas_tuples0 : PySem.W.codeIn K cdas_tuples0 "as_tuples" = true)
    (kas_tuples0 : PySem.W.keepIn K (.ref fas_tuples0) = true)
    (aas_tuples1 : PySem.W.nsIn K mainGlobals "as_tuples" = some (some (.ref fas_tuples1)))
    (las_tuples1 : K.lookup fas_tuples1 = some ⟨ocas_tuples1, odas_tuples1, .func (PySem.W.fnOf "as_tuples" "as_tuples" (defArgs stas_tuples1) (defBody stas_tuples1) (defScope stas_tuples1) .none kVas_tuples1 dcas_tuples1 pmas_tuples1 anas_tuples1 cdas_tuples1 ctas_tuples1), slas_tuples1⟩)
    (cas_tuples1 : PySem.W.codeIn K cdas_tuples1 "as_tuples" = true)
    (kas_tuples1 : PySem.W.keepIn K (.ref fas_tuples1) = true)
    (aas_tuples : PySem.W.nsIn K mainGlobals "as_tuples" = some (some (.ref fas_tuples)))
    (las_tuples : K.lookup fas_tuples = some ⟨ocas_tuples, odas_tuples, .func (PySem.W.fnOf "as_tuples" "as_tuples" (defArgs stas_tuples) (defBody stas_tuples) (defScope stas_tuples) .none kVas_tuples dcas_tuples pmas_tuples anas_tuples cdas_tuples ctas_tuples), slas_tuples⟩)
    (cas_tuples : PySem.W.codeIn K cdas_tuples "as_tuples" = true)
    (kas_tuples : PySem.W.keepIn K (.ref fas_tuples) = true)
    (alowest : PySem.W.nsIn K mainGlobals "lowest" = some (some (.ref flowest)))
    (llowest : K.lookup flowest = some ⟨oclowest, odlowest, .func (PySem.W.fnOf "lowest" "lowest" (defArgs stlowest) (defBody stlowest) (defScope stlowest) .none kVlowest dclowest pmlowest anlowest cdlowest ctlowest), sllowest⟩)
    (clowest : PySem.W.codeIn K cdlowest "lowest" = true)
    (klowest : PySem.W.keepIn K (.ref flowest) = true)
    (acommon_bottom : PySem.W.nsIn K mainGlobals "common_bottom" = some (some (.ref fcommon_bottom)))
    (lcommon_bottom : K.lookup fcommon_bottom = some ⟨occommon_bottom, odcommon_bottom, .func (PySem.W.fnOf "common_bottom" "common_bottom" (defArgs stcommon_bottom) (defBody stcommon_bottom) (defScope stcommon_bottom) .none kVcommon_bottom dccommon_bottom pmcommon_bottom ancommon_bottom cdcommon_bottom ctcommon_bottom), slcommon_bottom⟩)
    (ccommon_bottom : PySem.W.codeIn K cdcommon_bottom "common_bottom" = true)
    (kcommon_bottom : PySem.W.keepIn K (.ref fcommon_bottom) = true)
    (awhole_row : PySem.W.nsIn K mainGlobals "whole_row" = some (some (.ref fwhole_row)))
    (lwhole_row : K.lookup fwhole_row = some ⟨ocwhole_row, odwhole_row, .func (PySem.W.fnOf "whole_row" "whole_row" (defArgs stwhole_row) (defBody stwhole_row) (defScope stwhole_row) .none kVwhole_row dcwhole_row pmwhole_row anwhole_row cdwhole_row ctwhole_row), slwhole_row⟩)
    (cwhole_row : PySem.W.codeIn K cdwhole_row "whole_row" = true)
    (kwhole_row : PySem.W.keepIn K (.ref fwhole_row) = true)
    (aleast_multiple : PySem.W.nsIn K mainGlobals "least_multiple" = some (some (.ref fleast_multiple)))
    (lleast_multiple : K.lookup fleast_multiple = some ⟨ocleast_multiple, odleast_multiple, .func (PySem.W.fnOf "least_multiple" "least_multiple" (defArgs stleast_multiple) (defBody stleast_multiple) (defScope stleast_multiple) .none kVleast_multiple dcleast_multiple pmleast_multiple anleast_multiple cdleast_multiple ctleast_multiple), slleast_multiple⟩)
    (cleast_multiple : PySem.W.codeIn K cdleast_multiple "least_multiple" = true)
    (kleast_multiple : PySem.W.keepIn K (.ref fleast_multiple) = true)
    (aletter_groups : PySem.W.nsIn K mainGlobals "letter_groups" = some (some (.ref fletter_groups)))
    (lletter_groups : K.lookup fletter_groups = some ⟨ocletter_groups, odletter_groups, .func (PySem.W.fnOf "letter_groups" "letter_groups" (defArgs stletter_groups) (defBody stletter_groups) (defScope stletter_groups) .none kVletter_groups dcletter_groups pmletter_groups anletter_groups cdletter_groups ctletter_groups), slletter_groups⟩)
    (cletter_groups : PySem.W.codeIn K cdletter_groups "letter_groups" = true)
    (kletter_groups : PySem.W.keepIn K (.ref fletter_groups) = true)
    (aZ_init : PySem.W.findIn K (.ref CZero) "__init__" = some (some (.ref fZ_init)))
    (lZ_init : K.lookup fZ_init = some ⟨ocZ_init, odZ_init, .func (PySem.W.fnOf "__init__" "Zero.__init__" (defArgs stZ_init) (defBody stZ_init) (defScope stZ_init) .none kVZ_init dcZ_init pmZ_init anZ_init cdZ_init ctZ_init), slZ_init⟩)
    (cZ_init : PySem.W.codeIn K cdZ_init "Zero.__init__" = true)
    (kZ_init : PySem.W.keepIn K (.ref fZ_init) = true)
    (iZ_init : PySem.W.isFn K (.ref fZ_init) = true)
    (aH_init : PySem.W.findIn K (.ref CHangs) "__init__" = some (some (.ref fH_init)))
    (lH_init : K.lookup fH_init = some ⟨ocH_init, odH_init, .func (PySem.W.fnOf "__init__" "Hangs.__init__" (defArgs stH_init) (defBody stH_init) (defScope stH_init) .none kVH_init dcH_init pmH_init anH_init cdH_init ctH_init), slH_init⟩)
    (cH_init : PySem.W.codeIn K cdH_init "Hangs.__init__" = true)
    (kH_init : PySem.W.keepIn K (.ref fH_init) = true)
    (iH_init : PySem.W.isFn K (.ref fH_init) = true)
    (ahangs : PySem.W.nsIn K mainGlobals "hangs" = some (some (.ref fhangs)))
    (lhangs : K.lookup fhangs = some ⟨ochangs, odhangs, .func (PySem.W.fnOf "hangs" "hangs" (defArgs sthangs) (defBody sthangs) (defScope sthangs) .none kVhangs dchangs pmhangs anhangs cdhangs cthangs), slhangs⟩)
    (changs : PySem.W.codeIn K cdhangs "hangs" = true)
    (khangs : PySem.W.keepIn K (.ref fhangs) = true)
    (a_law_gcd : PySem.W.nsIn K mainGlobals "_law_gcd" = some (some (.ref f_law_gcd)))
    (l_law_gcd : K.lookup f_law_gcd = some ⟨oc_law_gcd, od_law_gcd, .func (PySem.W.fnOf "_law_gcd" "_law_gcd" (defArgs st_law_gcd) (defBody st_law_gcd) (defScope st_law_gcd) .none kV_law_gcd dc_law_gcd pm_law_gcd an_law_gcd cd_law_gcd ct_law_gcd), sl_law_gcd⟩)
    (c_law_gcd : PySem.W.codeIn K cd_law_gcd "_law_gcd" = true)
    (k_law_gcd : PySem.W.keepIn K (.ref f_law_gcd) = true)
    (a_law_q : PySem.W.nsIn K mainGlobals "_law_q" = some (some (.ref f_law_q)))
    (l_law_q : K.lookup f_law_q = some ⟨oc_law_q, od_law_q, .func (PySem.W.fnOf "_law_q" "_law_q" (defArgs st_law_q) (defBody st_law_q) (defScope st_law_q) .none kV_law_q dc_law_q pm_law_q an_law_q cd_law_q ct_law_q), sl_law_q⟩)
    (c_law_q : PySem.W.codeIn K cd_law_q "_law_q" = true)
    (k_law_q : PySem.W.keepIn K (.ref f_law_q) = true)
    (a_law_inner : PySem.W.nsIn K mainGlobals "_law_inner" = some (some (.ref f_law_inner)))
    (l_law_inner : K.lookup f_law_inner = some ⟨oc_law_inner, od_law_inner, .func (PySem.W.fnOf "_law_inner" "_law_inner" (defArgs st_law_inner) (defBody st_law_inner) (defScope st_law_inner) .none kV_law_inner dc_law_inner pm_law_inner an_law_inner cd_law_inner ct_law_inner), sl_law_inner⟩)
    (c_law_inner : PySem.W.codeIn K cd_law_inner "_law_inner" = true)
    (k_law_inner : PySem.W.keepIn K (.ref f_law_inner) = true)
    (a_law_rank : PySem.W.nsIn K mainGlobals "_law_rank" = some (some (.ref f_law_rank)))
    (l_law_rank : K.lookup f_law_rank = some ⟨oc_law_rank, od_law_rank, .func (PySem.W.fnOf "_law_rank" "_law_rank" (defArgs st_law_rank) (defBody st_law_rank) (defScope st_law_rank) .none kV_law_rank dc_law_rank pm_law_rank an_law_rank cd_law_rank ct_law_rank), sl_law_rank⟩)
    (c_law_rank : PySem.W.codeIn K cd_law_rank "_law_rank" = true)
    (k_law_rank : PySem.W.keepIn K (.ref f_law_rank) = true)
    (a_law_is_whole : PySem.W.nsIn K mainGlobals "_law_is_whole" = some (some (.ref f_law_is_whole)))
    (l_law_is_whole : K.lookup f_law_is_whole = some ⟨oc_law_is_whole, od_law_is_whole, .func (PySem.W.fnOf "_law_is_whole" "_law_is_whole" (defArgs st_law_is_whole) (defBody st_law_is_whole) (defScope st_law_is_whole) .none kV_law_is_whole dc_law_is_whole pm_law_is_whole an_law_is_whole cd_law_is_whole ct_law_is_whole), sl_law_is_whole⟩)
    (c_law_is_whole : PySem.W.codeIn K cd_law_is_whole "_law_is_whole" = true)
    (k_law_is_whole : PySem.W.keepIn K (.ref f_law_is_whole) = true)
    (a_law_is_ratio : PySem.W.nsIn K mainGlobals "_law_is_ratio" = some (some (.ref f_law_is_ratio)))
    (l_law_is_ratio : K.lookup f_law_is_ratio = some ⟨oc_law_is_ratio, od_law_is_ratio, .func (PySem.W.fnOf "_law_is_ratio" "_law_is_ratio" (defArgs st_law_is_ratio) (defBody st_law_is_ratio) (defScope st_law_is_ratio) .none kV_law_is_ratio dc_law_is_ratio pm_law_is_ratio an_law_is_ratio cd_law_is_ratio ct_law_is_ratio), sl_law_is_ratio⟩)
    (c_law_is_ratio : PySem.W.codeIn K cd_law_is_ratio "_law_is_ratio" = true)
    (k_law_is_ratio : PySem.W.keepIn K (.ref f_law_is_ratio) = true)
    (a_law_unit_of : PySem.W.nsIn K mainGlobals "_law_unit_of" = some (some (.ref f_law_unit_of)))
    (l_law_unit_of : K.lookup f_law_unit_of = some ⟨oc_law_unit_of, od_law_unit_of, .func (PySem.W.fnOf "_law_unit_of" "_law_unit_of" (defArgs st_law_unit_of) (defBody st_law_unit_of) (defScope st_law_unit_of) .none kV_law_unit_of dc_law_unit_of pm_law_unit_of an_law_unit_of cd_law_unit_of ct_law_unit_of), sl_law_unit_of⟩)
    (c_law_unit_of : PySem.W.codeIn K cd_law_unit_of "_law_unit_of" = true)
    (k_law_unit_of : PySem.W.keepIn K (.ref f_law_unit_of) = true)
    (a_law_is_group : PySem.W.nsIn K mainGlobals "_law_is_group" = some (some (.ref f_law_is_group)))
    (l_law_is_group : K.lookup f_law_is_group = some ⟨oc_law_is_group, od_law_is_group, .func (PySem.W.fnOf "_law_is_group" "_law_is_group" (defArgs st_law_is_group) (defBody st_law_is_group) (defScope st_law_is_group) .none kV_law_is_group dc_law_is_group pm_law_is_group an_law_is_group cd_law_is_group ct_law_is_group), sl_law_is_group⟩)
    (c_law_is_group : PySem.W.codeIn K cd_law_is_group "_law_is_group" = true)
    (k_law_is_group : PySem.W.keepIn K (.ref f_law_is_group) = true)
    (a_law_matrix : PySem.W.nsIn K mainGlobals "_law_matrix" = some (some (.ref f_law_matrix)))
    (l_law_matrix : K.lookup f_law_matrix = some ⟨oc_law_matrix, od_law_matrix, .func (PySem.W.fnOf "_law_matrix" "_law_matrix" (defArgs st_law_matrix) (defBody st_law_matrix) (defScope st_law_matrix) .none kV_law_matrix dc_law_matrix pm_law_matrix an_law_matrix cd_law_matrix ct_law_matrix), sl_law_matrix⟩)
    (c_law_matrix : PySem.W.codeIn K cd_law_matrix "_law_matrix" = true)
    (k_law_matrix : PySem.W.keepIn K (.ref f_law_matrix) = true)
    (a_law_exponents : PySem.W.nsIn K mainGlobals "_law_exponents" = some (some (.ref f_law_exponents)))
    (l_law_exponents : K.lookup f_law_exponents = some ⟨oc_law_exponents, od_law_exponents, .func (PySem.W.fnOf "_law_exponents" "_law_exponents" (defArgs st_law_exponents) (defBody st_law_exponents) (defScope st_law_exponents) .none kV_law_exponents dc_law_exponents pm_law_exponents an_law_exponents cd_law_exponents ct_law_exponents), sl_law_exponents⟩)
    (c_law_exponents : PySem.W.codeIn K cd_law_exponents "_law_exponents" = true)
    (k_law_exponents : PySem.W.keepIn K (.ref f_law_exponents) = true)
    (a_law_is_change : PySem.W.nsIn K mainGlobals "_law_is_change" = some (some (.ref f_law_is_change)))
    (l_law_is_change : K.lookup f_law_is_change = some ⟨oc_law_is_change, od_law_is_change, .func (PySem.W.fnOf "_law_is_change" "_law_is_change" (defArgs st_law_is_change) (defBody st_law_is_change) (defScope st_law_is_change) .none kV_law_is_change dc_law_is_change pm_law_is_change an_law_is_change cd_law_is_change ct_law_is_change), sl_law_is_change⟩)
    (c_law_is_change : PySem.W.codeIn K cd_law_is_change "_law_is_change" = true)
    (k_law_is_change : PySem.W.keepIn K (.ref f_law_is_change) = true)
    (a_law_in_span : PySem.W.nsIn K mainGlobals "_law_in_span" = some (some (.ref f_law_in_span)))
    (l_law_in_span : K.lookup f_law_in_span = some ⟨oc_law_in_span, od_law_in_span, .func (PySem.W.fnOf "_law_in_span" "_law_in_span" (defArgs st_law_in_span) (defBody st_law_in_span) (defScope st_law_in_span) .none kV_law_in_span dc_law_in_span pm_law_in_span an_law_in_span cd_law_in_span ct_law_in_span), sl_law_in_span⟩)
    (c_law_in_span : PySem.W.codeIn K cd_law_in_span "_law_in_span" = true)
    (k_law_in_span : PySem.W.keepIn K (.ref f_law_in_span) = true)
    (a_law_letter_right : PySem.W.nsIn K mainGlobals "_law_letter_right" = some (some (.ref f_law_letter_right)))
    (l_law_letter_right : K.lookup f_law_letter_right = some ⟨oc_law_letter_right, od_law_letter_right, .func (PySem.W.fnOf "_law_letter_right" "_law_letter_right" (defArgs st_law_letter_right) (defBody st_law_letter_right) (defScope st_law_letter_right) .none kV_law_letter_right dc_law_letter_right pm_law_letter_right an_law_letter_right cd_law_letter_right ct_law_letter_right), sl_law_letter_right⟩)
    (c_law_letter_right : PySem.W.codeIn K cd_law_letter_right "_law_letter_right" = true)
    (k_law_letter_right : PySem.W.keepIn K (.ref f_law_letter_right) = true)
    (a_law_right : PySem.W.nsIn K mainGlobals "_law_right" = some (some (.ref f_law_right)))
    (l_law_right : K.lookup f_law_right = some ⟨oc_law_right, od_law_right, .func (PySem.W.fnOf "_law_right" "_law_right" (defArgs st_law_right) (defBody st_law_right) (defScope st_law_right) .none kV_law_right dc_law_right pm_law_right an_law_right cd_law_right ct_law_right), sl_law_right⟩)
    (c_law_right : PySem.W.codeIn K cd_law_right "_law_right" = true)
    (k_law_right : PySem.W.keepIn K (.ref f_law_right) = true)
    (alaw : PySem.W.nsIn K mainGlobals "law" = some (some (.ref flaw)))
    (llaw : K.lookup flaw = some ⟨oclaw, odlaw, .func (PySem.W.fnOf "law" "law" (defArgs stlaw) (defBody stlaw) (defScope stlaw) .none kVlaw dclaw pmlaw anlaw cdlaw ctlaw), sllaw⟩)
    (claw : PySem.W.codeIn K cdlaw "law" = true)
    (klaw : PySem.W.keepIn K (.ref flaw) = true)
    (GGg : PySem.W.nsIn K mainGlobals "gcd" = some (some (.builtin "math.gcd")))
    (GGl : PySem.W.nsIn K mainGlobals "lcm" = some (some (.builtin "math.lcm")))
    (z1 : PySem.W.kitOne K (.ref CZero) (.ref CZero) = some true)
    (z2 : PySem.W.kitOne K (.ref CHangs) (.ref CHangs) = some true)
    (z3 : PySem.W.kitOne K (.ref CZero) (.ref CHangs) = some false)
    (z4 : PySem.W.kitOne K (.ref CHangs) (.ref CZero) = some false)
    (BT0 : bltB K = true) :
    ∃ fd : FuncData, (∀ (s : Shared) (v : Value), BindsTo s fd ⟨[v], []⟩ [("_law_script", v)]) ∧ ∀ base : Heap, K.In base → base.Ns mainGlobals mg → FnG l.prog w K mg base CX0 10 fa fd ["_law_script"] (spLaw K) := by
  have e := hfa.symm.trans (PySem.W.mg_of X G alaw)
  cases e
  have F_law_pen := fun_mk (st := st_law_pen) l_law_pen c_law_pen k_law_pen
  have D_law_pen : DefAt K mg "_law_pen" st_law_pen ["_law_script"] f_law_pen _ := ⟨F_law_pen, PySem.W.mg_of X G a_law_pen, F_law_pen.binds (ps := ["_law_script"]) fun _ _ _ _ _ _ us hl => match us, hl with | [_], _ => rfl⟩
  have F_law_draw := fun_mk (st := st_law_draw) l_law_draw c_law_draw k_law_draw
  have D_law_draw : DefAt K mg "_law_draw" st_law_draw ["_law_pen_here", "_law_many"] f_law_draw _ := ⟨F_law_draw, PySem.W.mg_of X G a_law_draw, F_law_draw.binds (ps := ["_law_pen_here", "_law_many"]) fun _ _ _ _ _ _ us hl => match us, hl with | [_, _], _ => rfl⟩
  have F_law_pick := fun_mk (st := st_law_pick) l_law_pick c_law_pick k_law_pick
  have D_law_pick : DefAt K mg "_law_pick" st_law_pick ["_law_pen_here", "_law_some"] f_law_pick _ := ⟨F_law_pick, PySem.W.mg_of X G a_law_pick, F_law_pick.binds (ps := ["_law_pen_here", "_law_some"]) fun _ _ _ _ _ _ us hl => match us, hl with | [_, _], _ => rfl⟩
  have Fpivot_of := fun_mk (st := stpivot_of) lpivot_of cpivot_of kpivot_of
  have Dpivot_of : DefAt K mg "pivot_of" stpivot_of ["row"] fpivot_of _ := ⟨Fpivot_of, PySem.W.mg_of X G apivot_of, Fpivot_of.binds (ps := ["row"]) fun _ _ _ _ _ _ us hl => match us, hl with | [_], _ => rfl⟩
  have Fcombined := fun_mk (st := stcombined) lcombined ccombined kcombined
  have Dcombined : DefAt K mg "combined" stcombined ["many", "one", "times", "other"] fcombined _ := ⟨Fcombined, PySem.W.mg_of X G acombined, Fcombined.binds (ps := ["many", "one", "times", "other"]) fun _ _ _ _ _ _ us hl => match us, hl with | [_, _, _, _], _ => rfl⟩
  have Fidentity := fun_mk (st := stidentity) lidentity cidentity kidentity
  have Didentity : DefAt K mg "identity" stidentity ["many"] fidentity _ := ⟨Fidentity, PySem.W.mg_of X G aidentity, Fidentity.binds (ps := ["many"]) fun _ _ _ _ _ _ us hl => match us, hl with | [_], _ => rfl⟩
  have Ftransposed := fun_mk (st := sttransposed) ltransposed ctransposed ktransposed
  have Dtransposed : DefAt K mg "transposed" sttransposed ["rows"] ftransposed _ := ⟨Ftransposed, PySem.W.mg_of X G atransposed, Ftransposed.binds (ps := ["rows"]) fun _ _ _ _ _ _ us hl => match us, hl with | [_], _ => rfl⟩
  have F_law_turned := fun_mk (st := st_law_turned) l_law_turned c_law_turned k_law_turned
  have D_law_turned : DefAt K mg "_law_turned" st_law_turned ["_law_rows"] f_law_turned _ := ⟨F_law_turned, PySem.W.mg_of X G a_law_turned, F_law_turned.binds (ps := ["_law_rows"]) fun _ _ _ _ _ _ us hl => match us, hl with | [_], _ => rfl⟩
  have Fprimitive := fun_mk (st := stprimitive) lprimitive cprimitive kprimitive
  have Dprimitive : DefAt K mg "primitive" stprimitive ["row"] fprimitive _ := ⟨Fprimitive, PySem.W.mg_of X G aprimitive, Fprimitive.binds (ps := ["row"]) fun _ _ _ _ _ _ us hl => match us, hl with | [_], _ => rfl⟩
  have Fwithout_item := fun_mk (st := stwithout_item) lwithout_item cwithout_item kwithout_item
  have Dwithout_item : DefAt K mg "without_item" stwithout_item ["row", "at", "held"] fwithout_item _ := ⟨Fwithout_item, PySem.W.mg_of X G awithout_item, Fwithout_item.binds (ps := ["row", "at", "held"]) fun _ _ _ _ _ _ us hl => match us, hl with | [_, _, _], _ => rfl⟩
  have Fcleared := fun_mk (st := stcleared) lcleared ccleared kcleared
  have Dcleared : DefAt K mg "cleared" stcleared ["reduced_rows", "row"] fcleared _ := ⟨Fcleared, PySem.W.mg_of X G acleared, Fcleared.binds (ps := ["reduced_rows", "row"]) fun _ _ _ _ _ _ us hl => match us, hl with | [_, _], _ => rfl⟩
  have Fspan_of := fun_mk (st := stspan_of) lspan_of cspan_of kspan_of
  have Dspan_of : DefAt K mg "span_of" stspan_of ["rows"] fspan_of _ := ⟨Fspan_of, PySem.W.mg_of X G aspan_of, Fspan_of.binds (ps := ["rows"]) fun _ _ _ _ _ _ us hl => match us, hl with | [_], _ => rfl⟩
  have Fis_list := fun_mk (st := stis_list) lis_list cis_list kis_list
  have Dis_list : DefAt K mg "is_list" stis_list ["value"] fis_list _ := ⟨Fis_list, PySem.W.mg_of X G ais_list, Fis_list.binds (ps := ["value"]) fun _ _ _ _ _ _ us hl => match us, hl with | [_], _ => rfl⟩
  have Fis_whole := fun_mk (st := stis_whole) lis_whole cis_whole kis_whole
  have Dis_whole : DefAt K mg "is_whole" stis_whole ["value"] fis_whole _ := ⟨Fis_whole, PySem.W.mg_of X G ais_whole, Fis_whole.binds (ps := ["value"]) fun _ _ _ _ _ _ us hl => match us, hl with | [_], _ => rfl⟩
  have Fare_integers := fun_mk (st := stare_integers) lare_integers care_integers kare_integers
  have Dare_integers : DefAt K mg "are_integers" stare_integers ["items"] fare_integers _ := ⟨Fare_integers, PySem.W.mg_of X G aare_integers, Fare_integers.binds (ps := ["items"]) fun _ _ _ _ _ _ us hl => match us, hl with | [_], _ => rfl⟩
  have Fis_matrix := fun_mk (st := stis_matrix) lis_matrix cis_matrix kis_matrix
  have Dis_matrix : DefAt K mg "is_matrix" stis_matrix ["rows"] fis_matrix _ := ⟨Fis_matrix, PySem.W.mg_of X G ais_matrix, Fis_matrix.binds (ps := ["rows"]) fun _ _ _ _ _ _ us hl => match us, hl with | [_], _ => rfl⟩
  have Fcheck_matrix : L2.FunD K "check_matrix" "check_matrix" (defArgs stcheck_matrix) (defBody stcheck_matrix) (defScope stcheck_matrix) [.str "rows"] [] fcheck_matrix _ := ⟨⟨_, _, _, _, _, _, _, _, _, _, rfl, lcheck_matrix, ccheck_matrix, .inr ⟨(fun z => nomatch z), Tcheck_matrix, _, _, _, rfl, tcheck_matrix, rfl, .cons ⟨_, rfl⟩ .nil⟩, .inl rfl⟩, kcheck_matrix⟩
  have Dcheck_matrix : DefDf [.str "rows"] K mg "check_matrix" stcheck_matrix ["rows", "what"] fcheck_matrix _ := ⟨Fcheck_matrix, PySem.W.mg_of X G acheck_matrix, by
    obtain ⟨ds, hv, hb⟩ := Fcheck_matrix.binds1 (ps := ["rows", "what"]) 2 1 (fun z => nomatch z) rfl fun _ _ _ _ _ _ _ us its hl hi => match us, its, hl, hi with | [_, _], [_], _, _ => ⟨_, rfl, rfl⟩
    cases hv
    exact hb⟩
  have Fcheck_exponents := fun_mk (st := stcheck_exponents) lcheck_exponents ccheck_exponents kcheck_exponents
  have Dcheck_exponents : DefAt K mg "check_exponents" stcheck_exponents ["exponents", "result"] fcheck_exponents _ := ⟨Fcheck_exponents, PySem.W.mg_of X G acheck_exponents, Fcheck_exponents.binds (ps := ["exponents", "result"]) fun _ _ _ _ _ _ us hl => match us, hl with | [_, _], _ => rfl⟩
  have Fas_tuples0 := fun_mk (st := stas_tuples0) las_tuples0 cas_tuples0 kas_tuples0
  have Das_tuples0 : DefAt K mg "as_tuples" stas_tuples0 ["value"] fas_tuples0 _ := ⟨Fas_tuples0, PySem.W.mg_of X G aas_tuples0, Fas_tuples0.binds (ps := ["value"]) fun _ _ _ _ _ _ us hl => match us, hl with | [_], _ => rfl⟩
  have Fas_tuples1 := fun_mk (st := stas_tuples1) las_tuples1 cas_tuples1 kas_tuples1
  have Das_tuples1 : DefAt K mg "as_tuples" stas_tuples1 ["value"] fas_tuples1 _ := ⟨Fas_tuples1, PySem.W.mg_of X G aas_tuples1, Fas_tuples1.binds (ps := ["value"]) fun _ _ _ _ _ _ us hl => match us, hl with | [_], _ => rfl⟩
  have Fas_tuples := fun_mk (st := stas_tuples) las_tuples cas_tuples kas_tuples
  have Das_tuples : DefAt K mg "as_tuples" stas_tuples ["value"] fas_tuples _ := ⟨Fas_tuples, PySem.W.mg_of X G aas_tuples, Fas_tuples.binds (ps := ["value"]) fun _ _ _ _ _ _ us hl => match us, hl with | [_], _ => rfl⟩
  have Flowest := fun_mk (st := stlowest) llowest clowest klowest
  have Dlowest : DefAt K mg "lowest" stlowest ["top", "bottom"] flowest _ := ⟨Flowest, PySem.W.mg_of X G alowest, Flowest.binds (ps := ["top", "bottom"]) fun _ _ _ _ _ _ us hl => match us, hl with | [_, _], _ => rfl⟩
  have Fcommon_bottom := fun_mk (st := stcommon_bottom) lcommon_bottom ccommon_bottom kcommon_bottom
  have Dcommon_bottom : DefAt K mg "common_bottom" stcommon_bottom ["ratios"] fcommon_bottom _ := ⟨Fcommon_bottom, PySem.W.mg_of X G acommon_bottom, Fcommon_bottom.binds (ps := ["ratios"]) fun _ _ _ _ _ _ us hl => match us, hl with | [_], _ => rfl⟩
  have Fwhole_row := fun_mk (st := stwhole_row) lwhole_row cwhole_row kwhole_row
  have Dwhole_row : DefAt K mg "whole_row" stwhole_row ["ratios"] fwhole_row _ := ⟨Fwhole_row, PySem.W.mg_of X G awhole_row, Fwhole_row.binds (ps := ["ratios"]) fun _ _ _ _ _ _ us hl => match us, hl with | [_], _ => rfl⟩
  have Fleast_multiple := fun_mk (st := stleast_multiple) lleast_multiple cleast_multiple kleast_multiple
  have Dleast_multiple : DefAt K mg "least_multiple" stleast_multiple ["ratios"] fleast_multiple _ := ⟨Fleast_multiple, PySem.W.mg_of X G aleast_multiple, Fleast_multiple.binds (ps := ["ratios"]) fun _ _ _ _ _ _ us hl => match us, hl with | [_], _ => rfl⟩
  have Fletter_groups := fun_mk (st := stletter_groups) lletter_groups cletter_groups kletter_groups
  have Dletter_groups : DefAt K mg "letter_groups" stletter_groups ["steps", "many"] fletter_groups _ := ⟨Fletter_groups, PySem.W.mg_of X G aletter_groups, Fletter_groups.binds (ps := ["steps", "many"]) fun _ _ _ _ _ _ us hl => match us, hl with | [_, _], _ => rfl⟩
  have FZ_init := fun_mk (st := stZ_init) lZ_init cZ_init kZ_init
  have DZ_init : IniA K "__init__" "Zero.__init__" stZ_init ["self", "change"] CZero fZ_init _ := ⟨FZ_init, FZ_init.binds (ps := ["self", "change"]) fun _ _ _ _ _ _ us hl => match us, hl with | [_, _], _ => rfl, ⟨mkZero, aZ_init, iZ_init, kcZero⟩⟩
  have FH_init := fun_mk (st := stH_init) lH_init cH_init kH_init
  have DH_init : IniA K "__init__" "Hangs.__init__" stH_init ["self", "kinds", "powers", "groups", "changes"] CHangs fH_init _ := ⟨FH_init, FH_init.binds (ps := ["self", "kinds", "powers", "groups", "changes"]) fun _ _ _ _ _ _ us hl => match us, hl with | [_, _, _, _, _], _ => rfl, ⟨mkHangs, aH_init, iH_init, kcHangs⟩⟩
  have Fhangs := fun_mk (st := sthangs) lhangs changs khangs
  have Dhangs : DefAt K mg "hangs" sthangs ["exponents", "result"] fhangs _ := ⟨Fhangs, PySem.W.mg_of X G ahangs, Fhangs.binds (ps := ["exponents", "result"]) fun _ _ _ _ _ _ us hl => match us, hl with | [_, _], _ => rfl⟩
  have F_law_gcd := fun_mk (st := st_law_gcd) l_law_gcd c_law_gcd k_law_gcd
  have D_law_gcd : DefAt K mg "_law_gcd" st_law_gcd ["_law_one", "_law_two"] f_law_gcd _ := ⟨F_law_gcd, PySem.W.mg_of X G a_law_gcd, F_law_gcd.binds (ps := ["_law_one", "_law_two"]) fun _ _ _ _ _ _ us hl => match us, hl with | [_, _], _ => rfl⟩
  have F_law_q := fun_mk (st := st_law_q) l_law_q c_law_q k_law_q
  have D_law_q : DefAt K mg "_law_q" st_law_q ["_law_top", "_law_bottom"] f_law_q _ := ⟨F_law_q, PySem.W.mg_of X G a_law_q, F_law_q.binds (ps := ["_law_top", "_law_bottom"]) fun _ _ _ _ _ _ us hl => match us, hl with | [_, _], _ => rfl⟩
  have F_law_inner := fun_mk (st := st_law_inner) l_law_inner c_law_inner k_law_inner
  have D_law_inner : DefAt K mg "_law_inner" st_law_inner ["_law_row", "_law_column"] f_law_inner _ := ⟨F_law_inner, PySem.W.mg_of X G a_law_inner, F_law_inner.binds (ps := ["_law_row", "_law_column"]) fun _ _ _ _ _ _ us hl => match us, hl with | [_, _], _ => rfl⟩
  have F_law_rank := fun_mk (st := st_law_rank) l_law_rank c_law_rank k_law_rank
  have D_law_rank : DefAt K mg "_law_rank" st_law_rank ["_law_rows"] f_law_rank _ := ⟨F_law_rank, PySem.W.mg_of X G a_law_rank, F_law_rank.binds (ps := ["_law_rows"]) fun _ _ _ _ _ _ us hl => match us, hl with | [_], _ => rfl⟩
  have F_law_is_whole := fun_mk (st := st_law_is_whole) l_law_is_whole c_law_is_whole k_law_is_whole
  have D_law_is_whole : DefAt K mg "_law_is_whole" st_law_is_whole ["_law_value"] f_law_is_whole _ := ⟨F_law_is_whole, PySem.W.mg_of X G a_law_is_whole, F_law_is_whole.binds (ps := ["_law_value"]) fun _ _ _ _ _ _ us hl => match us, hl with | [_], _ => rfl⟩
  have F_law_is_ratio := fun_mk (st := st_law_is_ratio) l_law_is_ratio c_law_is_ratio k_law_is_ratio
  have D_law_is_ratio : DefAt K mg "_law_is_ratio" st_law_is_ratio ["_law_value"] f_law_is_ratio _ := ⟨F_law_is_ratio, PySem.W.mg_of X G a_law_is_ratio, F_law_is_ratio.binds (ps := ["_law_value"]) fun _ _ _ _ _ _ us hl => match us, hl with | [_], _ => rfl⟩
  have F_law_unit_of := fun_mk (st := st_law_unit_of) l_law_unit_of c_law_unit_of k_law_unit_of
  have D_law_unit_of : DefAt K mg "_law_unit_of" st_law_unit_of ["_law_exponents_here", "_law_powers"] f_law_unit_of _ := ⟨F_law_unit_of, PySem.W.mg_of X G a_law_unit_of, F_law_unit_of.binds (ps := ["_law_exponents_here", "_law_powers"]) fun _ _ _ _ _ _ us hl => match us, hl with | [_, _], _ => rfl⟩
  have F_law_is_group := fun_mk (st := st_law_is_group) l_law_is_group c_law_is_group k_law_is_group
  have D_law_is_group : DefAt K mg "_law_is_group" st_law_is_group ["_law_value", "_law_exponents_here"] f_law_is_group _ := ⟨F_law_is_group, PySem.W.mg_of X G a_law_is_group, F_law_is_group.binds (ps := ["_law_value", "_law_exponents_here"]) fun _ _ _ _ _ _ us hl => match us, hl with | [_, _], _ => rfl⟩
  have F_law_matrix := fun_mk (st := st_law_matrix) l_law_matrix c_law_matrix k_law_matrix
  have D_law_matrix : DefAt K mg "_law_matrix" st_law_matrix ["_law_pen_here", "_law_many", "_law_wide", "_law_most"] f_law_matrix _ := ⟨F_law_matrix, PySem.W.mg_of X G a_law_matrix, F_law_matrix.binds (ps := ["_law_pen_here", "_law_many", "_law_wide", "_law_most"]) fun _ _ _ _ _ _ us hl => match us, hl with | [_, _, _, _], _ => rfl⟩
  have F_law_exponents := fun_mk (st := st_law_exponents) l_law_exponents c_law_exponents k_law_exponents
  have D_law_exponents : DefAt K mg "_law_exponents" st_law_exponents ["_law_pen_here", "_law_many", "_law_wide", "_law_most"] f_law_exponents _ := ⟨F_law_exponents, PySem.W.mg_of X G a_law_exponents, F_law_exponents.binds (ps := ["_law_pen_here", "_law_many", "_law_wide", "_law_most"]) fun _ _ _ _ _ _ us hl => match us, hl with | [_, _, _, _], _ => rfl⟩
  have F_law_is_change := fun_mk (st := st_law_is_change) l_law_is_change c_law_is_change k_law_is_change
  have D_law_is_change : DefAt K mg "_law_is_change" st_law_is_change ["_law_value", "_law_wide"] f_law_is_change _ := ⟨F_law_is_change, PySem.W.mg_of X G a_law_is_change, F_law_is_change.binds (ps := ["_law_value", "_law_wide"]) fun _ _ _ _ _ _ us hl => match us, hl with | [_, _], _ => rfl⟩
  have F_law_in_span := fun_mk (st := st_law_in_span) l_law_in_span c_law_in_span k_law_in_span
  have D_law_in_span : DefAt K mg "_law_in_span" st_law_in_span ["_law_exponents_here", "_law_row"] f_law_in_span _ := ⟨F_law_in_span, PySem.W.mg_of X G a_law_in_span, F_law_in_span.binds (ps := ["_law_exponents_here", "_law_row"]) fun _ _ _ _ _ _ us hl => match us, hl with | [_, _], _ => rfl⟩
  have F_law_letter_right := fun_mk (st := st_law_letter_right) l_law_letter_right c_law_letter_right k_law_letter_right
  have D_law_letter_right : DefAt K mg "_law_letter_right" st_law_letter_right ["_law_exponents_here", "_law_result", "_law_told", "_law_j"] f_law_letter_right _ := ⟨F_law_letter_right, PySem.W.mg_of X G a_law_letter_right, F_law_letter_right.binds (ps := ["_law_exponents_here", "_law_result", "_law_told", "_law_j"]) fun _ _ _ _ _ _ us hl => match us, hl with | [_, _, _, _], _ => rfl⟩
  have F_law_right := fun_mk (st := st_law_right) l_law_right c_law_right k_law_right
  have D_law_right : DefAt K mg "_law_right" st_law_right ["_law_exponents_here", "_law_result", "_law_told"] f_law_right _ := ⟨F_law_right, PySem.W.mg_of X G a_law_right, F_law_right.binds (ps := ["_law_exponents_here", "_law_result", "_law_told"]) fun _ _ _ _ _ _ us hl => match us, hl with | [_, _, _], _ => rfl⟩
  have Flaw := fun_mk (st := stlaw) llaw claw klaw
  have Dlaw : DefAt K mg "law" stlaw ["_law_script"] flaw _ := ⟨Flaw, PySem.W.mg_of X G alaw, Flaw.binds (ps := ["_law_script"]) fun _ _ _ _ _ _ us hl => match us, hl with | [_], _ => rfl⟩
  have Es : ErH K mg CZero CHangs := ⟨PySem.W.mg_of X G GGg, PySem.W.mg_of X G GGl, ⟨pgZero, hdZero, poZero, saZero⟩, nZerochange, PySem.W.mg_of X G aCZero, ⟨pgHangs, hdHangs, poHangs, saHangs⟩, nHangskinds, nHangspowers, nHangsgroups, nHangschanges, PySem.W.mg_of X G aCHangs, z1, z2, z3, z4, q1Zero, q2Zero, q3Zero, q4Zero, q1Hangs, q4Hangs⟩
  exact ⟨_, fun s v => .of_eq rfl, fun base _ _ => FnG.of (oklaw (blt_of X G BT0) Es Dis_list Das_tuples0 Das_tuples1 Das_tuples DH_init DZ_init D_law_draw D_law_pick D_law_matrix D_law_exponents D_law_pen D_law_rank D_law_in_span D_law_inner D_law_is_whole D_law_is_change D_law_turned D_law_unit_of D_law_is_group D_law_gcd D_law_is_ratio D_law_q D_law_letter_right D_law_right Dis_whole Dare_integers Dis_matrix Dcheck_matrix Dcheck_exponents Didentity Dcommon_bottom Dwhole_row Dleast_multiple Dlowest Dpivot_of Dletter_groups Dcombined Dwithout_item Dcleared Dprimitive Dspan_of Dtransposed Dhangs Dlaw)⟩

theorem walk {l : PySem.W.OpenLaw} {q : Program} {loose : List Str} {XP : (Str → Option Value) → Heap → Prop} {YP : World → Heap → Prop} {d : DefRec} {K : Params → PySem.W.Frag} (hn : l.most = some 63) (hdf : d.params.defaults = [])
    (hY : ∀ (w : World) (h : Heap), YP w h → (K w.params).In h)
    (F : ∀ (w : World) (mg : Str → Option Value) (fa : Addr) (h : Heap), (K w.params).In h → h.Ns mainGlobals mg → mg d.name = some (.ref fa) → ∃ fd : FuncData, (∀ (s : Shared) (u : Value), BindsTo s fd ⟨[u], []⟩ [("_law_script", u)]) ∧
      ∀ base : Heap, (K w.params).In base → base.Ns mainGlobals mg → FnG l.prog w (K w.params) mg base CX0 10 fa fd ["_law_script"] (spLaw (K w.params))) : PySem.W.WalkO q loose XP YP l.row.toRowW d [] (fun f vs => PySem.call f vs) :=
  walkG (n := 63) (sp := spLaw) hn (by decide) hdf ⟨rfl, by decide, by decide⟩ hY F (fun K H a ns hl _ hS => ⟨a, ns, rfl, hS, hl, fun _ => rfl⟩)
end AL
open PySem PySem.W PyProof.Rows
set_option maxRecDepth 100000 in
set_option maxHeartbeats 0 in
theorem PySem.Challenge.cw_allscales_k51_whole_kinds_of_letters_holds : PySem.Challenge.rw_allscales_k51_whole_kinds_of_letters.Holds := by
  w_on; o_law; k_head; (case hw => w_witness2)
  k_fill
  refine AL.walk (l := PySem.Challenge.rw_allscales_k51_whole_kinds_of_letters) rfl rfl (fun w h Y => PySem.W.kIn_of Y) ?F
  case F =>
    intro w mg fa h KX G hmg
    refine' AL.all_mk KX G hmg ?aCZero ?pgZero ?hdZero ?poZero ?saZero ?mkZero ?kcZero ?sfZero ?q1Zero ?q2Zero ?q3Zero ?q4Zero ?nZerochange ?aCHangs ?pgHangs ?hdHangs ?poHangs ?saHangs ?mkHangs ?kcHangs ?sfHangs ?q1Hangs ?q2Hangs ?q3Hangs ?q4Hangs ?nHangskinds ?nHangspowers ?nHangsgroups ?nHangschanges ?a_law_pen ?l_law_pen ?c_law_pen ?k_law_pen ?a_law_draw ?l_law_draw ?c_law_draw ?k_law_draw ?a_law_pick ?l_law_pick ?c_law_pick ?k_law_pick ?apivot_of ?lpivot_of ?cpivot_of ?kpivot_of ?acombined ?lcombined ?ccombined ?kcombined ?aidentity ?lidentity ?cidentity ?kidentity ?atransposed ?ltransposed ?ctransposed ?ktransposed ?a_law_turned ?l_law_turned ?c_law_turned ?k_law_turned ?aprimitive ?lprimitive ?cprimitive ?kprimitive ?awithout_item ?lwithout_item ?cwithout_item ?kwithout_item ?acleared ?lcleared ?ccleared ?kcleared ?aspan_of ?lspan_of ?cspan_of ?kspan_of ?ais_list ?lis_list ?cis_list ?kis_list ?ais_whole ?lis_whole ?cis_whole ?kis_whole ?aare_integers ?lare_integers ?care_integers ?kare_integers ?ais_matrix ?lis_matrix ?cis_matrix ?kis_matrix ?acheck_matrix ?lcheck_matrix ?ccheck_matrix ?kcheck_matrix ?tcheck_matrix ?acheck_exponents ?lcheck_exponents ?ccheck_exponents ?kcheck_exponents ?aas_tuples0 ?las_tuples0 ?cas_tuples0 ?kas_tuples0 ?aas_tuples1 ?las_tuples1 ?cas_tuples1 ?kas_tuples1 ?aas_tuples ?las_tuples ?cas_tuples ?kas_tuples ?alowest ?llowest ?clowest ?klowest ?acommon_bottom ?lcommon_bottom ?ccommon_bottom ?kcommon_bottom ?awhole_row ?lwhole_row ?cwhole_row ?kwhole_row ?aleast_multiple ?lleast_multiple ?cleast_multiple ?kleast_multiple ?aletter_groups ?lletter_groups ?cletter_groups ?kletter_groups ?aZ_init ?lZ_init ?cZ_init ?kZ_init ?iZ_init ?aH_init ?lH_init ?cH_init ?kH_init ?iH_init ?ahangs ?lhangs ?changs ?khangs ?a_law_gcd ?l_law_gcd ?c_law_gcd ?k_law_gcd ?a_law_q ?l_law_q ?c_law_q ?k_law_q ?a_law_inner ?l_law_inner ?c_law_inner ?k_law_inner ?a_law_rank ?l_law_rank ?c_law_rank ?k_law_rank ?a_law_is_whole ?l_law_is_whole ?c_law_is_whole ?k_law_is_whole ?a_law_is_ratio ?l_law_is_ratio ?c_law_is_ratio ?k_law_is_ratio ?a_law_unit_of ?l_law_unit_of ?c_law_unit_of ?k_law_unit_of ?a_law_is_group ?l_law_is_group ?c_law_is_group ?k_law_is_group ?a_law_matrix ?l_law_matrix ?c_law_matrix ?k_law_matrix ?a_law_exponents ?l_law_exponents ?c_law_exponents ?k_law_exponents ?a_law_is_change ?l_law_is_change ?c_law_is_change ?k_law_is_change ?a_law_in_span ?l_law_in_span ?c_law_in_span ?k_law_in_span ?a_law_letter_right ?l_law_letter_right ?c_law_letter_right ?k_law_letter_right ?a_law_right ?l_law_right ?c_law_right ?k_law_right ?alaw ?llaw ?claw ?klaw ?GGg ?GGl ?z1 ?z2 ?z3 ?z4 ?BT0
    (case aCZero => k_is)
    (case pgZero => k_is)
    (case hdZero => k_is)
    (case poZero => k_is)
    (case saZero => k_is)
    (case mkZero => k_is)
    (case kcZero => k_is)
    (case sfZero => kernel_rfl)
    (case q1Zero => k_is)
    (case q2Zero => k_is)
    (case q3Zero => k_is)
    (case q4Zero => k_is)
    (case nZerochange => k_is)
    (case aCHangs => k_is)
    (case pgHangs => k_is)
    (case hdHangs => k_is)
    (case poHangs => k_is)
    (case saHangs => k_is)
    (case mkHangs => k_is)
    (case kcHangs => k_is)
    (case sfHangs => kernel_rfl)
    (case q1Hangs => k_is)
    (case q2Hangs => k_is)
    (case q3Hangs => k_is)
    (case q4Hangs => k_is)
    (case nHangskinds => k_is)
    (case nHangspowers => k_is)
    (case nHangsgroups => k_is)
    (case nHangschanges => k_is)
    (case a_law_pen => k_is)
    (case l_law_pen => k_is)
    (case c_law_pen => k_is)
    (case k_law_pen => k_is)
    (case a_law_draw => k_is)
    (case l_law_draw => k_is)
    (case c_law_draw => k_is)
    (case k_law_draw => k_is)
    (case a_law_pick => k_is)
    (case l_law_pick => k_is)
    (case c_law_pick => k_is)
    (case k_law_pick => k_is)
    (case apivot_of => k_is)
    (case lpivot_of => k_is)
    (case cpivot_of => k_is)
    (case kpivot_of => k_is)
    (case acombined => k_is)
    (case lcombined => k_is)
    (case ccombined => k_is)
    (case kcombined => k_is)
    (case aidentity => k_is)
    (case lidentity => k_is)
    (case cidentity => k_is)
    (case kidentity => k_is)
    (case atransposed => k_is)
    (case ltransposed => k_is)
    (case ctransposed => k_is)
    (case ktransposed => k_is)
    (case a_law_turned => k_is)
    (case l_law_turned => k_is)
    (case c_law_turned => k_is)
    (case k_law_turned => k_is)
    (case aprimitive => k_is)
    (case lprimitive => k_is)
    (case cprimitive => k_is)
    (case kprimitive => k_is)
    (case awithout_item => k_is)
    (case lwithout_item => k_is)
    (case cwithout_item => k_is)
    (case kwithout_item => k_is)
    (case acleared => k_is)
    (case lcleared => k_is)
    (case ccleared => k_is)
    (case kcleared => k_is)
    (case aspan_of => k_is)
    (case lspan_of => k_is)
    (case cspan_of => k_is)
    (case kspan_of => k_is)
    (case ais_list => k_is)
    (case lis_list => k_is)
    (case cis_list => k_is)
    (case kis_list => k_is)
    (case ais_whole => k_is)
    (case lis_whole => k_is)
    (case cis_whole => k_is)
    (case kis_whole => k_is)
    (case aare_integers => k_is)
    (case lare_integers => k_is)
    (case care_integers => k_is)
    (case kare_integers => k_is)
    (case ais_matrix => k_is)
    (case lis_matrix => k_is)
    (case cis_matrix => k_is)
    (case kis_matrix => k_is)
    (case acheck_matrix => k_is)
    (case lcheck_matrix => k_is)
    (case ccheck_matrix => k_is)
    (case kcheck_matrix => k_is)
    (case tcheck_matrix => k_is)
    (case acheck_exponents => k_is)
    (case lcheck_exponents => k_is)
    (case ccheck_exponents => k_is)
    (case kcheck_exponents => k_is)
    (case aas_tuples0 => k_is)
    (case las_tuples0 => k_is)
    (case cas_tuples0 => k_is)
    (case kas_tuples0 => k_is)
    (case aas_tuples1 => k_is)
    (case las_tuples1 => k_is)
    (case cas_tuples1 => k_is)
    (case kas_tuples1 => k_is)
    (case aas_tuples => k_is)
    (case las_tuples => k_is)
    (case cas_tuples => k_is)
    (case kas_tuples => k_is)
    (case alowest => k_is)
    (case llowest => k_is)
    (case clowest => k_is)
    (case klowest => k_is)
    (case acommon_bottom => k_is)
    (case lcommon_bottom => k_is)
    (case ccommon_bottom => k_is)
    (case kcommon_bottom => k_is)
    (case awhole_row => k_is)
    (case lwhole_row => k_is)
    (case cwhole_row => k_is)
    (case kwhole_row => k_is)
    (case aleast_multiple => k_is)
    (case lleast_multiple => k_is)
    (case cleast_multiple => k_is)
    (case kleast_multiple => k_is)
    (case aletter_groups => k_is)
    (case lletter_groups => k_is)
    (case cletter_groups => k_is)
    (case kletter_groups => k_is)
    (case aZ_init => k_is)
    (case lZ_init => k_is)
    (case cZ_init => k_is)
    (case kZ_init => k_is)
    (case iZ_init => k_is)
    (case aH_init => k_is)
    (case lH_init => k_is)
    (case cH_init => k_is)
    (case kH_init => k_is)
    (case iH_init => k_is)
    (case ahangs => k_is)
    (case lhangs => k_is)
    (case changs => k_is)
    (case khangs => k_is)
    (case a_law_gcd => k_is)
    (case l_law_gcd => k_is)
    (case c_law_gcd => k_is)
    (case k_law_gcd => k_is)
    (case a_law_q => k_is)
    (case l_law_q => k_is)
    (case c_law_q => k_is)
    (case k_law_q => k_is)
    (case a_law_inner => k_is)
    (case l_law_inner => k_is)
    (case c_law_inner => k_is)
    (case k_law_inner => k_is)
    (case a_law_rank => k_is)
    (case l_law_rank => k_is)
    (case c_law_rank => k_is)
    (case k_law_rank => k_is)
    (case a_law_is_whole => k_is)
    (case l_law_is_whole => k_is)
    (case c_law_is_whole => k_is)
    (case k_law_is_whole => k_is)
    (case a_law_is_ratio => k_is)
    (case l_law_is_ratio => k_is)
    (case c_law_is_ratio => k_is)
    (case k_law_is_ratio => k_is)
    (case a_law_unit_of => k_is)
    (case l_law_unit_of => k_is)
    (case c_law_unit_of => k_is)
    (case k_law_unit_of => k_is)
    (case a_law_is_group => k_is)
    (case l_law_is_group => k_is)
    (case c_law_is_group => k_is)
    (case k_law_is_group => k_is)
    (case a_law_matrix => k_is)
    (case l_law_matrix => k_is)
    (case c_law_matrix => k_is)
    (case k_law_matrix => k_is)
    (case a_law_exponents => k_is)
    (case l_law_exponents => k_is)
    (case c_law_exponents => k_is)
    (case k_law_exponents => k_is)
    (case a_law_is_change => k_is)
    (case l_law_is_change => k_is)
    (case c_law_is_change => k_is)
    (case k_law_is_change => k_is)
    (case a_law_in_span => k_is)
    (case l_law_in_span => k_is)
    (case c_law_in_span => k_is)
    (case k_law_in_span => k_is)
    (case a_law_letter_right => k_is)
    (case l_law_letter_right => k_is)
    (case c_law_letter_right => k_is)
    (case k_law_letter_right => k_is)
    (case a_law_right => k_is)
    (case l_law_right => k_is)
    (case c_law_right => k_is)
    (case k_law_right => k_is)
    (case alaw => k_is)
    (case llaw => k_is)
    (case claw => k_is)
    (case klaw => k_is)
    (case GGg => k_is)
    (case GGl => k_is)
    (case z1 => kernel_rfl)
    (case z2 => kernel_rfl)
    (case z3 => kernel_rfl)
    (case z4 => kernel_rfl)
    (case BT0 => kernel_rfl)
#print axioms PySem.Challenge.cw_allscales_k51_whole_kinds_of_letters_holds
