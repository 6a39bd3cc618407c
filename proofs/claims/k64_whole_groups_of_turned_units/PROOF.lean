import PyProof.Rows.All
import Wide.All
import OpenK.AllK
import Wide.FinOn
import HandS.ForMost
import HandS.IsInst
import HandS.ExcInit
import HandS.ExcValue
import HandS.ExcField
import HandS.ExcIs
import HandS.Evl
import HandS.ForExc
import HandS.TryMany
import HandS.Wide
import HandS.Gcd
import HandS.FStr
import HandS.WideBits
import PyProof.StrReplace2
import HandS.Codes
import HandS.StrMore
import PyProof.TupleOfStr
import HandS.Zip
import HandS.Lambda
import HandS.OwnEq
import KE.KEqDeep
import HandS.Walk
import HandS.DictTup
import HandS.TupLe
import HandS.Keys
import HandS.Conv
import KE.KDictPairs
import HandS.TupSets
import KE.GoesMore
import KE.GoesZip
import KE.GoesEnum
import PyProof.WalksMore
import HandS.Flow
import HandS.Defaults
import HandS.Iter
import HandS.TupAny
import HandS.Style
import HandS.EndTab
import KE.KLam
import KE.KNestM
import HandS.MakeKw
import PySem.Challenge.RW_allscales_k64_whole_groups_of_turned_uni
set_option Elab.async false
set_option maxRecDepth 100000
/-! The pen that the laws draw from: a dict with five entries over a copy of the script. -/
namespace AL
open PySem L2

/-- all but what stands at p stays -/
def Keep (p : Addr) (H H' : Hp) : Prop := ∀ b o, b ≠ p → H b = some o → H' b = some o
theorem Keep.refl (p : Addr) (H : Hp) : Keep p H H := fun _ _ _ h => h
theorem Keep.trans {p : Addr} {H H1 H2 : Hp} (a : Keep p H H1) (b : Keep p H1 H2) : Keep p H H2 := fun c o n h => b c o n (a c o n h)
theorem Keep.upd {p : Addr} {H : Hp} {o : HO} : Keep p H (upd H p o) := fun b u n e => by rw [upd_ne n]; exact e
theorem Keep.new {p q : Addr} {H : Hp} {o : HO} (h : H q = none) : Keep p H (L2.upd H q o) := fun b u _ e => by
  rw [upd_ne (ne_of_none e h)]; exact e

def penK (c : Addr) (i d n f : Int) : List (Key × V) :=
  [(.inr "cells", .ref c), (.inr "at", .int i), (.inr "digits", .int d), (.inr "count", .int n), (.inr "fold", .int f)]
section
variable {c : Addr} {i d n f x : Int}
theorem pen_cells : valV (penK c i d n f) (Sum.inr "cells" : Key) = some (.ref c) := by kernel_rfl
theorem pen_at : valV (penK c i d n f) (Sum.inr "at" : Key) = some (.int i) := by kernel_rfl
theorem pen_digits : valV (penK c i d n f) (Sum.inr "digits" : Key) = some (.int d) := by kernel_rfl
theorem pen_count : valV (penK c i d n f) (Sum.inr "count" : Key) = some (.int n) := by kernel_rfl
theorem pen_fold : valV (penK c i d n f) (Sum.inr "fold" : Key) = some (.int f) := by kernel_rfl
theorem put_at : putK (penK c i d n f) (Sum.inr "at" : Key) (.int x) = penK c x d n f := by kernel_rfl
theorem put_digits : putK (penK c i d n f) (Sum.inr "digits" : Key) (.int x) = penK c i x n f := by kernel_rfl
theorem put_count : putK (penK c i d n f) (Sum.inr "count" : Key) (.int x) = penK c i d x f := by kernel_rfl
theorem put_fold : putK (penK c i d n f) (Sum.inr "fold" : Key) (.int x) = penK c i d n x := by kernel_rfl
theorem pen_len : (penK c i d n f).length = 5 := rfl
end
/-- a pen stands at p, its cells at c; it has drawn at most m times -/
structure Pen (H : Hp) (p c : Addr) (m : Nat) : Prop where
  ex : ∃ (ns : List Int) (i d n f : Int), H p = some (.dK (penK c i d n f)) ∧ H c = some (.lst (ns.map V.int)) ∧ 0 ≤ i ∧ 0 ≤ d ∧ 0 ≤ n ∧ n ≤ (m : Int) ∧ 0 ≤ f ∧ f < 2147483648
theorem Pen.mono {H : Hp} {p c : Addr} {m m' : Nat} (h : Pen H p c m) (l : m ≤ m') : Pen H p c m' := by
  obtain ⟨ns, i, d, n, f, h1, h2, h3, h4, h5, h6, h7, h8⟩ := h.ex
  exact ⟨ns, i, d, n, f, h1, h2, h3, h4, h5, by omega, h7, h8⟩
theorem Pen.keep {H H' : Hp} {p c : Addr} {m : Nat} (h : Pen H p c m) (k1 : ∀ o, H p = some o → H' p = some o) (k2 : ∀ o, H c = some o → H' c = some o) : Pen H' p c m := by
  obtain ⟨ns, i, d, n, f, h1, h2, hr⟩ := h.ex
  exact ⟨ns, i, d, n, f, k1 _ h1, k2 _ h2, hr⟩
theorem Pen.same {H H' : Hp} {p c : Addr} {m : Nat} (h : Pen H p c m) (k : Same H H') : Pen H' p c m := h.keep (fun o e => k _ o e) fun o e => k _ o e
theorem Pen.dict {H : Hp} {p c : Addr} {m : Nat} (h : Pen H p c m) : ∃ kvs, H p = some (.dK kvs) := by
  obtain ⟨ns, i, d, n, f, h1, _⟩ := h.ex
  exact ⟨_, h1⟩
/-- what is no dict and stands, stays -/
theorem Keep.rd {p a : Addr} {H H' : Hp} {kvs : List (Key × V)} {u : HO} (k : Keep p H H') (hp : H p = some (.dK kvs)) (h : Rd H a u) (hu : ∀ l, u ≠ .dK l) : Rd H' a u := by
  rcases h with h | ⟨o, h⟩
  · exact .inl (k a _ (fun z => by rw [z, hp] at h; exact hu _ (Option.some.inj h).symm) h)
  · exact .inr ⟨o, k a _ (fun z => by rw [z, hp] at h; cases h) h⟩
theorem Keep.seqL {K : PySem.W.Frag} {p c a : Addr} {m : Nat} {H H' : Hp} {xs : List V} (k : Keep p H H') (hp : Pen H p c m) (h : SqL K H a xs) : SqL K H' a xs := by
  obtain ⟨kvs, hk⟩ := hp.dict
  rcases h with h | h
  · exact .inl (k.rd hk h (fun l z => by cases z))
  · exact .inr h
theorem Keep.seqT {K : PySem.W.Frag} {p c a : Addr} {m : Nat} {H H' : Hp} {xs : List V} (k : Keep p H H') (hp : Pen H p c m) (h : SqT K H a xs) : SqT K H' a xs := by
  obtain ⟨kvs, hk⟩ := hp.dict
  rcases h with h | h
  · exact .inl (k.rd hk h (fun l z => by cases z))
  · exact .inr h
theorem Keep.at {p c a : Addr} {m : Nat} {H H' : Hp} {o : HO} (k : Keep p H H') (hp : Pen H p c m) (h : H a = some o) (hu : ∀ l, o ≠ .dK l) : H' a = some o := by
  obtain ⟨kvs, hk⟩ := hp.dict
  exact k a _ (fun z => by rw [z, hk] at h; exact hu _ (Option.some.inj h).symm) h
theorem Keep.free {p c a : Addr} {m : Nat} {H H' : Hp} (k : Keep p H H') (hp : Pen H p c m) (hp' : Pen H' p c m) (h : H' a = none) : H a = none := by
  cases e : H a with
  | none => rfl
  | some o =>
    by_cases z : a = p
    · obtain ⟨kvs, hk⟩ := hp'.dict
      rw [z, hk] at h; cases h
    · rw [k a o z e] at h; cases h

/-- a def of the module's top, as it stands behind the top -/
structure DefAt (K : PySem.W.Frag) (mg : Str → Option Value) (x : Str) (st : Stmt) (ps : List Str) (f : Addr) (fd : FuncData) : Prop where
  F : Fun K x x st f fd
  m : mg x = some (.ref f)
  b : Binds K fd ps []
/-! ### the promises -/
/-- _law_pen(script) -/
def spPen (K : PySem.W.Frag) : Sp := fun vs H Q _ => ∃ (a : Addr) (ns : List Int), vs = [.ref a] ∧ SqL K H a (ns.map V.int) ∧ ∀ (p c : Addr) (H' : Hp), H p = none → H c = none → p ≠ c → Pen H' p c 0 → Same H H' → Q (.ref p) H'
/-- _law_draw(pen, many) -/
def spDraw : Sp := fun vs H Q _ => ∃ (p c : Addr) (m : Nat) (k : Int), vs = [.ref p, .int k] ∧ Pen H p c m ∧ m < 1000000000 ∧ 0 < k ∧ k < 1000000000 ∧
  ∀ (r : Int) (H' : Hp), 0 ≤ r → r < k → Pen H' p c (m + 1) → Keep p H H' → Q (.int r) H'
/-- _law_pick(pen, some), some a list -/
def spPick (K : PySem.W.Frag) : Sp := fun vs H Q _ => ∃ (p c a : Addr) (m : Nat) (xs : List V), vs = [.ref p, .ref a] ∧ Pen H p c m ∧ m < 1000000000 ∧ SqL K H a xs ∧ 0 < xs.length ∧ xs.length < 1000000000 ∧
  ∀ (j : Nat) (x : V) (H' : Hp), xs[j]? = some x → Pen H' p c (m + 1) → Keep p H H' → Q x H'
end AL
namespace AL
open PySem L2
theorem dget {H : Hp} {a : Addr} {kvs : List (Key × V)} {k : Key} {v : V} (h : H a = some (.dK kvs)) (e : valV kvs k = some v) : DGet H a (kV k) (some v) := by
  rw [← e]; exact DGet.k h
theorem dput {H : Hp} {a : Addr} {kvs kvs' : List (Key × V)} {k : Key} {v : V} (h : H a = some (.dK kvs)) (hl : kvs.length < sizeLine) (e : putK kvs k v = kvs') : DPut H a (kV k) v (upd H a (.dK kvs')) := by
  rw [← e]; exact DPut.k h hl
theorem fmod_in {a b : Int} (h : 0 < b) : 0 ≤ a.fmod b ∧ a.fmod b < b := by
  rw [Int.fmod_eq_emod_of_nonneg a (Int.le_of_lt h)]
  exact ⟨Int.emod_nonneg _ (by omega), Int.emod_lt_of_pos _ h⟩
theorem fdiv_nn {a b : Int} (ha : 0 ≤ a) (h : 0 < b) : 0 ≤ a.fdiv b := by
  rw [Int.fdiv_eq_ediv_of_nonneg a (Int.le_of_lt h)]
  exact Int.ediv_nonneg ha (Int.le_of_lt h)
theorem map_int {ns : List Int} {i : Nat} {y : V} (hi : (ns.map V.int)[i]? = some y) : ∃ z, ns[i]? = some z ∧ y = V.int z := by
  rw [List.getElem?_map] at hi
  cases e : ns[i]? with
  | none => rw [e] at hi; cases hi
  | some z => rw [e] at hi; exact ⟨z, rfl, (Option.some.inj hi).symm⟩
theorem Same.new {H : Hp} {p : Addr} {o : HO} (h : H p = none) : Same H (upd H p o) := fun b u e => by
  rw [upd_ne (ne_of_none e h)]; exact e
end AL
namespace AL
open PySem L2
/-- the built-in names that the top leaves alone -/
def bltNames : List Str := ["abs", "all", "any", "bool", "dict", "enumerate", "int", "isinstance", "len", "list", "max", "min", "range", "repr", "reversed", "set", "sorted", "str", "sum", "tuple", "zip"]
structure Blt (mg : Str → Option Value) : Prop where
  abs_ : mg "abs" = none
  all_ : mg "all" = none
  any_ : mg "any" = none
  bool_ : mg "bool" = none
  dict_ : mg "dict" = none
  enumerate_ : mg "enumerate" = none
  int_ : mg "int" = none
  isinstance_ : mg "isinstance" = none
  len_ : mg "len" = none
  list_ : mg "list" = none
  max_ : mg "max" = none
  min_ : mg "min" = none
  range_ : mg "range" = none
  repr_ : mg "repr" = none
  reversed_ : mg "reversed" = none
  set_ : mg "set" = none
  sorted_ : mg "sorted" = none
  str_ : mg "str" = none
  sum_ : mg "sum" = none
  tuple_ : mg "tuple" = none
  zip_ : mg "zip" = none
def bltB (K : PySem.W.Frag) : Bool := bltNames.all fun x => decide (PySem.W.nsIn K mainGlobals x = some none)
theorem blt_of {K : PySem.W.Frag} {h : Heap} {mg : Str → Option Value} (X : K.In h) (G : h.Ns mainGlobals mg) (b : bltB K = true) : Blt mg := by
  unfold bltB at b
  have all : ∀ x ∈ bltNames, mg x = none := fun x hx => PySem.W.mg_none_of X G (of_decide_eq_true (List.all_eq_true.mp b x hx))
  exact ⟨all _ (by simp [bltNames]), all _ (by simp [bltNames]), all _ (by simp [bltNames]), all _ (by simp [bltNames]), all _ (by simp [bltNames]), all _ (by simp [bltNames]), all _ (by simp [bltNames]), all _ (by simp [bltNames]), all _ (by simp [bltNames]), all _ (by simp [bltNames]), all _ (by simp [bltNames]), all _ (by simp [bltNames]), all _ (by simp [bltNames]), all _ (by simp [bltNames]), all _ (by simp [bltNames]), all _ (by simp [bltNames]), all _ (by simp [bltNames]), all _ (by simp [bltNames]), all _ (by simp [bltNames]), all _ (by simp [bltNames]), all _ (by simp [bltNames])⟩
end AL
set_option Elab.async false
set_option maxRecDepth 100000
namespace AL
open PySem L2 PySem.NumText
theorem digitsVal_app (a b : List Nat) : digitsVal (a ++ b) = digitsVal a * 10 ^ b.length + digitsVal b := by
  have key : ∀ (n : Nat) (b : List Nat), b.length = n → digitsVal (a ++ b) = digitsVal a * 10 ^ b.length + digitsVal b := by
    intro n
    induction n with
    | zero =>
      intro b hb
      have : b = [] := List.length_eq_zero_iff.mp hb
      subst this
      simp [digitsVal]
    | succ n ih =>
      intro b hb
      have hne : b ≠ [] := fun z => by rw [z] at hb; cases hb
      obtain ⟨i, c, rfl⟩ : ∃ i c, b = i ++ [c] := ⟨b.dropLast, b.getLast hne, (List.dropLast_concat_getLast hne).symm⟩
      have hi : i.length = n := by simpa using hb
      rw [← List.append_assoc, digitsVal_snoc, ih i hi, digitsVal_snoc, List.length_append, List.length_singleton, Nat.pow_succ, Nat.add_mul, Nat.mul_assoc]
      omega
  exact key _ b rfl
theorem digitsVal_lt : ∀ (n : Nat) (b : List Nat), b.length = n → AllDigits b → digitsVal b < 10 ^ n
  | 0, b, hl, _ => by
    have : b = [] := List.length_eq_zero_iff.mp hl
    subst this; decide
  | n + 1, b, hl, h => by
    cases b with
    | nil => simp at hl
    | cons c b =>
      have hc := h.head
      have ih := digitsVal_lt n b (by simpa using hl) h.tail
      have e := digitsVal_app [c] b
      rw [List.singleton_append] at e
      have e1 : digitsVal [c] = c - 48 := by show 0 * 10 + (c - 48) = c - 48; omega
      have hl' : b.length = n := by simpa using hl
      rw [e, e1, hl', Nat.pow_succ]
      have : (c - 48) * 10 ^ n ≤ 9 * 10 ^ n := Nat.mul_le_mul_right _ (by omega)
      omega
/-- the last k signs of a number's text -/
theorem last_digits {n k : Nat} (hk : 0 < k) (hl : (TL.numL n).length ≤ 640) :
    (cutS (Str.ofString (toString ((n : Nat) : Int))) (some (-(k : Int))) none).length ≤ 640 ∧
    intText? (cutS (Str.ofString (toString ((n : Nat) : Int))) (some (-(k : Int))) none) = some ((n % 10 ^ k : Nat) : Int) := by
  have htl : (Str.ofString (toString ((n : Nat) : Int))).cps.toList = TL.numL n := TL.tl_num n
  have hlen : (Str.ofString (toString ((n : Nat) : Int))).length = (TL.numL n).length := by rw [TL.len_tl]; exact congrArg List.length (TL.tl_num n)
  have e : (cutS (Str.ofString (toString ((n : Nat) : Int))) (some (-(k : Int))) none).cps.toList = (TL.numL n).drop ((TL.numL n).length - k) := by
    unfold cutS
    rw [htl, hlen]
    have h1 : HT.sIx (TL.numL n).length 0 (some (-(k : Int))) = (TL.numL n).length - k := by
      show (if (-(k : Int)) < 0 then ((-(k : Int)) + ((TL.numL n).length : Int)).toNat else _) = _
      rw [if_pos (by omega)]
      omega
    have h2 : HT.sIx (TL.numL n).length (TL.numL n).length none = (TL.numL n).length := by
      unfold HT.sIx
      simp
    rw [h1, h2]
    simp
    apply List.take_of_length_le
    simp
  have hd := TL.numL_digits n
  have hne := TL.numL_ne n
  have hv := TL.numL_val n
  generalize TL.numL n = l at *
  have hl0 : 0 < l.length := List.length_pos_iff.mpr hne
  have len : (cutS (Str.ofString (toString ((n : Nat) : Int))) (some (-(k : Int))) none).length = (l.drop (l.length - k)).length := by
    rw [← e]; exact Array.length_toList.symm
  have hle : (l.drop (l.length - k)).length ≤ k := by rw [List.length_drop]; omega
  have hdd : AllDigits (l.drop (l.length - k)) := fun c hc => hd c (List.mem_of_mem_drop hc)
  refine ⟨by rw [len, List.length_drop]; omega, ?_⟩
  rw [intText_digits (by rw [e]; exact hdd) (by rw [e]; intro z; have := congrArg List.length z; rw [List.length_drop] at this; simp at this; omega) (by rw [len, List.length_drop]; omega), e]
  congr 2
  have hap := digitsVal_app (l.take (l.length - k)) (l.drop (l.length - k))
  rw [List.take_append_drop, hv] at hap
  have hlt := digitsVal_lt _ _ rfl hdd
  by_cases hkl : k ≤ l.length
  · have : (l.drop (l.length - k)).length = k := by rw [List.length_drop]; omega
    rw [this] at hap hlt
    rw [hap, Nat.mul_comm, Nat.mul_add_mod, Nat.mod_eq_of_lt hlt]
  · have z : l.length - k = 0 := by omega
    rw [z] at hap hlt ⊢
    simp [digitsVal] at hap
    have : n < 10 ^ k := Nat.lt_of_lt_of_le (by rw [List.drop_zero] at hlt; rw [← hv]; exact hlt) (Nat.pow_le_pow_right (by decide) (by omega))
    rw [List.drop_zero, hv, Nat.mod_eq_of_lt this]
end AL
namespace AL
open PySem L2 PySem.NumText
theorem log2_small {n k : Nat} (hk : 0 < k) (h : n < 2 ^ k) : n.log2 < k := by
  by_cases z : n = 0
  · subst z; simpa using hk
  · exact (Nat.log2_lt z).mpr h
theorem pow402 : (10 : Nat) ^ 402 < 2 ^ 1920 := by decide +kernel
theorem thousand (i : Nat) : (1000 : Nat) ^ i = 10 ^ (3 * i) := by rw [Nat.pow_mul]
/-- _law_big(pen, figures) -/
def spBig : Sp := fun vs H Q _ => ∃ (p c : Addr) (m : Nat) (k : Nat), vs = [.ref p, .int (k : Int)] ∧ Pen H p c m ∧ m < 900000000 ∧ 0 < k ∧ k ≤ 400 ∧
  ∀ (r : Nat) (H' : Hp), r < 10 ^ k → Pen H' p c (m + 200) → Keep p H H' → Q (.int (r : Int)) H'
/-- _law_name(pen, used), used a new empty list -/
def spName0 : Sp := fun vs H Q _ => ∃ (p c a : Addr) (m : Nat), vs = [.ref p, .ref a] ∧ Pen H p c m ∧ a ≠ c ∧ m < 900000000 ∧ H a = some (.lst []) ∧
  ∀ (z : Str) (H' : Hp), z.length ≤ 8 → (∀ c ∈ z.cps.toList, c < 128) → Pen H' p c (m + 200) → Keep p (upd H a (.lst [.str z])) H' → Q (.str z) H'
theorem app_tl {z : Str} {c : Nat} : (z ++ (⟨#[c]⟩ : Str)).cps.toList = z.cps.toList ++ [c] := by
  show (z.cps ++ #[c]).toList = _
  rw [Array.toList_append]
theorem pick_of {xs : List V} {P : V → Prop} (h : ∀ x ∈ xs, P x) {j : Nat} {x : V} (e : xs[j]? = some x) : P x := h x (List.mem_of_getElem? e)
end AL
set_option Elab.async false
set_option maxRecDepth 100000
set_option maxHeartbeats 2000000
/-! Defs that ask repr: their promises hold where no repr is under way. -/
namespace AL
open PySem PySem.Spec PyProof.Rows L2

/-- a def's promise, kept wherever no guard stands around -/
structure FnG (P : Program) (w : World) (K : PySem.W.Frag) (mg : Str → Option Value) (base : Heap) (CX : CXT) (k : Nat) (f : Addr) (fd : FuncData) (ps : List Str) (sp : Sp) : Prop where
  len : ∀ xs H Q E, sp xs H Q E → xs.length = ps.length
  run : ∀ (A : Around) (ol : List Env) (s : Shared) (H : Hp) (ar : Args) (us : List Value) (xs : List V) (Q : VK) (E : XK), A.guards = some [] → Room k A → Env0 P w K mg base A ol s H →
    BindsTo s fd ar (ps.zip us) → Vals xs us → sp xs H Q E → codeAny (model P w) A (.call (.ref f) ar) (CR CX ol P w H s Q E) s

theorem FnG.of {P : Program} {w : World} {K : PySem.W.Frag} {mg : Str → Option Value} {base : Heap} {CX : CXT} {k : Nat} {f : Addr} {fd : FuncData} {ps : List Str} {sp : Sp}
    (F : FnOk P w K mg base CX k f fd ps sp) : FnG P w K mg base CX k f fd ps sp :=
  ⟨F.len, fun A ol s H ar us xs Q E _ r e b v h => F.run A ol s H ar us xs Q E r e b v h⟩

/-- a def of the text, by its body -/
theorem okGX {P : Program} {w : World} {K : PySem.W.Frag} {mg : Str → Option Value} {base : Heap} {x qual : Str} {st : Stmt} {f : Addr} {fd : FuncData} {N ps : List Str} {CX : CXT} {k : Nat} {sp : Sp}
    (F : Fun K x qual st f fd) (S : FnScope N ps (defScope st)) (len : ∀ xs H Q E, sp xs H Q E → xs.length = ps.length)
    (body : ∀ (cv : Value) (A : Around) (ol : List Env) (s : Shared) (H : Hp) (xs : List V) (Q : VK) (E : XK), A.guards = some [] → Room k (A.deeper (envOfC qual (defScope st) s.heap.objs.size f cv)) →
      sp xs H Q E → ∃ t, PSs (cxOf CX P w K mg base N qual (defScope st) f cv A ol s H E) (defBody st) t ∧ t { nx := fun _ H' => Q .non H', rt := Q } (start N xs) H) :
    FnG P w K mg base CX (k + 1) f fd ps sp := by
  obtain ⟨c0, d0, kw0, dc0, pm0, an0, cv, ct0, sl0, efd, look, code⟩ := F.ex
  subst efd
  constructor
  · exact len
  · intro A ol s H ar us xs Q E gd room e0 bd vals wish
    have here : K.In s.heap := e0.mod.kin.keeps fun b o z => (e0.bs b o z).1
    have free : s.heap.NoLimit := e0.mod.nolimit.keeps fun b o z => (e0.bs b o z).1
    have kinds : ∀ y ∈ ps.zip us, (defScope st).names.lookup y.1 = some .local ∨ ((defScope st).names.lookup y.1 = some .cell ∧ ((cellsFrom (s.heap.objs.size + 1) (defScope st).names []).lookup y.1).isSome = true) := by
      rintro ⟨n, v⟩ hy
      cases S.par n (List.of_mem_zip hy).1 with
      | inl q => exact .inl q
      | inr q => exact .inr ⟨q, PySem.W.cellsFrom_some _ _ _ (.inl q)⟩
    refine codeAny_call_function room.depth (here _ _ look) rfl S.co S.gen rfl (PySem.W.codeRec_of here code) (bd _ _ _ _ (wpAny_newFunctionEnv_cells S.kind kinds fun env hv s1 ic => ?_))
    subst hv
    refine ⟨free.keeps ic.toInCall.keep, codeAny_func ?_⟩
    obtain ⟨t, run, rd⟩ := body cv A ol s H xs Q E gd (room.deeper _) wish
    have I0 := inv_start (CX := CX) (P := P) (w := w) (cd := cv) (E := E) S room.hd e0 (len _ _ _ _ wish) vals ic
    refine wpAny_mono (run.run [] s1 _ H _ I0 rd) (fun fl s2 z => ?_) fun _ _ z => z
    cases fl with
    | brk => obtain ⟨_, _, _, no⟩ := z; exact no.elim
    | cont => obtain ⟨_, _, _, no⟩ := z; exact no.elim
    | next =>
      obtain ⟨σ2, H2, J, q⟩ := z
      exact ⟨V.non, H2, J.os, J.bare, J.base, J.hok, rfl, q⟩
    | ret u =>
      obtain ⟨v, σ2, H2, J, rv, q⟩ := z
      exact ⟨v, H2, J.os, J.bare, J.base, J.hok, rv, q⟩

/-- .. of which nothing that is raised leaves it -/
theorem okG {P : Program} {w : World} {K : PySem.W.Frag} {mg : Str → Option Value} {base : Heap} {x qual : Str} {st : Stmt} {f : Addr} {fd : FuncData} {N ps : List Str} {k : Nat} {sp : Sp}
    (F : Fun K x qual st f fd) (S : FnScope N ps (defScope st)) (len : ∀ xs H Q E, sp xs H Q E → xs.length = ps.length)
    (body : ∀ (cv : Value) (A : Around) (ol : List Env) (s : Shared) (H : Hp) (xs : List V) (Q : VK) (E : XK), A.guards = some [] → Room k (A.deeper (envOfC qual (defScope st) s.heap.objs.size f cv)) →
      sp xs H Q E → ∃ t, PSs (cxOf CX0 P w K mg base N qual (defScope st) f cv A ol s H E).nox (defBody st) t ∧ t { nx := fun _ H' => Q .non H', rt := Q } (start N xs) H) :
    FnG P w K mg base CX0 (k + 1) f fd ps sp := by
  refine okGX F S len fun cv A ol s H xs Q E gd room wish => ?_
  obtain ⟨t, run, rd⟩ := body cv A ol s H xs Q E gd room wish
  exact ⟨t, run.nox, rd⟩

section
variable {X : Cx} {CX : CXT} {k : Nat} {f : Addr} {fd : FuncData} {ps : List Str} {sp : Sp} {E : XK} {x : Str} {p pos : Pos} {e : Expr} {es : List Expr} {t : TA}
/-- f(e, ..) where no guard stands -/
theorem pe_callG (F : FnG X.prog X.w X.K X.mg X.base CX k f fd ps sp) (gd : X.A.guards = some []) (room : Room k X.A) (hg : Gl X x) (hm : X.mg x = some (.ref f)) (kp : PySem.W.keepIn X.K (.ref f) = true) (hb : Binds X.K fd ps [])
    (out : Passes CX X E) (ha : PA X (e :: es) t) (nd : (x == ("__debug__" : Str)) = false := by decide) (s1 : starEach (e :: es) X.env = (false, eval e X.env) :: starEach es X.env := by rfl)
    (s2 : (backTo pos (starEach es X.env)).any (·.1) = false := by rfl) : PE X (.Call (.Name x p) (e :: es) [] pos) (tCall sp [] E t) := by
  constructor
  intro pins s σ H Q I h
  refine wpAny_Call_Name_kw (ld_glob I hg hm (PySem.W.callWith_K (h₀ := X.base) I.ok.mod.kin kp ?_ s1 s2) nd)
  refine thn (ha.run pos pins s σ H _ I h) fun us s3 ⟨xs, H3, J, rv, q⟩ => ⟨J.kIn, ?_⟩
  have q' : sp xs H3 Q E := by
    have z : sp (xs ++ []) H3 Q E := q
    rw [List.append_nil] at z
    exact z
  have len : us.length = ps.length := by rw [← rv.length]; exact F.len _ _ _ _ q'
  have bd : BindsTo s3 fd ⟨us, []⟩ (ps.zip us) := by
    have z := hb s3 us J.kIn (by rw [List.append_nil]; exact len)
    rw [List.append_nil] at z
    exact z
  refine wpAny_call (codeAny_mono (F.run X.A X.stack s3 H3 ⟨us, []⟩ us xs Q E gd room J.env0 bd rv q') fun r s4 z => ?_)
  cases r with
  | error er => exact out pins σ H3 s3 er s4 J z
  | ok fl =>
    cases fl with
    | ret u => exact J.after z
    | next => exact z.elim
    | brk => exact z.elim
    | cont => exact z.elim
end

/-! ### repr of data -/
/-- repr(x), x a list or a tuple of data -/
def rRepr (K : PySem.W.Frag) : List V → Hp → VK → Prop := fun vs H Q => ∃ (a : Addr) (d : PyData), vs = [.ref a] ∧ Dp K H (.ref a) d ∧ d.showable = true ∧ d.hasDict = false ∧ d.depth ≤ 60 ∧ d.shown.length ≤ sizeLine ∧ Q (.str d.shown) H
theorem call_reprD {X : Cx} (gd : X.A.guards = some []) (hu : X.A.units + 64 < cLine) : CallR X (.builtin "repr") (rRepr X.K) := by
  intro pins s σ H vs us Q I r h
  obtain ⟨a, d, rfl, hd, h1, h2, h3, h4, q⟩ := h
  obtain ⟨u, rfl, ru⟩ := vals1 r
  obtain rfl : u = Value.ref a := ru
  obtain ⟨as, rd⟩ := Dp.reads I d (.ref a) (.ref a) hd rfl
  exact repr_of_reads' rd h1 (PyData.noDict_hsm h2) gd (by omega) (fun _ _ z => z) (fun h' u tk kk => ⟨.str d.shown, H, I.kept (t' := tk) kk, ⟨u, rfl⟩, q⟩) h4
end AL
set_option Elab.async false
set_option maxRecDepth 100000
set_option maxHeartbeats 4000000
/-! Own exceptions held as values: made, their fields read, asked for their class. -/
namespace PySem
open PySem.W PySem.Calls PyProof.Rows
section
variable {prog : Program} {w : World} {A : Around} {E : Value → Shared → Prop} {s : Shared} {K : Frag} {x D : Addr} {ox : Obj} {od : Option Obj}
/-- a data descriptor of the class is found ahead of the own dict -/
theorem al_findObj {C : Addr} {n : Str} {a g : Value} (hc : (clsIn K C).isSome = true) (ha : findIn K (.ref C) n = some (some a)) (hg : specialIn K a "__get__" = some (some g)) (ht : takesIn K a = some true) : findObj K C od n = some (.bind g a) := by
  obtain ⟨cd, e⟩ := Option.isSome_iff_exists.mp hc
  unfold findObj
  rw [e, Option.bind_some, ha, Option.bind_some]
  simp [hg, ht]
/-- e.__class__ of an own exception, whatever its dict holds -/
theorem al_class {Q : Option Value → Shared → Prop} (T : L2.ExcC K D) (X : K.In s.heap) (J : InstAt s.heap x ox D od) (h : Q (some (.ref D)) { s with toks := s.toks + 1 }) : wpAny (model prog w) A (getAttr? (.ref x) "__class__") Q E s := by
  have hf : findObj K D od "__class__" = some (.bind (.builtin "getset_descriptor.__get__") (.builtin "object.__class__")) := al_findObj (by
    obtain ⟨cd, e, _⟩ := any_some T.hd
    rw [e]; rfl) T.ha T.hn T.ht
  obtain ⟨hp, ge, dr, tk, os⟩ := s
  have ty := J.type (M := model prog w)
  have l1 := looks_findIn (M := model prog w) X T.hg
  have l2 := looks_findIn (M := model prog w) X T.hk
  have l3 := looks_find (M := model prog w) X J hf
  have isExc : Looks (model prog w) hp (isInstance (.ref x) (.type "BaseException")) true := ty.andThen (looks_subIn X T.hs)
  have f0 : (false && onTheHeap (Value.builtin "BaseException.__getattribute__")) = false := rfl
  have f1 : (onTheHeap (Value.ref D) && Value.builtin "BaseException.__getattribute__" == Value.builtin "object.__getattribute__") = false := by
    rw [show (Value.builtin "BaseException.__getattribute__" == Value.builtin "object.__getattribute__") = false by decide +kernel]; rfl
  unfold getAttr? getAttrBy? getAttrBy
  refine wpAny_bind (wpAny_mkText (wpAny_bind (wpAny_attempt (wpAny_holding (wpAny_bind (ty.at (wpAny_bind (l1.at ?_))))))))
  show wpAny _ _ (if (onTheHeap (Value.ref D) && Value.builtin "BaseException.__getattribute__" == Value.builtin "object.__getattribute__") = true then _ else _) _ _ _
  rw [f1, if_neg Bool.false_ne_true]
  unfold getAttrByItsOwn hookBefore
  refine wpAny_bind ?_
  have onHp : onTheHeap (Value.ref D) = true := rfl
  rw [if_pos onHp]
  refine l2.at ?_; refine wpAny_bind (wpAny_attempt (wpAny_holding ?_))
  unfold callGetattribute
  rw [f0, if_neg Bool.false_ne_true]
  unfold boundAndCalled
  rw [PySem.F.excAttr_ValueError.ga.bind (.ref x)]
  refine wpAny_bind (wpAny_pure ?_)
  show wpAny _ _ (call (.builtin "BaseException.__getattribute__") [.ref x, .str "__class__" tk]) _ _ _
  refine wpAny_call (codeAny_call_builtin PySem.F.excAttr_ValueError.ga.plain PySem.F.entry_bexc_ga (@check_slot (model prog w) _ _ ⟨hp, ge, dr, tk + 1, os⟩ "BaseException.__getattribute__" "BaseException" "__getattribute__" (.ref x) [.str "__class__" tk] [] _ (by decide +kernel) (by decide +kernel) isExc (PySem.F.args_bexc_ga (.ref x) (.str "__class__" tk)) ?_))
  unfold Builtin.«object.__getattribute__»
  refine wpAny_bind (wpAny_of_eq (a := ((Value.ref x : Value), [Value.str "__class__" tk])) (by first | rfl | (simp only [slotArgs]; rfl)) (wpAny_bind (wpAny_pure (wpAny_bind (ty.at (wpAny_bind (l3.at ?_)))))))
  show wpAny _ _ (holding [Value.builtin "object.__class__"] (call (.builtin "getset_descriptor.__get__") [.builtin "object.__class__", .ref x, .ref D]) >>= ret) _ _ _
  refine wpAny_bind (wpAny_holding (wpAny_call (class_get (s := ⟨hp, ge, dr, tk + 1, os⟩) (ox := ox) (od := od) X J T.hm (wpAny_pure ?_))))
  show wpAny _ _ (handedOut (.ref D)) _ _ _
  rw [handedOut_of (v := .ref D) rfl]
  first
    | exact wpAny_pure (wpAny_pure h)
    | exact wpAny_pure h
    | exact wpAny_pure (wpAny_bind (wpAny_pure (wpAny_pure h)))
theorem al_kitx (T : L2.ExcC K D) : KitX K (.ref x) (.ref D) (fun h => InstAt h x ox D od) := by
  obtain ⟨cd, ecd, _⟩ := any_some T.hd
  have there : ∃ o, K.lookup D = some o ∧ ∀ its n, o.data ≠ .seq its n := by
    unfold clsIn at ecd
    split at ecd
    · rename_i c' d' cd' sl' ho
      exact ⟨_, ho, fun _ _ z => by cases z⟩
    · cases ecd
  constructor
  case ty => exact fun _ _ _ J => J.type
  case it =>
    intro _ _ X _
    unfold clsIn at ecd
    split at ecd
    · rename_i c' d' cd' sl' ho
      intro A' Q' E' s' kk q
      unfold isType loadHead
      exact wpAny_bind (wpAny_loadPart (kk _ _ (X _ _ ho)) (wpAny_pure q))
    · cases ecd
  case ne =>
    intro h tp dd its n sl X htp
    refine Bool.eq_false_iff.mpr fun q => ?_
    have e : D = tp := Value.ref.inj (beq_iff_eq.mp q)
    subst e
    obtain ⟨o, ho, no⟩ := there
    have z := (X _ _ ho).symm.trans htp
    cases z
    exact no _ _ rfl
  case ca => exact fun X J kk => al_class T X J kk
end
end PySem
namespace AL
open PySem PySem.Spec PyProof.Rows L2
/-- C(e, ..), a value -/
def tMkV (C : Addr) (sp : Sp) (ta : TA) : TE := fun σ H Q => ta σ H fun vs H1 => vs.length ≤ 1000 ∧ ∀ a, H1 a = none → sp (.ref a :: vs) (upd H1 a (exo a C none)) (fun v H2 => v = .non ∧ Q (.ref a) H2) fun _ _ _ => False
/-- e.f of such a value -/
def tFv (K : PySem.W.Frag) (f : Str) (te : TE) : TE := fun σ H Q => te σ H fun x H1 => ∃ (a C dx : Addr) (fs : List (Str × V)) (v : V), x = .ref a ∧ XfC K C ∧ PySem.W.findIn K (.ref C) f = some none ∧
  H1 a = some (exo a C (some dx)) ∧ H1 dx = some (exd dx fs) ∧ fs.lookup f = some v ∧ Q v H1
/-- isinstance(e, c) of such a value -/
def rIsV (K : PySem.W.Frag) : List V → Hp → VK → Prop := fun vs H Q => ∃ (a C : Addr) (c : V) (u : Value) (b : Bool), vs = [.ref a, c] ∧ ExcC K C ∧ ((∃ dx fs, H a = some (exo a C (some dx)) ∧ H dx = some (exd dx fs)) ∨ H a = some (ExO (.ref C) a)) ∧
  ClsV c u ∧ PySem.W.kitOne K (.ref C) u = some b ∧ Q (.bl b) H
section
variable {X : Cx} {x : Str} {C fI : Addr} {k : Nat} {fd : FuncData} {ps : List Str} {sp : Sp} {e : Expr} {es : List Expr} {ta : TA} {te : TE} {p pos : Pos} {CX : CXT}
theorem pe_mkV (T : OexC X.K C) (hi : PySem.W.findIn X.K (.ref C) "__init__" = some (some (.ref fI))) (ht : PySem.W.typeIn X.K (.ref fI) = some (.type "function")) (F : FnOk X.prog X.w X.K X.mg X.base CX k fI fd ps sp)
    (room : Room (k + 1) X.A) (hb : Binds X.K fd ps []) (out : Passes CX X fun _ _ _ => False) (hg : Gl X x) (hm : X.mg x = some (.ref C)) (ha : PA X (e :: es) ta) (nd : (x == ("__debug__" : Str)) = false := by decide)
    (s1 : starEach (e :: es) X.env = (false, eval e X.env) :: starEach es X.env := by rfl) (s2 : (backTo pos (starEach es X.env)).any (·.1) = false := by rfl) : PE X (.Call (.Name x p) (e :: es) [] pos) (tMkV C sp ta) := by
  constructor
  intro pins s σ H Q I h
  obtain ⟨_, _, _, _, bm, _, _, _, _, _, _, _, _, _, _, look, isVE⟩ := T.cls
  refine wpAny_Call_Name_kw (ld_glob I hg hm (PySem.W.callWith_K (h₀ := X.base) I.ok.mod.kin T.kC (thn (ha.run pos pins s σ H _ I h) fun us sA hA => ?_) s1 s2) nd)
  obtain ⟨vs, H1, J, rv, few, wish⟩ := hA
  refine ⟨J.kIn, ?_⟩
  show wpAny _ _ (call (.ref C) us) _ _ _
  obtain ⟨hp, ge, dr, tk, os⟩ := sA
  have bound : hp.objs.size ≤ hp.objs.size + 1 := Nat.le_succ _
  have fresh : H1 (hp.objs.size + 1) = none := J.hok.fresh bound
  have goal := wish _ fresh
  have keep : ∀ b o, hp.get? b = some o → ((hp.push (PySem.W.kdv_tup us)).push (PySem.HandSPX.excO C hp.objs.size)).get? b = some o := fun b o z => Heap.get?_push_of_some _ (Heap.get?_push_of_some _ z)
  have there : ((hp.push (PySem.W.kdv_tup us)).push (PySem.HandSPX.excO C hp.objs.size)).get? (hp.objs.size + 1) = some (PySem.HandSPX.excO C hp.objs.size) := by heap_get
  have J2 : Inv X pins σ (upd H1 (hp.objs.size + 1) (exo (hp.objs.size + 1) C none)) ⟨(hp.push (PySem.W.kdv_tup us)).push (PySem.HandSPX.excO C hp.objs.size), ge, dr, tk, os⟩ := J.laid (t' := tk) keep bound (exo_ok there)
  have rv2 : Vals (V.ref (hp.objs.size + 1) :: vs) (Value.ref (hp.objs.size + 1) :: us) := .cons rfl rv
  have many : (Value.ref (hp.objs.size + 1) :: us).length = ps.length := rv2.length.symm.trans (F.len _ _ _ _ goal)
  have few' : us.length ≤ sizeLine := by
    have z := rv.length
    rw [sizeLine_eq]
    omega
  have bd : BindsTo ⟨(hp.push (PySem.W.kdv_tup us)).push (PySem.HandSPX.excO C hp.objs.size), ge, dr, tk, os⟩ fd ⟨Value.ref (hp.objs.size + 1) :: us, []⟩ (ps.zip (Value.ref (hp.objs.size + 1) :: us)) := by
    have z := hb ⟨(hp.push (PySem.W.kdv_tup us)).push (PySem.HandSPX.excO C hp.objs.size), ge, dr, tk, os⟩ (Value.ref (hp.objs.size + 1) :: us) J2.kIn (by rw [List.append_nil]; exact many)
    rw [List.append_nil] at z
    exact z
  refine wpAny_call (PySem.HandSPX.call_own PySem.F.excBase_ValueError (fun Y => PySem.HandSPX.refsVE_contains Y bm isVE) (J.kIn _ _ look) (PySem.W.looks_findIn J.kIn hi) (fun self => PySem.W.bind_fn J.kIn self ht) few' (codeAny_mono
    (F.run _ X.stack _ _ ⟨Value.ref (hp.objs.size + 1) :: us, []⟩ (Value.ref (hp.objs.size + 1) :: us) _ _ (fun _ _ _ => False) (room.make C us []) (J2.env0.make C us []) bd rv2 goal) fun r sB hB => ?_))
  cases r with
  | error er => exact out pins σ _ _ er sB J2 hB
  | ok fl =>
    cases fl with
    | next => exact hB.elim
    | brk => exact hB.elim
    | cont => exact hB.elim
    | ret u =>
      obtain ⟨v, H2, os2, bare2, un2, hok2, rw2, ev, q2⟩ := hB
      subst ev
      refine ⟨rw2, .ref (hp.objs.size + 1), H2, ?_, rfl, q2⟩
      obtain ⟨h2, g2, d2, t2, os'⟩ := sB
      have un1 : Un (frs X.stack) [] H1 H2 hp h2 := (Un.laid keep bound fresh).trans un2
      exact J.call' (ch := []) os2 un1 hok2 bare2 (fun b z => absurd z (by simp))
theorem pe_fv {n : Str} (he : PE X e te) (hb : attributeBase e n X.env (eval e X.env) = eval e X.env := by rfl) : PE X (.Attribute e n pos) (tFv X.K n te) := by
  constructor
  intro pins s σ H Q I h
  refine attr_of hb (thn (he.run pins s σ H _ I h) fun u sA hA => ?_)
  obtain ⟨y, H1, J, ry, a, C, dx, fs, v, rfl, T, no, ea, ed, l, q⟩ := hA
  cases (show u = Value.ref a from ry)
  obtain ⟨t1, oa⟩ := exo_at J.hok ea
  obtain ⟨mA, hns, rel⟩ := exd_at J.hok ed
  obtain ⟨od, ho, hl⟩ := lookIn_ns hns
  obtain ⟨u, hu, ru⟩ := RelO.some_of (v := v) (o := mA n) (by rw [← l]; exact rel n)
  exact HandSPX.exc_get J.kIn (⟨oa, rfl, rfl, ho⟩ : PySem.W.InstAt sA.heap a _ C (some od)) T.ga T.gg T.exC (PySem.W.findObj_own T.hdC no rfl (by rw [hl, hu])) (handed_of ru) ⟨v, H1, J.tok _, ru, q⟩
theorem call_isV : CallR X (.builtin "isinstance") (rIsV X.K) := by
  intro pins s σ H vs us Q I r h
  obtain ⟨a, C, c, u, b, rfl, T, what, kc, e, q⟩ := h
  obtain ⟨u1, u2, rfl, r1, r2⟩ := vals2 r
  cases (show u1 = Value.ref a from r1)
  cases kc.eq r2
  rcases what with ⟨dx, fs, ea, ed⟩ | ea
  · obtain ⟨t1, oa⟩ := exo_at I.hok ea
    obtain ⟨mA, hns, rel⟩ := exd_at I.hok ed
    obtain ⟨od, ho, hl⟩ := lookIn_ns hns
    exact PySem.W.kia_one (al_kitx T) I.kIn (⟨oa, rfl, rfl, ho⟩ : PySem.W.InstAt s.heap a _ C (some od)) e (fun z => nomatch z) fun tk => ⟨.bl b, H, I.tok tk, rfl, q⟩
  · obtain ⟨⟨oe, fv, oa, ⟨z1, z2⟩, z3, _⟩, _⟩ := I.hok a _ ea
    exact PySem.W.kia_one (al_kitx T) I.kIn (⟨oa, z1, by unfold PySem.W.notCls; rw [z3] <;> rfl, by rw [z2]; trivial⟩ : PySem.W.InstAt s.heap a oe C none) e (fun z => nomatch z) fun tk => ⟨.bl b, H, I.tok tk, rfl, q⟩
/-- C() of an own class over ValueError without __init__ -/
theorem pe_mkV0 {bmB : List Value} {B newId initId : String} (F : ExcBaseFacts B newId initId bmB) (ex : PySem.W.excIn X.K C bmB newId = true) (hm : X.mg x = some (.ref C)) (kp : PySem.W.keepIn X.K (.ref C) = true) (hg : Gl X x) (nd : (x == ("__debug__" : Str)) = false := by decide) :
    PE X (.Call (.Name x p) [] [] pos) (fun _ H Q => ∀ a, H a = none → Q (.ref a) (upd H a (ExO (.ref C) a))) := by
  constructor
  intro pins s σ H Q I h
  refine wpAny_Call_Name_kw (ld_glob I hg hm (PySem.W.callWith_K0 I.kIn kp ?_) nd)
  obtain ⟨bm, N, nm, qn, bs, hd, sn, sub, ab, col, dd, c0, c1, c2, c3, c5, mN, hC, hN, hni, T⟩ := exc_obj I.kIn ex
  obtain ⟨hp, ge, dr, tk, os⟩ := s
  refine wpAny_call_exc_subT F T hC hN hni (fun h2 a made => ?_) (Nat.zero_le _)
  have fresh : H a = none := I.hok.gone made.new
  obtain ⟨t, here, _, _⟩ := made.there
  exact ⟨.ref a, upd H a (ExO (.ref C) a), I.laidN (t' := tk) made.keeps made.new fresh (exO_ok here ⟨rfl, rfl⟩ rfl rfl rfl (show 4 < 6 by decide)), rfl, h a fresh⟩
end
end AL
set_option Elab.async false
set_option maxRecDepth 100000
set_option maxHeartbeats 2000000
/-! The end of a law whose def asks repr. -/
namespace AL
open PySem PySem.Spec PyProof.Rows L2
/-- the script's own object -/
def scrO (us : List Value) : Obj := { cls := .type "list", data := .seq us.toArray }
/-- the heap at the law's entry: the script alone, locked (or nothing, where it is the module's own) -/
def scrH (K : PySem.W.Frag) (a : Addr) (us : List Value) (ns : List Int) : Hp := fun b => if b = a ∧ K.lookup a = none then some (.frz (scrO us) (.lst (ns.map V.int))) else none
theorem scrH_some {K : PySem.W.Frag} {a b : Addr} {us : List Value} {ns : List Int} {u : HO} (h : scrH K a us ns b = some u) : b = a ∧ K.lookup a = none ∧ u = .frz (scrO us) (.lst (ns.map V.int)) := by
  unfold scrH at h
  split at h
  · rename_i c
    exact ⟨c.1, c.2, (Option.some.inj h).symm⟩
  · cases h
theorem lawG {P : Program} {w : World} {K : PySem.W.Frag} {mg mb : Str → Option Value} {CX : CXT} {k : Nat} {fa a : Addr} {fd : FuncData} {x : Str} {sp : Sp} {t : Shared} {us : List Value} {ns : List Int}
    (kin : K.In t.heap) (glb : t.heap.Ns mainGlobals mg) (blt : t.heap.Ns builtinsNs mb) (boot : ∀ y : Str, y ≠ "__name__" → mb y = bootBuiltins y) (free : t.heap.NoLimit) (noG : t.gens = #[])
    (at_a : t.heap.get? a = some (scrO us)) (isI : IntsAre us ns) (short : ns.length ≤ sizeLine) (room : Room k callerA)
    (F : ∀ base : Heap, K.In base → base.Ns mainGlobals mg → FnG P w K mg base CX k fa fd [x] sp) (bind : ∀ (s : Shared) (u : Value), BindsTo s fd ⟨[u], []⟩ [(x, u)])
    (wish : ∀ H : Hp, Only H → SqL K H a (ns.map V.int) → sp [.ref a] H (fun v _ => v = .bl true) fun _ _ _ => False)
    (noX : ∀ H e s', CX [] H t (fun _ _ _ => False) e s' → False) :
    codeAny (model P w) callerA (.call (.ref fa) ⟨[.ref a], []⟩) (fun r s' => r = .ok (.ret (.bool true)) ∧ OldK t.heap s'.heap ∧ s'.os = t.os ∧ AllBare s'.gens) t := by
  have vals := vals_ints isI
  have many := isI.length
  have only : Only (scrH K a us ns) := fun b => by
    cases e : scrH K a us ns b with
    | none => exact .inl rfl
    | some u =>
      obtain ⟨_, _, z⟩ := scrH_some e
      exact .inr ⟨_, _, congrArg some z⟩
  have seq : SqL K (scrH K a us ns) a (ns.map V.int) := by
    cases e : K.lookup a with
    | none => exact .inl (.inr ⟨scrO us, if_pos ⟨rfl, e⟩⟩)
    | some o =>
      have z := kin a o e
      rw [at_a] at z
      cases z
      exact .inr ⟨_, us.toArray, _, e, rfl, rfl, rfl, by rw [List.size_toArray, many]; exact short, vals⟩
  have held : HOk P w (scrH K a us ns) t.heap := fun b u e => by
    obtain ⟨rfl, _, rfl⟩ := scrH_some e
    exact ⟨at_a, by rw [List.length_map]; exact short, us, _, vals, at_a⟩
  have noDict : ∀ {b : Addr} {o : Obj} {es : Array DictEntry} {n : Nat}, t.heap.get? b = some o → o.data = .dict es n → scrH K a us ns b = none := by
    intro b o es n e1 e2
    cases e : scrH K a us ns b with
    | none => rfl
    | some u =>
      obtain ⟨rfl, _, _⟩ := scrH_some e
      rw [at_a] at e1
      cases e1
      cases e2
  have ns_of : ∀ {b : Addr} {m : Str → Option Value}, t.heap.Ns b m → (hidT t.heap (scrH K a us ns)).Ns b m := by
    rintro b m ⟨o, es, n, e1, e2, r⟩
    exact ⟨o, es, n, hidT_get e1 (noDict e1 e2), e2, r⟩
  have kin' : K.In (hidT t.heap (scrH K a us ns)) := fun b o e => hidT_get (kin b o e) (by
    cases z : scrH K a us ns b with
    | none => rfl
    | some u =>
      obtain ⟨rfl, n, _⟩ := scrH_some z
      rw [n] at e
      cases e)
  have modl : Mod K mg (hidT t.heap (scrH K a us ns)) := by
    obtain ⟨mc, f1, f2⟩ := free
    exact ⟨kin', ns_of glb, ⟨mb, ns_of blt, boot⟩, ⟨mc, ns_of f1, f2⟩⟩
  have env0 : Env0 P w K mg (hidT t.heap (scrH K a us ns)) callerA [] t (scrH K a us ns) :=
    ⟨rfl, modl, fun b o z => of_hidT z, Nat.le_of_eq (hidT_size _ _), trivial, fun b z => absurd (show b ∈ ([] : List Addr) from z) (by simp), held, .of_eq noG⟩
  refine codeAny_mono ((F _ kin' (ns_of glb)).run callerA [] t _ ⟨[.ref a], []⟩ [.ref a] [.ref a] _ _ rfl room env0 (bind t (.ref a)) (.cons rfl .nil) (wish _ only seq)) fun r s' z => ?_
  cases r with
  | error e => exact (noX _ e s' z).elim
  | ok fl =>
    cases fl with
    | next => exact z.elim
    | brk => exact z.elim
    | cont => exact z.elim
    | ret u =>
      obtain ⟨v, H', os, bare, un, held', rv, q⟩ := z
      cases (show v = .bl true from q)
      cases (show u = Value.bool true from rv)
      refine ⟨rfl, OldK.of_keep fun b o e => ?_, os, bare⟩
      cases c : scrH K a us ns b with
      | none => exact un.keep b o e c (fun z => absurd (show b ∈ ([] : List Addr) from z) (by simp)) (by simp)
      | some u2 =>
        obtain ⟨rfl, _, rfl⟩ := scrH_some c
        obtain ⟨e2, _⟩ := held' _ _ (un.frzs _ _ _ c)
        rw [at_a] at e
        cases e
        exact e2
theorem walkG {l : PySem.W.OpenLaw} {n k : Nat} {q : Program} {loose : List Str} {XP : (Str → Option Value) → Heap → Prop} {YP : World → Heap → Prop} {d : DefRec} {K : Params → PySem.W.Frag} {sp : PySem.W.Frag → Sp} {x : Str}
    (most : l.most = some n) (few : n ≤ sizeLine) (plain : d.params.defaults = []) (room : Room k callerA) (ky : ∀ (w : World) (h : Heap), YP w h → (K w.params).In h)
    (F : ∀ (w : World) (mg : Str → Option Value) (fa : Addr) (h : Heap), (K w.params).In h → h.Ns mainGlobals mg → mg d.name = some (.ref fa) → ∃ fd : FuncData, (∀ (s : Shared) (u : Value), BindsTo s fd ⟨[u], []⟩ [(x, u)]) ∧
      ∀ base : Heap, (K w.params).In base → base.Ns mainGlobals mg → FnG l.prog w (K w.params) mg base CX0 k fa fd [x] (sp (K w.params)))
    (wish : ∀ (K : PySem.W.Frag) (H : Hp) (a : Addr) (ns : List Int), ns.length ≤ n → Only H → SqL K H a (ns.map V.int) → sp K [.ref a] H (fun v _ => v = .bl true) fun _ _ _ => False) :
    PySem.W.WalkO q loose XP YP l.row.toRowW d [] (fun f vs => PySem.call f vs) := by
  refine Att.attach_call most plain ?_
  intro w s0 t mg mb fa o pm cd doc a us ns G Y ho hd hcd hmg at_a isI many noG
  obtain ⟨fd, bind, ok⟩ := F w mg fa _ (ky w _ Y) G.T.g hmg
  exact lawG (ky w _ Y) G.T.g G.T.b G.T.builtins G.T.nolimit noG at_a isI (Nat.le_trans many few) room ok bind (fun H o1 o2 => wish (K w.params) H a ns many o1 o2) fun _ _ _ z => z.elim
end AL
set_option Elab.async false
set_option maxRecDepth 100000
set_option maxHeartbeats 2000000
/-! Own error classes of the program: what the top writes of them, as one Bool a class. -/
namespace AL
open PySem PySem.Spec PyProof.Rows L2
/-- all that is asked of an own error class, but its row -/
def errB (K : PySem.W.Frag) (C : Addr) (fs : List Str) : Bool :=
  decide (PySem.W.findIn K (.ref C) "__setattr__" = some (some (.builtin "object.__setattr__"))) && (decide (PySem.W.subIn K (.ref C) (.type "BaseException") = some true) && (decide (PySem.W.typeIn K (.ref C) = some (.type "type")) && (PySem.W.keepIn K (.ref C) &&
  (xfB K C && (decide (PySem.W.findIn K (.ref C) "__class__" = some (some (.builtin "object.__class__"))) && (decide (PySem.W.specialIn K (.builtin "object.__class__") "__get__" = some (some (.builtin "getset_descriptor.__get__"))) &&
  (decide (PySem.W.takesIn K (.builtin "object.__class__") = some true) && (decide (PySem.W.mroIn K C (.type "object") = some true) && fs.all fun f => decide (PySem.W.findIn K (.ref C) f = some none)))))))))
structure ErrT (K : PySem.W.Frag) (mg : Str → Option Value) (x : Str) (C : Addr) (fs : List Str) : Prop where
  oex : OexC K C
  xf : XfC K C
  ex : ExcC K C
  m : mg x = some (.ref C)
  no : ∀ f ∈ fs, PySem.W.findIn K (.ref C) f = some none
theorem errT_of {K : PySem.W.Frag} {mg : Str → Option Value} {x : Str} {C : Addr} {fs : List Str} {nm q : Str} {N : Addr} {bs bm : List Value} {sn : List Str} {sub : List Value} {ab : Bool} {col : Option Bool} {dd : Option Addr} {k0 k1 k2 k3 k5 : Option Value}
    (row : K.lookup C = some (excClassObj nm q C N bs bm true sn sub ab col dd k0 k1 k2 k3 k5 "ValueError.__new__")) (bmo : PySem.HandSPX.refsVE bm = true) (m : mg x = some (.ref C)) (b : errB K C fs = true) : ErrT K mg x C fs := by
  unfold errB at b
  simp only [Bool.and_eq_true, decide_eq_true_eq, List.all_eq_true] at b
  obtain ⟨b1, b2, b3, b4, b5, b6, b7, b8, b9, b10⟩ := b
  have X := xfB_ok b5
  exact ⟨⟨⟨_, _, _, _, _, _, _, _, _, _, _, _, _, _, _, row, bmo⟩, b1, b2, b3, b4⟩, X, ⟨X.ga, X.gg, b2, X.hdC, b6, b7, b8, b9⟩, m, b10⟩
/-- its own __init__ -/
structure IniT (K : PySem.W.Frag) (qual : Str) (st : Stmt) (ps : List Str) (C fI : Addr) (fd : FuncData) : Prop where
  F : Fun K "__init__" qual st fI fd
  b : Binds K fd ps []
  fi : PySem.W.findIn K (.ref C) "__init__" = some (some (.ref fI))
  ti : PySem.W.typeIn K (.ref fI) = some (.type "function")
/-- __init__(self, f1, ..): the fields are stored -/
def spIni (C : Addr) (fs : List Str) : Sp := fun vs H Q _ => ∃ (a : Addr) (ys : List V), vs = .ref a :: ys ∧ ys.length = fs.length ∧ H a = some (exo a C none) ∧
  ∀ (dx : Addr) (H' : Hp), H dx = none → dx ≠ a → H' a = some (exo a C (some dx)) → H' dx = some (exd dx (fs.zip ys).reverse) → (∀ b, b ≠ a → b ≠ dx → H' b = H b) → Q .non H'
/-- an error of the class at C stands at e -/
def EV (H : Hp) (e C : Addr) : Prop := (∃ dx fs, H e = some (exo e C (some dx)) ∧ H dx = some (exd dx fs)) ∨ H e = some (ExO (.ref C) e)
theorem EV.same {H H' : Hp} {e C : Addr} (h : EV H e C) (s : Same H H') : EV H' e C := by
  rcases h with ⟨dx, fs, h1, h2⟩ | h
  · exact .inl ⟨dx, fs, s _ _ h1, s _ _ h2⟩
  · exact .inr (s _ _ h)
theorem vi_eq {i j : Nat} (h : decide (V.int (i : Int) = V.int (j : Int)) = true) : i = j := by
  have z := of_decide_eq_true h
  injection z with z
  omega
theorem vi_ne {i j : Nat} (h : ¬ decide (V.int (i : Int) = V.int (j : Int)) = true) : i ≠ j := fun e => h (by subst e; exact decide_eq_true rfl)
end AL
set_option Elab.async false
set_option maxRecDepth 100000
set_option maxHeartbeats 4000000
/-! Own errors raised, and caught by several clauses with a name each. -/
namespace AL
open PySem PySem.Spec PyProof.Rows L2
theorem pa_mono {X : Cx} {es : List Expr} {ta : TA} (h : PA X es ta) : PA X es (fun σ H K => ∃ K0 : List V → Hp → Prop, ta σ H K0 ∧ ∀ vs H', K0 vs H' → K vs H') :=
  ⟨fun pos pins s σ H K I ⟨K0, z, i⟩ => thn (h.run pos pins s σ H K0 I z) fun _ _ ⟨vs, H', J, r, q⟩ => ⟨vs, H', J, r, i vs H' q⟩⟩
/-- a weaker reading of what makes an exception -/
theorem pmk_imp {X : Cx} {e : Expr} {t u : L2.St → Hp → XK → Prop} (h : PMk X e t) (i : ∀ σ H Q, u σ H Q → t σ H Q) : PMk X e u := fun pins s σ H Q I z => h pins s σ H Q I (i σ H Q z)
/-- raise C(e, ..): the fields lie in the error's own dict -/
def tRaise (C : Addr) (fs : List Str) (W : WX) (ta : TA) : TS := fun _ σ H => ta σ H fun vs H1 => vs.length = fs.length ∧ ∀ d, H1 d = none → W (.ref C) (some d) σ (upd H1 d (.xd (fs.zip vs).reverse))
section
variable {X : Cx} {x : Str} {C fI : Addr} {fd : FuncData} {ps fs : List Str} {e : Expr} {es : List Expr} {ta : TA} {p pos pos2 : Pos} {k : Nat} {W : WX} {qual : Str} {st : Stmt}
theorem ps_raiseC (calm : X.calm = true) (tk : Takes X W) (T : ErrT X.K X.mg x C fs) (J : IniT X.K qual st ps C fI fd) (F : FnOk X.prog X.w X.K X.mg X.base CX0 k fI fd ps (spIni C fs)) (room : Room (k + 1) X.A) (few : fs.length ≤ 1000) (hg : Gl X x) (ha : PA X (e :: es) ta)
    (nd : (x == ("__debug__" : Str)) = false := by decide) (s1 : starEach (e :: es) X.env = (false, eval e X.env) :: starEach es X.env := by rfl) (s2 : (backTo pos (starEach es X.env)).any (·.1) = false := by rfl) :
    PS X (.Raise (some (.Call (.Name x p) (e :: es) [] pos)) none pos2) (tRaise C fs W ta) := by
  have out : Passes CX0 X fun _ _ _ => False := fun _ _ _ _ _ _ _ z => z.elim
  refine ps_raise (t := fun σ H Q => ta σ H fun vs H1 => vs.length = fs.length ∧ ∀ d, H1 d = none → Q (.ref C) (some d) (upd H1 d (.xd (fs.zip vs).reverse))) calm tk (pmk_imp (pmk_oex T.oex J.fi J.ti F room J.b .nil out hg T.m (pa_mono ha) nd s1 s2) ?_)
  intro σ H Q h
  refine ⟨_, h, ?_⟩
  rintro vs H1 ⟨many, q⟩
  refine ⟨by omega, fun a fresh => ?_⟩
  rw [List.append_nil]
  refine ⟨a, vs, rfl, many, upd_same, fun dx H' hd hne e1 e2 kp => ⟨rfl, dx, _, e1, e2, ?_, ?_⟩⟩
  · rw [upd_ne hne] at hd; exact hd
  · have hd1 : H1 dx = none := by rw [upd_ne hne] at hd; exact hd
    have same : upd (del H' a) dx (.xd (fs.zip vs).reverse) = upd H1 dx (.xd (fs.zip vs).reverse) := by
      funext b
      by_cases hb : b = dx
      · rw [hb, upd_same, upd_same]
      · rw [upd_ne hb, upd_ne hb]
        by_cases hba : b = a
        · rw [hba, del_same, fresh]
        · rw [del_ne hba, kp b hba hb, upd_ne hba]
    rw [same]
    exact q dx hd1
end
/-! ### try: .., except X as n: .., except Y as m: .. -/
/-- a clause: its class, its name's slot, its suite's reading -/
abbrev Cl := Value × Nat × (Addr → Value → Option Addr → TS)
/-- behind a suite its name is gone -/
def Ends.less (D : Ends) (i : Nat) : Ends := { nx := fun σ H => D.nx (σ.set i none) H, rt := D.rt, bk := fun σ H => D.bk (σ.set i none) H, ct := fun σ H => D.ct (σ.set i none) H }
def wNamed (K : PySem.W.Frag) (W0 : WX) (D : Ends) : List Cl → WX
  | [] => W0
  | (c, i, ts) :: r => fun cls d σ H => ∃ b, PySem.W.exmOne K cls c = some b ∧ (b = true → ∀ a, H a = none → ts a cls d (Ends.less D i) (σ.set i (some (.ref a))) H) ∧ (b = false → wNamed K W0 D r cls d σ H)
inductive Named (X : Cx) : List ExceptHandler → List Cl → Prop
  | nil : Named X [] []
  | cons {x n : Str} {c : Value} {i : Nat} {ts : Addr → Value → Option Addr → TS} {b0 : Stmt} {rest : List Stmt} {q1 q2 : Pos} {hd : List ExceptHandler} {l : List Cl} (cl : Names X x c) (sl : X.N[i]? = some n) (lo : X.env.kindOf n = some .local)
      (su : ∀ (a : Addr) (oe : Obj) (cls : Value) (d : Option Addr) (pn : List (Addr × Obj)), Zc cls d oe → (∃ vs, oe.data = .fields vs) → PSs (X.suite a ((a, oe) :: pn)) (b0 :: rest) (ts a cls d)) (r : Named X hd l) :
      Named X (.ExceptHandler (some (.Name x q1)) (some n) (b0 :: rest) q2 :: hd) ((c, i, ts) :: l)
section
variable {X : Cx} {body : List Stmt} {h0 : ExceptHandler} {hd : List ExceptHandler} {l : List Cl} {pos : Pos} {tb : WX → TS} {W0 : WX}
theorem ps_tryN (stk : X.stack = X.env :: X.outer) (frm : X.env.frame = some X.env.locals) (nd : X.N.Nodup) (tk : Takes X W0)
    (inner : ∀ (W : WX) (pn : List (Addr × Obj)) (xe : Value → Shared → Prop), Takes (X.tr pn xe) W → PassesOwn (model X.prog X.w) X.A X.env xe → PSs (X.tr pn xe) body (tb W)) (cls : Named X (h0 :: hd) l) :
    PS X (.Try body (h0 :: hd) [] [] pos) (fun D σ H => tb (wNamed X.K W0 D l) D σ H) := by
  constructor
  intro pins s σ H D I h
  have frames : X.A.frames = some (X.env :: X.outer) := by rw [I.ok.frames, stk]
  let back : Value → Shared → Prop := fun e t1 => wpAny (model X.prog X.w) X.A (noteFrame e X.env) (fun _ t2 => wpAny (model X.prog X.w) X.A (setFlight e none) (fun _ t3 => wpAny (model X.prog X.w) X.A (handleBy e X.env (h0 :: hd)) (SP X pins D) X.xe t3) X.xe t2) X.xe t1
  have caught : ∀ u t, XE (X.tr (X.pn ++ pins) back) (wNamed X.K W0 D l) u t → back u t := by
    rintro u t ⟨a, B, t0, pins0, σ1, H1, ec, ed, rfl, J0, ground, up, sky, fresh, oss, bare, wish⟩
    have J : Inv X pins σ1 H1 t0 := J0.ofTry I.ok
    have sky1 : Sky B (X.env :: X.outer) a (Zc ec ed) X.env.locals t.heap := by rw [← stk]; exact sky
    show wpAny (model X.prog X.w) X.A (noteFrame (.ref a) X.env) _ _ _
    refine Sky.land Zc.steady frames frm sky1 fun g3 fl3 up3 => ?_
    have J3 : Inv X pins σ1 H1 { t with heap := g3 } := J.landed ground fl3.1 (up.trans up3) oss bare
    obtain ⟨o3, v3, at3, z3, dat3⟩ := fl3.there
    have apart : a ∉ frs (X.env :: X.outer) := fun m => by
      obtain ⟨_, o', e', no⟩ := fl3.2.2.1.mem m
      rw [at3] at e'
      cases e'
      exact no _ dat3
    have notL : a ≠ X.env.locals := fun z => apart (List.mem_filterMap.mpr ⟨X.env, List.mem_cons_self, by rw [frm, z]⟩)
    have notF : a ∉ X.fs := fun m => by
      obtain ⟨en, hen, q⟩ := List.mem_filterMap.mp m
      exact apart (List.mem_filterMap.mpr ⟨en, List.mem_cons_of_mem _ hen, q⟩)
    have S3 := J3.suite at3 dat3 fresh notL notF
    suffices all : ∀ {hd' : List ExceptHandler} {l' : List Cl}, Named X hd' l' → wNamed X.K W0 D l' ec ed σ1 H1 → wpAny (model X.prog X.w) X.A (handleBy (.ref a) X.env hd') (SP X pins D) X.xe { t with heap := g3 } from all cls wish
    intro hd' l' nm
    induction nm with
    | nil =>
      intro w0
      refine wpAny_handleBy_nil ?_
      obtain ⟨_, _, _, oe, fv, T, oT, ts', he, hz, hdt, h1, _⟩ := id fl3
      unfold PySem.passOn
      refine wpAny_bind (wpAny_field he hdt h1 ?_)
      have notNone : ¬ ((Value.ref T == Value.none) = true) := by simp
      rw [if_neg notNone]
      have fly : wpAny (model X.prog X.w) X.A (setFlight (.ref a) X.env.frame) (fun _ t4 => wpAny (model X.prog X.w) X.A (throw (.ref a) : Sem Flow) (SP X pins D) X.xe t4) X.xe { t with heap := g3 } := by
        rw [frm]
        exact HandSPX.setFlight_upZ fl3 fun g4 held up4 => wpAny_throw (tk _ _ ⟨a, B, t0, pins, σ1, H1, ec, ed, rfl, J, ground, (up.trans up3).trans up4, .inr (.inr (by rw [stk]; exact held)), fresh, oss, bare, w0⟩)
      first
        | exact wpAny_bind (wpAny_pure (wpAny_bind fly))
        | exact wpAny_bind fly
    | @cons x n c i ts b0 rest q1 q2 hd2 l2 cl sl lo su r ih =>
      rintro ⟨b, isb, yes, no⟩
      refine wpAny_handleBy_cons (codeAny_handlers_test ?_) (by intro q; cases q)
      have LT : PySem.W.Looks (model X.prog X.w) g3 (typeOf (.ref a)) ec := fun A' Q' E' s' k' q' => wpAny_typeOf_ref (k' _ _ at3) (by rw [z3.1]; exact q')
      have LM := PySem.W.exm_one (M := model X.prog X.w) (J3.kIn) LT isb
      have asks : ∀ {Q' : Value → Shared → Prop} {E' : Value → Shared → Prop}, Q' c { t with heap := g3 } → wpAny (model X.prog X.w) (X.A.mark (some (.ref a))) (eval (.Name x q1) X.env) Q' E' { t with heap := g3 } := by
        intro Q' E' q'
        obtain ⟨gl, nodb, known⟩ := cl
        rcases known with hm | ⟨hm, hv, hnn⟩
        · exact ld_glob (X := X.suite a ((a, o3) :: (X.pn ++ pins))) S3 gl hm q' nodb
        · exact ld_blt (X := X.suite a ((a, o3) :: (X.pn ++ pins))) S3 gl hm hv q' hnn nodb
      refine asks (LM.here ?_)
      cases b with
      | false =>
        show wpAny _ X.A (handleBy (.ref a) X.env hd2) _ _ _
        exact ih (no rfl)
      | true =>
        refine codeAny_handlers_suite_as (HandSPX.lands_againZ fl3 fun g4 fl4 up4 => ?_)
        have J4 : Inv X pins σ1 H1 { t with heap := g4 } := J.landed ground fl4.1 ((up.trans up3).trans up4) oss bare
        obtain ⟨o4, v4, at4, z4, dat4⟩ := fl4.there
        have S4 := J4.suite at4 dat4 fresh notL notF
        refine store_ok (X := X.suite a ((a, o4) :: (X.pn ++ pins))) (v := .ref a) S4 nd sl (.inl lo) rfl (fun t5 S5 => ?_) (.inr lo)
        refine wpAny_mono ((su a o4 ec ed (X.pn ++ pins) z4 ⟨_, dat4⟩).run [] t5 _ H1 _ S5 (yes rfl a fresh)) (fun fl6 t6 sp6 => ?_) (fun _ _ z => False.elim z)
        have over : ∀ {σ6 : L2.St} {H6 : Hp} {Q6 : Shared → Prop}, Inv (X.suite a ((a, o4) :: (X.pn ++ pins))) [] σ6 H6 t6 → (∀ t7, Inv X pins (σ6.set i none) H6 t7 → Q6 t7) →
            wpAny (model X.prog X.w) X.A (do bindName X.env n .none; unbindBehindTheSuite X.env n q2) (fun _ t7 => Q6 t7) X.xe t6 := fun S6 q6 => gone_ok (S6.unsuite I.ok) nd sl lo q6
        cases fl6 with
        | next => obtain ⟨σ6, H6, S6, q6⟩ := sp6; exact over S6 fun t7 J7 => ⟨_, _, J7, q6⟩
        | brk => obtain ⟨σ6, H6, S6, q6⟩ := sp6; exact over S6 fun t7 J7 => ⟨_, _, J7, q6⟩
        | cont => obtain ⟨σ6, H6, S6, q6⟩ := sp6; exact over S6 fun t7 J7 => ⟨_, _, J7, q6⟩
        | ret u => obtain ⟨v6, σ6, H6, S6, r6, q6⟩ := sp6; exact over S6 fun t7 J7 => ⟨_, _, _, J7, r6, q6⟩
  refine wpAny_Try_except (wpAny_mono ((inner (wNamed X.K W0 D l) (X.pn ++ pins) back caught PassesOwn.looking).run [] s σ H D (I.toTry _) h) (fun fl t sp => ?_) (fun _ _ z => z))
  cases fl with
  | next => obtain ⟨σ', H', J', q⟩ := sp; exact wpAny_execs_nil ⟨σ', H', J'.ofTry I.ok, q⟩
  | brk => obtain ⟨σ', H', J', q⟩ := sp; exact ⟨σ', H', J'.ofTry I.ok, q⟩
  | cont => obtain ⟨σ', H', J', q⟩ := sp; exact ⟨σ', H', J'.ofTry I.ok, q⟩
  | ret u => obtain ⟨v, σ', H', J', r, q⟩ := sp; exact ⟨v, σ', H', J'.ofTry I.ok, r, q⟩
end
/-- isinstance(e, c) in the suite, e the error with its own dict -/
def rIsS (K : PySem.W.Frag) (a C dx : Addr) : List V → Hp → VK → Prop := fun vs H Q => ∃ (c : V) (u : Value) (b : Bool), vs = [.ref a, c] ∧ ClsV c u ∧ (∃ fs, H dx = some (.xd fs)) ∧ PySem.W.kitOne K (.ref C) u = some b ∧ Q (.bl b) H
theorem call_isS {X : Cx} {a C dx : Addr} {oe : Obj} {pn : List (Addr × Obj)} (T : ExcC X.K C) (hz : Zc (.ref C) (some dx) oe) (hf : ∃ vs, oe.data = .fields vs) : CallR (X.suite a ((a, oe) :: pn)) (.builtin "isinstance") (rIsS X.K a C dx) := by
  intro pins s σ H vs us Q I r h
  obtain ⟨c, u, b, rfl, kc, ⟨fs, hd⟩, e, q⟩ := h
  obtain ⟨u1, u2, rfl, r1, r2⟩ := vals2 r
  cases (show u1 = Value.ref a from r1)
  cases kc.eq r2
  obtain ⟨here, _⟩ := I.pin (a, oe) (List.mem_append.mpr (.inl List.mem_cons_self))
  obtain ⟨fv, hv⟩ := hf
  have at_d : ObjOk X.prog X.w H s.heap dx (.xd fs) := I.hok dx _ hd
  obtain ⟨mA, hns, _⟩ := at_d
  obtain ⟨od, ho, _⟩ := lookIn_ns hns
  have J : PySem.W.InstAt s.heap a oe C (some od) := ⟨here, hz.1, by unfold PySem.W.notCls; rw [hv] <;> rfl, by rw [hz.2]; exact ho⟩
  exact PySem.W.kia_one (al_kitx T) I.kIn J e (fun z => nomatch z) fun tk => ⟨.bl b, H, I.kept (t' := tk) fun _ _ z => z, rfl, q⟩
end AL
set_option Elab.async false
set_option maxRecDepth 100000
set_option maxHeartbeats 4000000
/-! isinstance of a caught own error, its class told where it is read. -/
namespace AL
open PySem PySem.Spec PyProof.Rows L2
def rIsC (K : PySem.W.Frag) (a C : Addr) (cls : Value) (d : Option Addr) : List V → Hp → VK → Prop := fun vs H Q => cls = .ref C ∧ ∃ (dx : Addr), d = some dx ∧ rIsS K a C dx vs H Q
theorem call_isC2 {X : Cx} {a C : Addr} {cls : Value} {d : Option Addr} {oe : Obj} {pn : List (Addr × Obj)} (T : ExcC X.K C) (hz : Zc cls d oe) (hf : ∃ vs, oe.data = .fields vs) : CallR (X.suite a ((a, oe) :: pn)) (.builtin "isinstance") (rIsC X.K a C cls d) := by
  intro pins s σ H vs us Q I r h
  obtain ⟨rfl, dx, rfl, h⟩ := h
  exact call_isS T hz hf pins s σ H vs us Q I r h
end AL
namespace AL
open PySem PySem.Spec PyProof.Rows L2
theorem op_eqS {X : Cx} {a : Addr} {oe : Obj} {pn : List (Addr × Obj)} (hu : X.A.units + 64 < cLine) : OpR (X.suite a ((a, oe) :: pn)) (compareOp .Eq) (rEqD X.K) := op_eqD hu
end AL
set_option Elab.async false
set_option maxRecDepth 100000
set_option exponentiation.threshold 20000
set_option maxHeartbeats 4000000
/-! int(text) and str(int) of up to 4,300 digits, // of ints of any size. -/
namespace PySem
open PySem.W PySem.Calls PySem.NumText PyProof.Rows
theorem al_wp_text {M : Model} {A : Around} {E : Value → Shared → Prop} {s : Shared} {Q : Value → Shared → Prop} {v : Value} {x : Str} {n : Int} (nd : s.heap.NoDigits)
    (rd : (int_private% "readNumeral") (numLimitOf x) 10 (numSeenOf x) = (int_private% "Numeral.value") n) (whole : ((numSeenOf x).length == (numTextOf x).length) = true) (h : Q (.int n s.toks) { s with toks := s.toks + 1 }) :
    wpAny M A ((int_private% "intFromText") v (numTextOf x) 10) Q E s := by
  by_cases short : (numSeenOf x).length ≤ 640
  · have e : numLimitOf x = 0 := if_pos short
    rw [e] at rd
    exact PySem.W.KIN.wp_text short rd whole h
  · have e : numLimitOf x = 4300 := if_neg short
    rw [e] at rd
    obtain ⟨mc, hns, hnone⟩ := nd
    obtain ⟨hp, ge, dr, tk, os⟩ := s
    have lim : ∀ {Q' : Nat → Shared → Prop}, Q' 4300 ⟨hp, ge, dr, tk, os⟩ → wpAny M A Builtin.intMaxStrDigits Q' E ⟨hp, ge, dr, tk, os⟩ := by
      intro Q' q'
      unfold Builtin.intMaxStrDigits
      refine wpAny_bind (wpAny_nsGet hns ?_)
      rw [hnone]
      exact wpAny_pure q'
    repeat (any_goals (first
      | assumption
      | (with_reducible refine wpAny_ite_false (decide_eq_false short) ?_)
      | (with_reducible refine wpAny_ite_true (decide_eq_true whole) ?_)
      | (with_reducible refine lim ?_)
      | wp_step))
    all_goals (try rw [rd])
    all_goals (try dsimp only)
    repeat (any_goals (first
      | assumption
      | (with_reducible refine wpAny_ite_true (decide_eq_true whole) ?_)
      | wp_step))

theorem al_meets_text {x : PySem.Str} {u : Tok} {n : Int} (hx : x.length ≤ sizeLine) (hn : PySem.intText? x = some n) :
    Meets (Builtin.«int.__new__» ⟨[.type "int", .str x u], []⟩) (fun _ R s => s.heap.NoDigits ∧ R (.ok (.ret (.int n s.toks))) { s with toks := s.toks + 1 }) := by
  intro prog w A R s h
  have f1 := F.conv_sub_int
  have f2 := F.madeHere_int
  have f3 := PySem.W.KIN.str_int
  have f4 := PySem.W.KIN.str_idx
  have f5 := PySem.W.KIN.str_trunc
  have f6 : typeOf (.str x u) = pure (.type "str") := rfl
  have rd : (int_private% "readNumeral") (numLimitOf x) 10 (numSeenOf x) = (int_private% "Numeral.value") n ∧ ((numSeenOf x).length == (numTextOf x).length) = true := by
    rcases readAny x hx with ⟨m, h1, h2, h3⟩ | ⟨h1, _⟩
    · rw [hn] at h1
      cases h1
      exact ⟨h3, h2⟩
    · rw [hn] at h1
      cases h1
  have kept := PySem.W.KIN.Hid.mk (And.intro rd h)
  clear rd h hn hx
  obtain ⟨hp, ge, dr, tk, os⟩ := s
  repeat (any_goals (first
    | assumption
    | ((with_reducible show wpAny _ _ ((int_private% "intFromText") _ _ _) _ _ _); refine al_wp_text kept.out.2.1 kept.out.1.1 kept.out.1.2 ?_)
    | wp_step))
  all_goals first | exact kept.out.2.2 | skip
section
variable {prog : Program} {w : World} {A : Around} {E : Value → Shared → Prop} {s : Shared} {Q : Value → Shared → Prop} {x : PySem.Str} {t : Tok} {n : Int}
theorem al_call_text (nd : s.heap.NoDigits) (hx : x.length ≤ sizeLine) (hn : PySem.intText? x = some n) (h : Q (.int n s.toks) { s with toks := s.toks + 1 }) : wpAny (model prog w) A (call (.type "int") [.str x t]) Q E s :=
  call_int_1 (al_meets_text hx hn) ⟨nd, typeIs_int _ _ _, h⟩
end
end PySem
namespace AL
open PySem PySem.Spec PyProof.Rows L2
/-- the limit on digits is as it came -/
def digB (K : PySem.W.Frag) : Bool := decide (PySem.W.nsIn K cStatics "sys.int_max_str_digits" = some none)
theorem noDigits_of {K : PySem.W.Frag} {h : Heap} (X : K.In h) (lim : h.NoLimit) (b : digB K = true) : h.NoDigits := by
  obtain ⟨mc, ns, _⟩ := lim
  refine ⟨mc, ns, ?_⟩
  have e := of_decide_eq_true b
  obtain ⟨o, es, n, ho, hd, _, look⟩ := ns
  unfold PySem.W.nsIn at e
  split at e
  · rename_i c d es' n' sl at_
    have z := (X _ _ at_).symm.trans ho
    cases z
    cases hd
    split at e
    · cases e
    · rename_i none_
      rw [← look]
      unfold nsFind findBy
      rw [← Array.find?_toList, none_]; rfl
  · cases e
section
variable {X : Cx} {k : Nat}
theorem call_int_strL (b : digB X.K = true) : CallR X (.type "int") (fun xs H Q => ∃ a n, xs = [.str a] ∧ PySem.intText? a = some n ∧ a.length ≤ sizeLine ∧ Q (.int n) H) := by
  intro pins s σ H xs us Q I r h
  obtain ⟨a, n, rfl, hn, hl, q⟩ := h
  obtain ⟨u, rfl, t, rfl⟩ := vals1 r
  exact al_call_text (noDigits_of I.kIn I.nolimit b) hl hn ⟨.int n, H, I.tok _, ⟨_, rfl⟩, q⟩
theorem call_str_intL (hd : X.A.handled = none) (b : digB X.K = true) : CallR X (.type "str") (fun xs H Q => ∃ i, xs = [.int i] ∧ i.natAbs < 10 ^ 4300 ∧ Q (.str (toString i)) H) := by
  intro pins s σ H xs us Q I r h
  obtain ⟨i, rfl, hz, q⟩ := h
  obtain ⟨u, rfl, t, rfl⟩ := vals1 r
  exact str_of_int_or hd (noDigits_of I.kIn I.nolimit b) (fun _ => ⟨.str _, H, I.tok _, ⟨_, rfl⟩, q⟩) (fun z => absurd hz (Nat.not_lt.mpr z))
/-- // of an int below 2 ^ 13500 by any divisor but 0 -/
def CDivB (i j : Int) : Prop := j ≠ 0 ∧ i.natAbs < 2 ^ 13500
theorem noPylong_big {i j : Int} (h : i.natAbs < 2 ^ 13500) : Builtin.divisionGoesByPylong i j = false := by
  have hl : i.natAbs.log2 < 13500 := log2_small (by decide) h
  have key : ((if j == 0 then 0 else j.natAbs.log2 / 30 + 1) > 300) → ¬ ((if i == 0 then 0 else i.natAbs.log2 / 30 + 1) > (if j == 0 then 0 else j.natAbs.log2 / 30 + 1) + 150) := by
    intro h1 h2
    split at h2 <;> omega
  show (decide ((if j == 0 then 0 else j.natAbs.log2 / 30 + 1) > 300) && decide ((if i == 0 then 0 else i.natAbs.log2 / 30 + 1) > (if j == 0 then 0 else j.natAbs.log2 / 30 + 1) + 150)) = false
  by_cases h1 : (if j == 0 then 0 else j.natAbs.log2 / 30 + 1) > 300
  · rw [decide_eq_false (key h1), Bool.and_false]
  · rw [decide_eq_false h1, Bool.false_and]
theorem op_fdivB : OpR X (binaryOp .FloorDiv) (rI CDivB fun i j => .int (i.fdiv j)) := by
  intro pins s σ H x y v u Q I rx ry h
  obtain ⟨i, j, rfl, rfl, ⟨hj, hi⟩, q⟩ := h
  obtain ⟨t, rfl⟩ := rx
  obtain ⟨t', rfl⟩ := ry
  exact floordiv_int hj ⟨.int _, H, I.tok _, ⟨_, rfl⟩, q⟩ (.inl (noPylong_big hi))
end
end AL
set_option Elab.async false
set_option maxRecDepth 100000
set_option exponentiation.threshold 70000
set_option maxHeartbeats 4000000
/-! {i} of an int up to 4,300 digits; // where one side is small. -/
namespace PySem
open PySem.W PySem.Calls PySem.NumText PyProof.Rows PySem.Builtin PySem.Builtin.Int
theorem al_repr_at {a : Int} {t : Tok} (h : a.natAbs < 10 ^ 4300) : GivesAt (fun s => s.heap.NoDigits) (Builtin.«int.__repr__» ⟨[.int a t], []⟩) (.str (toString a)) := by
  intro prog w A R s hn hq
  unfold Builtin.«int.__repr__»
  show wpAny _ _ (do let r ← Builtin.overDigitLimit? a; _) _ _ s
  refine wpAny_bind (overDigitLimit_any hn (fun hlt => ?_) (fun hge => absurd h (Nat.not_lt.mpr hge)))
  exact wpAny_bind (wpAny_mkStr (wpAny_pure hq.2) (int_text_fits10 hlt))
theorem al_format_at {a : Int} {t u : Tok} (h : a.natAbs < 10 ^ 4300) : GivesAt (fun s => s.heap.NoDigits) (Builtin.«int.__format__» ⟨[.int a t, .str Str.empty u], []⟩) (.str (toString a)) := by
  intro prog w A R s hn hq
  show wpAny _ _ (do let _kind ← typeNameOf (.str Str.empty u); (do rule "int.format.empty"; again (.builtin "int.__repr__" ⟨[.int a t], []⟩))) _ _ s
  refine wpAny_bind (wpAny_typeNameOf (typeIs_str s _ _) (by decide) fun n => wpAny_bind (wpAny_rule ?_))
  exact wpAny_pure ⟨plainId_quiet (by decide +kernel) _, codeAny_builtin F.entry_int_repr (by rw [Around.under_plainId (by decide +kernel)]; exact al_repr_at h prog w A R s hn hq)⟩
section
variable {w : World} {prog : Program} {s : Shared} {E Q : Value → Shared → Prop} {A : Around} {i : Int} {t : Tok}
theorem al_formatField (free : s.heap.NoDigits) (short : i.natAbs < 10 ^ 4300) (goal : Q (.str (toString i) (s.toks + 1)) { s with toks := s.toks + 1 + 1 }) : wpAny (model prog w) A (formatField (.int i t) Str.empty) Q E s := by
  have text : ∀ s' : Shared, s'.TypeIs (.int i t) "int" := fun s' => typeIs_int s' i t
  refine (wpAny_holding ?_ : wpAny (model prog w) A (holding [.int i t] (pyFormat (.int i t) Str.empty)) Q E s)
  unfold pyFormat
  refine wpAny_bind (wpAny_mkStr (wpAny_bind (m := callSpecial? (.int i t) (Str.ofString "__format__") [.str Str.empty s.toks]) (wpAny_callSpecial?_slot (name := Str.ofString "__format__") (text _) F.slot_int_format
    (call_givesAt F.slot_int_format (text _) F.entry_int_format (F.args_int_format_2 _ _) (al_format_at short) free ⟨int_text_fits10 short, ?_⟩))) (by decide))
  exact (wpAny_bind (wpAny_isInstance (typeIs_str _ _ _) isSubtype_str_str (wpAny_pure goal)) : wpAny (model prog w) A (do if ← isInstance (.str (toString i) (s.toks + 1)) (.type "str") then return (.str (toString i) (s.toks + 1)) else _) Q E _)
end
end PySem
namespace AL
open PySem PySem.Spec PyProof.Rows L2
section
variable {X : Cx}
/-- {i}, i an int -/
def tFmtL (te : TE) : TE := fun σ H Q => te σ H fun x H1 => (∃ y : Str, x = .str y ∧ y.length ≤ sizeLine ∧ Q (.str y) H1) ∨ ∃ i : Int, x = .int i ∧ i.natAbs < 10 ^ 4300 ∧ Q (.str (toString i)) H1
theorem pe_fmtL {e : Expr} {te : TE} {pos : Pos} (b : digB X.K = true) (he : PE X e te) : PE X (.FormattedValue e (-1) none pos) (tFmtL te) := by
  refine ⟨fun pins s σ H Q I h => ?_⟩
  refine wpAny_FormattedValue_plain (thn (he.run pins s σ H _ I h) fun v s1 hv => ?_)
  obtain ⟨x, H1, I1, r1, q⟩ := hv
  rcases q with ⟨y, rfl, hz, q⟩ | ⟨i, rfl, hz, q⟩
  · obtain ⟨t, rfl⟩ := r1
    exact wpAny_formatField_str ⟨.str y, H1, I1, ⟨t, rfl⟩, q⟩ ⟨.str y, H1, I1.tok _, ⟨_, rfl⟩, q⟩ hz
  · obtain ⟨t, rfl⟩ := r1
    exact al_formatField (noDigits_of I1.kIn I1.nolimit b) hz ⟨.str (toString i), H1, I1.tok _, ⟨_, rfl⟩, q⟩
/-- //: the dividend below 2 ^ 13500, or the divisor below 2 ^ 8000 -/
def CDivC (i j : Int) : Prop := j ≠ 0 ∧ (i.natAbs < 2 ^ 13500 ∨ j.natAbs < 2 ^ 8000)
theorem noPylong_low {i j : Int} (h : j.natAbs < 2 ^ 8000) : Builtin.divisionGoesByPylong i j = false := by
  have hl : j.natAbs.log2 < 8000 := log2_small (by decide) h
  have key : ¬ ((if j == 0 then 0 else j.natAbs.log2 / 30 + 1) > 300) := by
    split <;> omega
  show (decide ((if j == 0 then 0 else j.natAbs.log2 / 30 + 1) > 300) && decide ((if i == 0 then 0 else i.natAbs.log2 / 30 + 1) > (if j == 0 then 0 else j.natAbs.log2 / 30 + 1) + 150)) = false
  rw [decide_eq_false key, Bool.false_and]
theorem op_fdivC : OpR X (binaryOp .FloorDiv) (rI CDivC fun i j => .int (i.fdiv j)) := by
  intro pins s σ H x y v u Q I rx ry h
  obtain ⟨i, j, rfl, rfl, ⟨hj, hi⟩, q⟩ := h
  obtain ⟨t, rfl⟩ := rx
  obtain ⟨t', rfl⟩ := ry
  rcases hi with hi | hi
  · exact floordiv_int hj ⟨.int _, H, I.tok _, ⟨_, rfl⟩, q⟩ (.inl (noPylong_big hi))
  · exact floordiv_int hj ⟨.int _, H, I.tok _, ⟨_, rfl⟩, q⟩ (.inl (noPylong_low hi))
end
end AL
set_option Elab.async false
set_option maxRecDepth 100000
set_option exponentiation.threshold 70000
set_option maxHeartbeats 4000000
/-! Texts as rows of codes: slices, prefixes, repeated texts, tuple(text). -/
namespace AL
open PySem PySem.Spec PyProof.Rows L2
abbrev S (l : List Nat) : Str := ⟨l.toArray⟩
theorem S_of (z : Str) : ∃ l, z = S l := ⟨z.cps.toList, by cases z; rfl⟩
theorem S_len (l : List Nat) : (S l).length = l.length := by simp [S, Str.length]
theorem S_tl (l : List Nat) : (S l).cps.toList = l := rfl
theorem S_inj {a b : List Nat} : S a = S b ↔ a = b := ⟨fun h => congrArg (fun x : Str => x.cps.toList) h, fun h => by rw [h]⟩
theorem cut_mid (l : List Nat) (i j : Nat) : cutS (S l) (some (i : Int)) (some (j : Int)) = S ((l.take j).drop i) := by
  unfold cutS
  rw [HT.sIx_nat, HT.sIx_nat, S_len]
  refine S_inj.mpr ?_
  show (l.drop (min i l.length)).take (min j l.length - min i l.length) = _
  rw [← List.drop_take]
  have e1 : l.take (min j l.length) = l.take j := by
    refine (List.take_eq_take_iff).mpr ?_
    omega
  rw [e1]
  by_cases h : i ≤ l.length
  · rw [Nat.min_eq_left h]
  · rw [Nat.min_eq_right (by omega), List.drop_eq_nil_of_le (by rw [List.length_take]; omega), List.drop_eq_nil_of_le (by rw [List.length_take]; omega)]
theorem cut_to (l : List Nat) (j : Nat) : cutS (S l) none (some (j : Int)) = S (l.take j) := by
  have e := cut_mid l 0 j
  have z : HT.sIx (S l).length 0 none = HT.sIx (S l).length 0 (some ((0 : Nat) : Int)) := by rw [HT.sIx_nat]; simp [HT.sIx]
  unfold cutS at e ⊢
  rw [z, e, List.drop_zero]
theorem minusS : ("-" : Str) = S [45] := by kernel_rfl
theorem slashS : ("/" : Str) = S [47] := by kernel_rfl
theorem emptyS : ("" : Str) = S [] := by kernel_rfl
theorem digitsS : ("0123456789" : Str) = S [48, 49, 50, 51, 52, 53, 54, 55, 56, 57] := by kernel_rfl
/-- whether a row of codes begins with a minus -/
def neg (l : List Nat) : Bool := decide (l[0]? = some 45)
theorem starts_minus (l : List Nat) : Txt.startswith (S l) "-" = neg l := by
  rw [minusS]
  unfold Txt.startswith neg
  rw [StrLaws.subAt_eq, S_len, S_len, S_tl, S_tl]
  cases l with
  | nil => rfl
  | cons c l =>
    by_cases h : c = 45
    · subst h; simp
    · simp [h]
theorem strip_minus {l : List Nat} (h : ∀ c, (l.drop (neg l).toNat)[0]? = some c → c ≠ 45) : Txt.lstripChars (S l) "-" = S (l.drop (neg l).toNat) := by
  rw [minusS]
  have key : ∀ m : List Nat, (∀ c, m[0]? = some c → c ≠ 45) → m.takeWhile ((S [45]).cps.contains) = [] := by
    intro m hm
    cases m with
    | nil => rfl
    | cons c m =>
      have : c ≠ 45 := hm c rfl
      have z : ((S [45]).cps.contains c) = false := by
        show (#[45] : Array Nat).contains c = false
        simp [this]
      rw [List.takeWhile_cons, z]; rfl
  unfold Txt.lstripChars Txt.stripBy
  cases l with
  | nil => rfl
  | cons c l =>
    by_cases hc : c = 45
    · subst hc
      have hn : neg (45 :: l) = true := by simp [neg]
      rw [hn] at h ⊢
      have hk := key l (fun d e => h d e)
      have lo : stripLo ((S [45]).cps.contains) true (S (45 :: l)) = 1 := by
        show ((45 :: l).takeWhile _).length = 1
        rw [List.takeWhile_cons, show ((S [45]).cps.contains 45) = true by show (#[45] : Array Nat).contains 45 = true; simp, if_pos rfl, hk]; rfl
      have ne : stripSame ((S [45]).cps.contains) true false (S (45 :: l)) = false := by
        unfold stripSame
        rw [lo]; rfl
      rw [ne, if_neg (by decide)]
      unfold stripped
      rw [lo]
      show Builtin.Str.strSub (S (45 :: l)) 1 (S (45 :: l)).length = S l
      rw [S_len, strSub_mk]
      refine S_inj.mpr ?_
      show List.take _ ((45 :: l).drop 1) = l
      simp
    · have hn : neg (c :: l) = false := by simp [neg, hc]
      rw [hn] at h ⊢
      have hk := key (c :: l) (fun d e => by simp at e; rw [← e]; exact hc)
      have same : stripSame ((S [45]).cps.contains) true false (S (c :: l)) = true := by
        unfold stripSame
        have lo : stripLo ((S [45]).cps.contains) true (S (c :: l)) = 0 := by
          show ((c :: l).takeWhile _).length = 0
          rw [hk]; rfl
        rw [lo]
        simp [stripHi]
      rw [same, if_pos rfl]
      rfl
theorem pair_ix {α β : Type} {F : α → β → Prop} : ∀ {xs : List α} {ys : List β}, xs.length = ys.length → (∀ (j : Nat) x y, xs[j]? = some x → ys[j]? = some y → F x y) → Paired F xs ys
  | [], [], _, _ => .nil
  | [], _ :: _, h, _ => by cases h
  | _ :: _, [], h, _ => by cases h
  | x :: xs, y :: ys, h, k => .cons (k 0 x y rfl rfl) (pair_ix (Nat.succ.inj h) fun j a b e f => k (j + 1) a b e f)
/-! ### the rules -/
section
variable {X : Cx}
/-- z * k, z a short text -/
theorem op_mulS : OpR X (binaryOp .Mult) (fun x y H Q => ∃ (z : Str) (k : Nat), x = .str z ∧ y = .int (k : Int) ∧ z.length ≤ 10 ∧ k ≤ 10000 ∧ ∀ z' : Str, z'.length ≤ z.length * k → Q (.str z') H) := by
  intro pins s σ H x y v u Q I rx ry h
  obtain ⟨z, k, rfl, rfl, hz, hk, q⟩ := h
  obtain ⟨t, rfl⟩ := rx
  obtain ⟨t', rfl⟩ := ry
  have hfit : z.length * k ≤ 100000 := Nat.le_trans (Nat.mul_le_mul hz hk) (by decide)
  refine SB.mul ⟨?_, fun h1 _ => ?_, fun _ _ => ?_⟩ fun tk n => ⟨.str _, H, I.tok _, ⟨_, rfl⟩, q _ ?_⟩
  · rw [Bool.or_eq_false_iff]
    exact ⟨decide_eq_false (by omega), decide_eq_false (by omega)⟩
  · have hk0 : 0 < (k : Int) := by omega
    have : ((2 : Int) ^ 63 - 1) / (k : Int) ≥ 10 := by
      rw [ge_iff_le, Int.le_ediv_iff_mul_le hk0]
      have : (10 : Int) * k ≤ 100000 := by omega
      exact Int.le_trans this (by decide)
    omega
  · unfold Builtin.Str.tooLong
    rw [Int.toNat_natCast]
    refine decide_eq_false (Nat.not_lt.mpr (Nat.le_trans hfit (by decide)))
  · unfold Txt.mul
    split
    · exact Nat.zero_le _
    · split
      · rename_i h1 h2
        have hk1 : 1 ≤ k := by omega
        exact Nat.le_mul_of_pos_right _ hk1
      · rw [Int.toNat_natCast]
        have key : ∀ (n : Nat) (acc : Array Nat), ((List.replicate n z.cps).foldl (· ++ ·) acc).size = acc.size + n * z.cps.size := by
          intro n
          induction n with
          | zero => intro acc; simp
          | succ n ih => intro acc; rw [List.replicate_succ, List.foldl_cons, ih, Array.size_append, Nat.succ_mul]; omega
        show ((List.replicate k z.cps).foldl (· ++ ·) #[]).size ≤ z.length * k
        rw [key, Nat.mul_comm k]
        show 0 + z.cps.size * k ≤ z.cps.size * k
        omega
/-- tuple(text) -/
theorem call_tuple_text (hh : X.A.handled = none) : CallR X (.type "tuple") (fun xs H Q => ∃ l : List Nat, xs = [.str (S l)] ∧ l.length ≤ sizeLine ∧ ∀ p, H p = none → Q (.ref p) (upd H p (.tup (l.map fun c => V.str (S [c]))))) := by
  intro pins s σ H xs us Q I r h
  obtain ⟨l, rfl, hl, q⟩ := h
  obtain ⟨u, rfl, t, rfl⟩ := vals1 r
  have hsz : (S l).cps.size = l.length := by simp [S]
  refine call_tuple_str hh _ _ (fun h' tk acc kp it => ?_) (by rw [hsz]; exact hl)
  have gone : s.heap.get? h'.objs.size = none := by
    cases e : s.heap.get? h'.objs.size with
    | none => rfl
    | some o =>
      have z := kp _ _ e
      rw [Heap.get?_none_of_le (Nat.le_refl _)] at z
      cases z
  have fresh : H h'.objs.size = none := I.hok.gone gone
  have vals : Vals (l.map fun c => V.str (S [c])) acc.toList := by
    obtain ⟨i1, i2⟩ := it
    rw [hsz] at i1
    refine pair_ix (by rw [List.length_map]; exact i1.symm.trans Array.length_toList.symm) fun j x y hx hy => ?_
    rw [List.getElem?_map] at hx
    rw [Array.getElem?_toList] at hy
    obtain ⟨c, u, e1, e2⟩ := i2 j y hy
    have e1' : l[j]? = some c := by simpa [S] using e1
    rw [e1'] at hx
    cases hx
    exact ⟨u, e2⟩
  have I2 : Inv X pins σ (upd H h'.objs.size (.tup (l.map fun c => V.str (S [c])))) { s with heap := h'.push { cls := .type "tuple", data := .seq acc }, toks := tk } :=
    I.laidN (t' := tk) (fun b o e => Heap.get?_push_of_some _ (kp b o e)) gone fresh (show ObjOk X.prog X.w _ _ _ (.tup _) from ⟨by rw [List.length_map]; exact hl, acc.toList, vals, by
      rw [show acc.toList.toArray = acc by simp]; exact IsTup.new _ _⟩)
  exact ⟨.ref h'.objs.size, _, I2, rfl, q _ fresh⟩
end
end AL
set_option Elab.async false
set_option maxRecDepth 100000
set_option exponentiation.threshold 70000
/-! What a text of a ratio is read as. -/
namespace AL
open PySem L2 PySem.NumText
def isD (c : Nat) : Bool := decide (48 ≤ c) && decide (c ≤ 57)
theorem isD_mem (c : Nat) : isD c = decide (c ∈ [48, 49, 50, 51, 52, 53, 54, 55, 56, 57]) := by
  unfold isD
  by_cases h : 48 ≤ c ∧ c ≤ 57
  · have : c ∈ [48, 49, 50, 51, 52, 53, 54, 55, 56, 57] := by simp; omega
    simp [h.1, h.2, this]
  · have : ¬ c ∈ [48, 49, 50, 51, 52, 53, 54, 55, 56, 57] := by simp; omega
    simp [this]; omega
/-- where the digits that begin at i end -/
def dEnd (l : List Nat) (i : Nat) : Nat := i + ((l.drop i).takeWhile isD).length
theorem dEnd_ge (l : List Nat) (i : Nat) : i ≤ dEnd l i := Nat.le_add_right _ _
theorem tw_le {p : Nat → Bool} : ∀ l : List Nat, (l.takeWhile p).length ≤ l.length
  | [] => Nat.le_refl _
  | c :: l => by
    rw [List.takeWhile_cons]
    split
    · exact Nat.succ_le_succ (tw_le l)
    · exact Nat.zero_le _
theorem tw_at {p : Nat → Bool} : ∀ (l : List Nat) (j : Nat) (c : Nat), j < (l.takeWhile p).length → l[j]? = some c → p c = true
  | [], j, c, h, _ => by cases h
  | d :: l, j, c, h, e => by
    rw [List.takeWhile_cons] at h
    split at h
    · rename_i hd
      cases j with
      | zero => cases e; exact hd
      | succ j => exact tw_at l j c (Nat.lt_of_succ_lt_succ h) e
    · cases h
theorem tw_end {p : Nat → Bool} : ∀ (l : List Nat) (c : Nat), l[(l.takeWhile p).length]? = some c → p c = false
  | [], c, e => by cases e
  | d :: l, c, e => by
    rw [List.takeWhile_cons] at e
    split at e
    · exact tw_end l c e
    · rename_i hd
      cases e
      exact Bool.eq_false_iff.mpr hd
theorem dEnd_le {l : List Nat} {i : Nat} (h : i ≤ l.length) : dEnd l i ≤ l.length := by
  have := tw_le (p := isD) (l.drop i)
  rw [List.length_drop] at this
  unfold dEnd; omega
theorem dEnd_in {l : List Nat} {i j c : Nat} (h0 : i ≤ j) (h : j < dEnd l i) (e : l[j]? = some c) : isD c = true := by
  refine tw_at (l.drop i) (j - i) c (by unfold dEnd at h; omega) ?_
  rw [List.getElem?_drop, show i + (j - i) = j by omega]
  exact e
theorem dEnd_out {l : List Nat} {i c : Nat} (e : l[dEnd l i]? = some c) : isD c = false := by
  refine tw_end (l.drop i) c ?_
  rw [List.getElem?_drop]
  exact e
/-- the row of digits from i on -/
def rowAt (l : List Nat) (i j : Nat) : List Nat := (l.take j).drop i
theorem rowAt_len {l : List Nat} {i j : Nat} (h : j ≤ l.length) : (rowAt l i j).length = j - i := by
  unfold rowAt
  rw [List.length_drop, List.length_take]; omega
theorem rowAt_digits {l : List Nat} {i : Nat} : AllDigits (rowAt l i (dEnd l i)) := by
  intro c hc
  obtain ⟨j, hj⟩ := List.mem_iff_getElem?.mp hc
  unfold rowAt at hj
  rw [List.getElem?_drop, List.getElem?_take] at hj
  split at hj
  · have := dEnd_in (Nat.le_add_right i j) (by assumption) hj
    unfold isD at this
    simpa using this
  · cases hj
inductive Res | text (c : Nat) | large (n : Nat) | ratio (p q : Int)
/-- the first sign's place behind a minus -/
def fst0 (l : List Nat) : Nat := if neg l = true then 1 else 0
def mid0 (l : List Nat) : Nat := dEnd l (fst0 l)
def end0 (l : List Nat) : Nat := dEnd l (mid0 l + 1)
def slash0 (l : List Nat) : Bool := decide (l[mid0 l]? = some 47)
def sgn (l : List Nat) (n : Int) : Int := if neg l = true then -n else n
def topV (l : List Nat) : Nat := digitsVal (rowAt l (fst0 l) (mid0 l))
def botV (l : List Nat) : Nat := digitsVal (rowAt l (mid0 l + 1) (end0 l))
def red (a b : Nat) : Int × Int := (((a / Nat.gcd a b : Nat) : Int), ((b / Nat.gcd a b : Nat) : Int))
def res (l : List Nat) : Res :=
  if mid0 l = fst0 l then .text (fst0 l + 1) else
  if slash0 l = true then
    if end0 l = mid0 l + 1 then .text (end0 l + 1) else
    if end0 l < l.length then .text (end0 l + 1) else
    if 4000 < mid0 l - fst0 l then .large (mid0 l - fst0 l) else
    if 4000 < end0 l - (mid0 l + 1) then .large (end0 l - (mid0 l + 1)) else
    if botV l = 0 then .text (mid0 l + 2) else .ratio (sgn l (red (topV l) (botV l)).1) (red (topV l) (botV l)).2
  else if mid0 l < l.length then .text (mid0 l + 1) else
    if 4000 < mid0 l - fst0 l then .large (mid0 l - fst0 l) else .ratio (sgn l (topV l)) 1
/-- the first wrong column, 0 if there is none -/
def wcol (l : List Nat) : Nat :=
  if mid0 l = fst0 l then fst0 l + 1 else
  if slash0 l = true then if end0 l = mid0 l + 1 ∨ end0 l < l.length then end0 l + 1 else 0
  else if mid0 l < l.length then mid0 l + 1 else 0
theorem fst0_le (l : List Nat) : fst0 l ≤ l.length := by
  unfold fst0 neg
  cases l with
  | nil => decide
  | cons c l => split <;> simp
theorem mid0_le (l : List Nat) : mid0 l ≤ l.length := dEnd_le (fst0_le l)
theorem fst_mid (l : List Nat) : fst0 l ≤ mid0 l := dEnd_ge _ _
theorem slash_lt {l : List Nat} (h : slash0 l = true) : mid0 l < l.length := by
  have := of_decide_eq_true h
  exact (List.getElem?_eq_some_iff.mp this).1
theorem end0_le {l : List Nat} (h : slash0 l = true) : end0 l ≤ l.length := dEnd_le (slash_lt h)
theorem res_bad {l : List Nat} (h : 0 < wcol l) : res l = .text (wcol l) := by
  unfold wcol at h ⊢
  unfold res
  by_cases h1 : mid0 l = fst0 l
  · rw [if_pos h1, if_pos h1]
  · rw [if_neg h1] at h ⊢
    rw [if_neg h1]
    by_cases h2 : slash0 l = true
    · rw [if_pos h2] at h ⊢
      rw [if_pos h2]
      by_cases h3 : end0 l = mid0 l + 1
      · rw [if_pos h3, if_pos (.inl h3)]
      · rw [if_neg h3]
        by_cases h4 : end0 l < l.length
        · rw [if_pos h4, if_pos (.inr h4)]
        · rw [if_neg (by omega)] at h
          omega
    · rw [if_neg h2] at h ⊢
      rw [if_neg h2]
      by_cases h4 : mid0 l < l.length
      · rw [if_pos h4, if_pos h4]
      · rw [if_neg h4] at h
        omega
/-- a text without a wrong column -/
theorem wcol0 {l : List Nat} (h : wcol l = 0) : fst0 l < mid0 l ∧ ((slash0 l = true ∧ mid0 l + 1 < end0 l ∧ end0 l = l.length) ∨ (slash0 l = false ∧ mid0 l = l.length)) := by
  have a1 := fst_mid l
  have a2 := mid0_le l
  unfold wcol at h
  by_cases h1 : mid0 l = fst0 l
  · rw [if_pos h1] at h; omega
  · rw [if_neg h1] at h
    refine ⟨by omega, ?_⟩
    by_cases h2 : slash0 l = true
    · rw [if_pos h2] at h
      have a3 := end0_le h2
      have a4 : mid0 l + 1 ≤ end0 l := dEnd_ge _ _
      by_cases h3 : end0 l = mid0 l + 1 ∨ end0 l < l.length
      · rw [if_pos h3] at h; omega
      · exact .inl ⟨h2, by omega, by omega⟩
    · rw [if_neg h2] at h
      by_cases h4 : mid0 l < l.length
      · rw [if_pos h4] at h; omega
      · exact .inr ⟨Bool.eq_false_iff.mpr h2, by omega⟩
theorem res_ok {l : List Nat} (h : wcol l = 0) : res l =
    if 4000 < mid0 l - fst0 l then .large (mid0 l - fst0 l) else
    if slash0 l = true then if 4000 < end0 l - (mid0 l + 1) then .large (end0 l - (mid0 l + 1)) else
      if botV l = 0 then .text (mid0 l + 2) else .ratio (sgn l (red (topV l) (botV l)).1) (red (topV l) (botV l)).2
    else .ratio (sgn l (topV l)) 1 := by
  obtain ⟨h1, h2⟩ := wcol0 h
  unfold res
  rw [if_neg (by omega)]
  rcases h2 with ⟨e, h3, h4⟩ | ⟨e, h3⟩
  · rw [if_pos e, if_pos e, if_neg (by omega), if_neg (by omega)]
  · rw [if_neg (by rw [e]; decide), if_neg (by omega)]
    split
    · rfl
    · rw [if_neg (by rw [e]; decide)]
/-! ### Euclid's steps -/
def pairOk (a b : Nat) (i x y : Nat) : Prop := Nat.gcd x y = Nat.gcd a b ∧ (i = 0 → x = a ∧ y = b) ∧ (0 < i → y ≤ x ∧ x * y * 2 ^ (i - 1) ≤ a * b)
theorem pairOk0 (a b : Nat) : pairOk a b 0 a b := ⟨rfl, fun _ => ⟨rfl, rfl⟩, fun h => absurd h (Nat.lt_irrefl _)⟩
theorem pairOk_step {a b i x y : Nat} (h : pairOk a b i x y) (hy : y ≠ 0) : pairOk a b (i + 1) y (x % y) := by
  obtain ⟨h1, h2, h3⟩ := h
  have hlt : x % y < y := Nat.mod_lt _ (by omega)
  refine ⟨?_, fun z => by omega, fun _ => ⟨Nat.le_of_lt hlt, ?_⟩⟩
  · rw [← h1, Nat.gcd_comm x y, Nat.gcd_rec y x, Nat.gcd_comm]
  · rw [Nat.add_sub_cancel]
    by_cases hi : i = 0
    · obtain ⟨rfl, rfl⟩ := h2 hi
      subst hi
      rw [Nat.pow_zero, Nat.mul_one, Nat.mul_comm x y]
      exact Nat.mul_le_mul_left _ (Nat.mod_le _ _)
    · obtain ⟨h4, h5⟩ := h3 (by omega)
      obtain ⟨j, rfl⟩ : ∃ j, i = j + 1 := ⟨i - 1, by omega⟩
      rw [Nat.add_sub_cancel] at h5
      have half : 2 * (x % y) ≤ x := by
        have e := Nat.div_add_mod x y
        have hq : 1 ≤ x / y := (Nat.le_div_iff_mul_le (by omega)).mpr (by omega)
        have hm : y ≤ y * (x / y) := Nat.le_mul_of_pos_right _ hq
        omega
      refine Nat.le_trans ?_ h5
      rw [Nat.pow_succ, Nat.mul_comm (2 ^ j) 2, ← Nat.mul_assoc]
      refine Nat.mul_le_mul_right _ ?_
      rw [Nat.mul_assoc, Nat.mul_comm (x % y) 2, Nat.mul_comm x y]
      exact Nat.mul_le_mul_left _ half
theorem pairOk_zero {a b x y : Nat} (h : pairOk a b 60000 x y) (ha : a < 10 ^ 6000) (hb : b < 10 ^ 6000) : y = 0 := by
  obtain ⟨_, _, h3⟩ := h
  obtain ⟨h4, h5⟩ := h3 (by decide)
  by_cases hz : y = 0
  · exact hz
  · exfalso
    have hab : a * b < 10 ^ 6000 * 10 ^ 6000 := Nat.mul_lt_mul_of_lt_of_lt ha hb
    have hxy : 1 ≤ x * y := Nat.mul_pos (by omega) (by omega)
    have : 1 * 2 ^ (60000 - 1) ≤ x * y * 2 ^ (60000 - 1) := Nat.mul_le_mul_right _ hxy
    have big : (10 : Nat) ^ 6000 * 10 ^ 6000 ≤ 1 * 2 ^ (60000 - 1) := by decide +kernel
    omega
theorem pairOk_end {a b i x : Nat} (h : pairOk a b i x 0) : x = Nat.gcd a b := by
  have := h.1
  rwa [Nat.gcd_zero_right] at this
end AL
set_option Elab.async false
set_option maxRecDepth 100000
set_option exponentiation.threshold 70000
/-! The texts within a text of a ratio. -/
namespace AL
open PySem L2 PySem.NumText
def N4 : Nat := 10 ^ 4000
def N6 : Nat := 10 ^ 6000
theorem pow4000 : N4 < 2 ^ 13500 := by unfold N4; decide +kernel
theorem pow46 : N4 ≤ N6 := Nat.pow_le_pow_right (by decide) (by decide)
theorem no_slash {l : List Nat} : ∀ c ∈ l.take (mid0 l), c ≠ 47 := by
  intro c hc
  obtain ⟨j, hj⟩ := List.mem_iff_getElem?.mp hc
  rw [List.getElem?_take] at hj
  split at hj
  · rename_i hlt
    by_cases h : fst0 l ≤ j
    · have := dEnd_in h hlt hj
      intro e
      rw [e] at this
      exact absurd this (by decide)
    · have hf : fst0 l = 1 ∧ neg l = true := by
        unfold fst0 at h ⊢
        by_cases hn : neg l = true
        · exact ⟨if_pos hn, hn⟩
        · rw [if_neg hn] at h; omega
      have hj0 : j = 0 := by omega
      subst hj0
      have := of_decide_eq_true hf.2
      rw [this] at hj
      cases hj
      decide
  · cases hj
theorem S_app (a b : List Nat) : S a ++ S b = S (a ++ b) := TL.ext_tl (TL.tl_append (S a) (S b))
theorem part_slash {l : List Nat} (e : slash0 l = true) : Txt.partition (S l) "/" = (S (l.take (mid0 l)), ("/" : Str), S (l.drop (mid0 l + 1))) := by
  have hs := of_decide_eq_true e
  have hl : l = l.take (mid0 l) ++ ([47] ++ l.drop (mid0 l + 1)) := by
    have h1 : l.drop (mid0 l) = 47 :: l.drop (mid0 l + 1) := by
      obtain ⟨h2, h3⟩ := List.getElem?_eq_some_iff.mp hs
      rw [List.drop_eq_getElem_cons h2, h3]
    rw [List.singleton_append, ← h1, List.take_append_drop]
  have := TL.partition_app (y := S [47]) (s := 47) (S := []) rfl (a := S (l.take (mid0 l))) (b := S (l.drop (mid0 l + 1))) (fun h => no_slash 47 h rfl)
  rw [S_app, S_app, List.append_assoc, ← hl] at this
  rw [slashS]
  exact this
theorem part_none {l : List Nat} (e : mid0 l = l.length) : Txt.partition (S l) "/" = (S l, Str.empty, Str.empty) := by
  rw [slashS]
  refine TL.partition_none (y := S [47]) (s := 47) (S := []) rfl fun h => ?_
  have h' : 47 ∈ l := h
  refine no_slash (l := l) 47 ?_ rfl
  rw [e, List.take_length]
  exact h'
theorem fst_eq (l : List Nat) : fst0 l = (neg l).toNat := by
  unfold fst0
  cases neg l <;> rfl
theorem neg_take {l : List Nat} (h : fst0 l < mid0 l) : neg (l.take (mid0 l)) = neg l := by
  unfold neg
  rw [List.getElem?_take, if_pos (by omega)]
theorem head_top {l : List Nat} (h : fst0 l < mid0 l) : ∃ c, (rowAt l (fst0 l) (mid0 l))[0]? = some c ∧ isD c = true := by
  have hl : fst0 l < l.length := Nat.lt_of_lt_of_le h (mid0_le l)
  have e : (rowAt l (fst0 l) (mid0 l))[0]? = some l[fst0 l] := by
    unfold rowAt
    rw [List.getElem?_drop, List.getElem?_take, Nat.add_zero, if_pos h, List.getElem?_eq_getElem hl]
  exact ⟨_, e, dEnd_in (Nat.le_refl _) h (List.getElem?_eq_getElem hl)⟩
theorem strip_top {l : List Nat} (h : fst0 l < mid0 l) : Txt.lstripChars (S (l.take (mid0 l))) "-" = S (rowAt l (fst0 l) (mid0 l)) := by
  obtain ⟨c, hc, hd⟩ := head_top h
  have e : (l.take (mid0 l)).drop (neg (l.take (mid0 l))).toNat = rowAt l (fst0 l) (mid0 l) := by
    rw [neg_take h, ← fst_eq]; rfl
  rw [strip_minus, e]
  intro d hdd
  rw [e, hc] at hdd
  cases hdd
  intro z
  rw [z] at hd
  exact absurd hd (by decide)
theorem row_int {l : List Nat} {i : Nat} (h : i < dEnd l i) (hi : i ≤ l.length) (h4 : dEnd l i - i ≤ 4000) : intText? (S (rowAt l i (dEnd l i))) = some ((digitsVal (rowAt l i (dEnd l i)) : Nat) : Int) := by
  have hlen := rowAt_len (l := l) (i := i) (dEnd_le hi)
  refine intText_digits rowAt_digits (fun z => ?_) ?_
  · have : (rowAt l i (dEnd l i)).length = 0 := congrArg List.length z
    omega
  · rw [S_len, hlen]; omega
theorem int_top {l : List Nat} (h : fst0 l < mid0 l) (h4 : mid0 l - fst0 l ≤ 4000) : intText? (S (l.take (mid0 l))) = some (sgn l (topV l)) := by
  have hlen := rowAt_len (l := l) (i := fst0 l) (mid0_le l)
  have hf := fst0_le l
  have hm := mid0_le l
  by_cases hn : neg l = true
  · have hf1 : fst0 l = 1 := by unfold fst0; rw [if_pos hn]
    have h0 : l[0]? = some 45 := of_decide_eq_true hn
    have ht : l.take (mid0 l) = 45 :: rowAt l (fst0 l) (mid0 l) := by
      unfold rowAt
      rw [hf1]
      cases l with
      | nil => cases h0
      | cons c l' =>
        simp at h0
        subst h0
        obtain ⟨j, hj⟩ : ∃ j, mid0 (45 :: l') = j + 1 := ⟨mid0 (45 :: l') - 1, by omega⟩
        rw [hj]; rfl
    rw [intText_neg (cs := rowAt l (fst0 l) (mid0 l)) ht rowAt_digits (fun z => by
      have : (rowAt l (fst0 l) (mid0 l)).length = 0 := congrArg List.length z
      omega) (by rw [S_len, List.length_take]; omega)]
    unfold sgn
    rw [if_pos hn]
    rfl
  · have hf0 : fst0 l = 0 := by unfold fst0; rw [if_neg hn]
    have ht : l.take (mid0 l) = rowAt l (fst0 l) (mid0 l) := by unfold rowAt; rw [hf0]; rfl
    rw [ht]
    unfold sgn
    rw [if_neg hn]
    exact row_int h hf h4
theorem bot_eq {l : List Nat} (e : end0 l = l.length) : l.drop (mid0 l + 1) = rowAt l (mid0 l + 1) (end0 l) := by
  unfold rowAt
  rw [e, List.take_length]
theorem topV_lt {l : List Nat} (h4 : mid0 l - fst0 l ≤ 4000) : topV l < N4 := by
  have := digitsVal_lt _ _ rfl (rowAt_digits (l := l) (i := fst0 l))
  rw [rowAt_len (dEnd_le (fst0_le l))] at this
  exact Nat.lt_of_lt_of_le this (Nat.pow_le_pow_right (by decide) h4)
theorem botV_lt {l : List Nat} (e : slash0 l = true) (h4 : end0 l - (mid0 l + 1) ≤ 4000) : botV l < N4 := by
  have := digitsVal_lt _ _ rfl (rowAt_digits (l := l) (i := mid0 l + 1))
  rw [rowAt_len (dEnd_le (slash_lt e))] at this
  exact Nat.lt_of_lt_of_le this (Nat.pow_le_pow_right (by decide) h4)
theorem sgn_abs (l : List Nat) (n : Nat) : (sgn l (n : Int)).natAbs = n := by
  unfold sgn
  split <;> omega
theorem sgn_div (l : List Nat) (a b : Nat) : (sgn l (a : Int)).fdiv ((Nat.gcd a b : Nat) : Int) = sgn l ((a / Nat.gcd a b : Nat) : Int) := by
  have hd : ((Nat.gcd a b : Nat) : Int) ∣ (a : Int) := Int.natCast_dvd_natCast.mpr (Nat.gcd_dvd_left a b)
  unfold sgn
  split
  · rw [Int.fdiv_eq_ediv_of_nonneg _ (Int.natCast_nonneg _), Int.neg_ediv_of_dvd hd]
    rfl
  · rw [Int.fdiv_eq_ediv_of_nonneg _ (Int.natCast_nonneg _)]
    rfl
end AL
set_option Elab.async false
set_option maxRecDepth 100000
set_option exponentiation.threshold 70000
/-! Whole roots by Newton's steps; how many digits a number has. -/
namespace AL
open PySem L2 PySem.NumText
theorem tangent (g r : Nat) : ∀ k : Nat, (k + 1) * r * g ^ k ≤ r ^ (k + 1) + k * g ^ (k + 1)
  | 0 => by simp
  | k + 1 => by
    have ih := tangent g r k
    have h1 : (k + 1) * r * g ^ k * r ≤ (r ^ (k + 1) + k * g ^ (k + 1)) * r := Nat.mul_le_mul_right r ih
    have sq : 2 * (r * g) ≤ r * r + g * g := by
      rcases Nat.le_total r g with h | h
      · obtain ⟨d, rfl⟩ := Nat.le.dest h
        simp only [Nat.mul_add, Nat.add_mul]
        have : r * d = d * r := Nat.mul_comm _ _
        omega
      · obtain ⟨d, rfl⟩ := Nat.le.dest h
        simp only [Nat.mul_add, Nat.add_mul]
        have : g * d = d * g := Nat.mul_comm _ _
        omega
    have h2 := Nat.mul_le_mul_left ((k + 1) * g ^ k) sq
    have e1 : (k + 1) * r * g ^ k * r = (k + 1) * g ^ k * (r * r) := by
      simp only [Nat.mul_assoc, Nat.mul_comm, Nat.mul_left_comm]
    have e2 : (r ^ (k + 1) + k * g ^ (k + 1)) * r = r ^ (k + 2) + k * (g ^ (k + 1) * r) := by
      rw [Nat.add_mul, ← Nat.pow_succ, Nat.mul_assoc]
    have e3 : (k + 1) * g ^ k * (2 * (r * g)) = 2 * ((k + 1) * (g ^ (k + 1) * r)) := by
      rw [Nat.pow_succ]
      simp only [Nat.mul_assoc, Nat.mul_comm, Nat.mul_left_comm]
    have e4 : (k + 1) * g ^ k * (r * r + g * g) = (k + 1) * g ^ k * (r * r) + (k + 1) * g ^ (k + 2) := by
      rw [Nat.mul_add, Nat.pow_succ, Nat.pow_succ]
      simp only [Nat.mul_assoc]
    have e5 : (k + 1 + 1) * r * g ^ (k + 1) = (k + 1) * (g ^ (k + 1) * r) + g ^ (k + 1) * r := by
      rw [Nat.add_mul (k + 1) 1 r, Nat.one_mul, Nat.add_mul, Nat.mul_assoc, Nat.mul_comm r (g ^ (k + 1))]
    rw [e1, e2] at h1
    rw [e3, e4] at h2
    rw [e5]
    have e6 : (k + 1) * (g ^ (k + 1) * r) = k * (g ^ (k + 1) * r) + g ^ (k + 1) * r := by rw [Nat.add_mul, Nat.one_mul]
    have e7 : r ^ (k + 1 + 1) = r ^ (k + 2) := rfl
    have e8 : (k + 1) * g ^ (k + 1 + 1) = (k + 1) * g ^ (k + 2) := rfl
    rw [e7, e8]
    rw [e6] at h2 ⊢
    omega
/-- the next guess for the root j + 1 -/
def nstep (n j g : Nat) : Nat := (j * g + n / g ^ j) / (j + 1)
theorem nstep_ge {n j g r : Nat} (hg : 0 < g) (h : r ^ (j + 1) ≤ n) : r ≤ nstep n j g := by
  have t := tangent g r j
  have hp : 0 < g ^ j := Nat.pow_pos hg
  unfold nstep
  rw [Nat.le_div_iff_mul_le (Nat.succ_pos j)]
  have e : j * g + n / g ^ j = (n + j * g * g ^ j) / g ^ j := by
    rw [Nat.add_mul_div_right _ _ hp, Nat.add_comm]
  rw [e, Nat.le_div_iff_mul_le hp]
  have e2 : j * g ^ (j + 1) = j * g * g ^ j := by rw [Nat.pow_succ, Nat.mul_comm (g ^ j) g, Nat.mul_assoc]
  rw [Nat.mul_comm r (j + 1)]
  omega
theorem nstep_end {n j g : Nat} (hg : 0 < g) (h : g ≤ nstep n j g) : g ^ (j + 1) ≤ n := by
  have hp : 0 < g ^ j := Nat.pow_pos hg
  unfold nstep at h
  rw [Nat.le_div_iff_mul_le (Nat.succ_pos j)] at h
  have : g ≤ n / g ^ j := by
    rw [Nat.mul_succ, Nat.mul_comm g j] at h
    omega
  rw [Nat.le_div_iff_mul_le hp] at this
  rw [Nat.pow_succ, Nat.mul_comm]
  exact this
/-- the greatest number whose power k is at most n -/
def isRoot (n k g : Nat) : Prop := g ^ k ≤ n ∧ ∀ r, r ^ k ≤ n → r ≤ g
theorem isRoot_eq {n k g r : Nat} (h : isRoot n k g) (hk : 0 < k) (e : r ^ k = n) : g = r := by
  have h1 := h.2 r (Nat.le_of_eq e)
  rcases Nat.lt_or_ge r g with h2 | h2
  · have := Nat.pow_lt_pow_left h2 (by omega : k ≠ 0)
    have := h.1
    omega
  · omega
theorem start_ok {n k r : Nat} (hk : 0 < k) (h : r ^ k ≤ n) : r ≤ 2 ^ ((n.log2 + 1) / k + 1) := by
  rcases Nat.lt_or_ge (2 ^ ((n.log2 + 1) / k + 1)) r with h2 | h2
  · exfalso
    have h3 := Nat.pow_lt_pow_left h2 (by omega : k ≠ 0)
    rw [← Nat.pow_mul] at h3
    have h4 : n.log2 + 1 ≤ ((n.log2 + 1) / k + 1) * k := by
      have := Nat.div_add_mod (n.log2 + 1) k
      have hm := Nat.mod_lt (n.log2 + 1) hk
      rw [Nat.add_mul, Nat.one_mul, Nat.mul_comm]
      omega
    have h5 : 2 ^ (n.log2 + 1) ≤ 2 ^ (((n.log2 + 1) / k + 1) * k) := Nat.pow_le_pow_right (by decide) h4
    have h6 : n < 2 ^ (n.log2 + 1) := Nat.lt_log2_self
    omega
  · exact h2
/-- how many digits -/
def ndig (n : Nat) : Nat := (TL.numL n).length
theorem ndig_pos (n : Nat) : 0 < ndig n := List.length_pos_iff.mpr (TL.numL_ne n)
theorem lt_ndig (n : Nat) : n < 10 ^ ndig n := by
  have := digitsVal_lt _ _ rfl (TL.numL_digits n)
  rwa [TL.numL_val] at this
theorem ndig_le {n k : Nat} (hk : 0 < k) (h : n < 10 ^ k) : ndig n ≤ k := TL.numL_len hk h
theorem ndig_lt {n k : Nat} (h : 10 ^ k ≤ n) : k < ndig n := by
  rcases Nat.lt_or_ge k (ndig n) with h1 | h1
  · exact h1
  · have := Nat.pow_le_pow_right (by decide : 0 < 10) h1
    have := lt_ndig n
    omega
theorem ndig_eq {n k : Nat} (h0 : 10 ^ k ≤ n) (h1 : n < 10 ^ (k + 1)) : ndig n = k + 1 := by
  have := ndig_lt h0
  have := ndig_le (Nat.succ_pos k) h1
  omega
theorem ndig_cut {n k : Nat} (h : 10 ^ k ≤ n) : ndig n = k + ndig (n / 10 ^ k) := by
  have hp : 0 < 10 ^ k := Nat.pow_pos (by decide)
  have hx : 1 ≤ n / 10 ^ k := (Nat.le_div_iff_mul_le hp).mpr (by omega)
  have a1 := lt_ndig (n / 10 ^ k)
  have a2 : n < 10 ^ (k + ndig (n / 10 ^ k)) := by
    rw [Nat.pow_add, Nat.mul_comm]
    exact (Nat.div_lt_iff_lt_mul hp).mp a1
  have b1 := ndig_le (by have := ndig_pos (n / 10 ^ k); omega) a2
  have c1 := ndig_lt h
  have c2 : n / 10 ^ k < 10 ^ (ndig n - k) := by
    rw [Nat.div_lt_iff_lt_mul hp, ← Nat.pow_add]
    rw [show ndig n - k + k = ndig n by omega]
    exact lt_ndig n
  have c3 := ndig_le (by omega) c2
  omega
end AL
set_option Elab.async false
set_option maxRecDepth 100000
set_option exponentiation.threshold 3000
/-! Data that stay, and that can be shown. -/
namespace AL
open PySem L2
mutual
theorem dp_mono {K : PySem.W.Frag} {H H' : Hp} (kl : ∀ a xs, SqL K H a xs → SqL K H' a xs) (kt : ∀ a xs, SqT K H a xs → SqT K H' a xs) : ∀ (d : PyData) (v : V), Dp K H v d → Dp K H' v d
  | .none, _, h => by cases h; exact .non
  | .bool b, _, h => by cases h; exact .bl b
  | .int i, _, h => by cases h; exact .int i
  | .str x, _, h => by cases h; exact .str x
  | .list ds, _, h => by
    cases h with
    | lst hs ha => exact .lst (kl _ _ hs) (dpAll_mono kl kt ds _ ha)
  | .tuple ds, _, h => by
    cases h with
    | tup hs ha => exact .tup (kt _ _ hs) (dpAll_mono kl kt ds _ ha)
  | .dict _, _, h => by cases h
theorem dpAll_mono {K : PySem.W.Frag} {H H' : Hp} (kl : ∀ a xs, SqL K H a xs → SqL K H' a xs) (kt : ∀ a xs, SqT K H a xs → SqT K H' a xs) : ∀ (ds : List PyData) (vs : List V), DpAll K H vs ds → DpAll K H' vs ds
  | [], _, h => by cases h; exact .nil
  | d :: ds, _, h => by
    cases h with
    | cons h1 h2 => exact .cons (dp_mono kl kt d _ h1) (dpAll_mono kl kt ds _ h2)
end
theorem same_seqT {K : PySem.W.Frag} {H H' : Hp} {a : Addr} {xs : List V} (e : Same H H') (h : SqT K H a xs) : SqT K H' a xs := by
  rcases h with (h | ⟨o, h⟩) | h
  · exact .inl (.inl (e _ _ h))
  · exact .inl (.inr ⟨o, e _ _ h⟩)
  · exact .inr h
theorem dp_same {K : PySem.W.Frag} {H H' : Hp} {v : V} {d : PyData} (s : Same H H') (h : Dp K H v d) : Dp K H' v d := dp_mono (fun _ _ z => Same.seq s z) (fun _ _ z => same_seqT s z) d v h
theorem dp_keep {K : PySem.W.Frag} {H H' : Hp} {p c : Addr} {m : Nat} {v : V} {d : PyData} (k : Keep p H H') (P : Pen H p c m) (h : Dp K H v d) : Dp K H' v d := dp_mono (fun _ _ z => k.seqL P z) (fun _ _ z => k.seqT P z) d v h
/-- can be shown, by few signs -/
structure OkD (d : PyData) : Prop where
  sh : d.showable = true
  nd : d.hasDict = false
  dp : d.depth ≤ 10
  ln : d.shown.length ≤ 1000
/-- some data that can be shown -/
def Datum (K : PySem.W.Frag) (H : Hp) (v : V) : Prop := ∃ d, Dp K H v d ∧ OkD d
theorem Datum.same {K : PySem.W.Frag} {H H' : Hp} {v : V} (h : Datum K H v) (s : Same H H') : Datum K H' v := by
  obtain ⟨d, h1, h2⟩ := h
  exact ⟨d, dp_same s h1, h2⟩
theorem Datum.keep {K : PySem.W.Frag} {H H' : Hp} {p c : Addr} {m : Nat} {v : V} (h : Datum K H v) (k : Keep p H H') (P : Pen H p c m) : Datum K H' v := by
  obtain ⟨d, h1, h2⟩ := h
  exact ⟨d, dp_keep k P h1, h2⟩
theorem datum_non {K : PySem.W.Frag} {H : Hp} : Datum K H .non := ⟨.none, .non, by decide +kernel, by decide +kernel, by decide +kernel, by decide +kernel⟩
theorem datum_bl {K : PySem.W.Frag} {H : Hp} (b : Bool) : Datum K H (.bl b) := by
  refine ⟨.bool b, .bl b, rfl, rfl, by show 0 ≤ 10; decide, ?_⟩
  cases b <;> decide +kernel
theorem okD_int {i : Int} (h : i.natAbs < 10 ^ 400) : OkD (.int i) := by
  have h2 : i.natAbs < 2 ^ 1920 := Nat.lt_trans (Nat.lt_of_lt_of_le h (Nat.pow_le_pow_right (by decide) (by decide : 400 ≤ 402))) pow402
  refine ⟨decide_eq_true (log2_small (by decide) h2), rfl, by show 0 ≤ 10; decide, ?_⟩
  show (Str.ofString (toString i)).length ≤ 1000
  have e : (Str.ofString (toString i)).length = (toString i).length := by
    rw [Str.ofString_eq_toList]
    show (((toString i).toList.map Char.toNat).toArray).size = _
    rw [List.size_toArray, List.length_map, String.length_toList]
  rw [e]
  have := int_text_length_le10 (by decide) h
  omega
theorem datum_int {K : PySem.W.Frag} {H : Hp} {i : Int} (h : i.natAbs < 10 ^ 400) : Datum K H (.int i) := ⟨.int i, .int i, okD_int h⟩
theorem datum_str {K : PySem.W.Frag} {H : Hp} {z : Str} (h : z.length ≤ 90) (hc : ∀ c ∈ z.cps.toList, c < 128) : Datum K H (.str z) := by
  refine ⟨.str z, .str z, rfl, rfl, by show 0 ≤ 10; decide, ?_⟩
  show (reprText z).length ≤ 1000
  have := StrLaws.reprText_len z (fun c hcc => Nat.lt_trans (hc c hcc) (by decide))
  omega
theorem okD_tup : ∀ (ds : List PyData), ds.length ≤ 3 → (∀ d ∈ ds, OkD d) → (PyData.tuple ds).showable = true ∧ (PyData.tuple ds).hasDict = false ∧ (PyData.tuple ds).depth ≤ 60 ∧ (PyData.tuple ds).shown.length ≤ sizeLine := by
  intro ds hl h
  have all : ∀ (ds : List PyData), (∀ d ∈ ds, OkD d) → PyData.showableAll ds = true ∧ PyData.hasDictAll ds = false ∧ PyData.depthAll ds ≤ 10 ∧ ((PyData.shownAll ds).map (·.length)).sum ≤ 1000 * ds.length ∧ (PyData.shownAll ds).length = ds.length := by
    intro ds
    induction ds with
    | nil => intro _; exact ⟨rfl, rfl, by decide, by decide, rfl⟩
    | cons d ds ih =>
      intro h
      obtain ⟨a1, a2, a3, a4, a5⟩ := ih fun x hx => h x (List.mem_cons_of_mem _ hx)
      have o := h d List.mem_cons_self
      have o1 := o.sh
      have o2 := o.nd
      have o3 := o.dp
      have o4 := o.ln
      refine ⟨?_, ?_, ?_, ?_, ?_⟩
      · simp only [PyData.showableAll, o1, a1, Bool.and_self]
      · simp only [PyData.hasDictAll, o2, a2, Bool.or_self]
      · simp only [PyData.depthAll]; omega
      · simp only [PyData.shownAll, List.map_cons, List.sum_cons, List.length_cons]; omega
      · simp only [PyData.shownAll, List.length_cons, a5]
  obtain ⟨a1, a2, a3, a4, a5⟩ := all ds h
  refine ⟨?_, ?_, ?_, ?_⟩
  · simpa only [PyData.showable] using a1
  · simpa only [PyData.hasDict] using a2
  · simp only [PyData.depth]; omega
  · simp only [PyData.shown]
    have := tupleText_len_le (PyData.shownAll ds)
    rw [a5] at this
    refine Nat.le_trans this ?_
    refine Nat.le_trans (show _ ≤ 10000 by omega) (by decide)
theorem dpAll_bl {K : PySem.W.Frag} {H : Hp} : ∀ l : List Bool, DpAll K H (l.map V.bl) (l.map PyData.bool)
  | [] => .nil
  | b :: l => .cons (.bl b) (dpAll_bl l)
theorem shaped_bl (l : List Bool) : SeqAt.shaped (.list (l.map PyData.bool)) = true := by
  have h1 : ∀ l : List Bool, PyData.canLayAll0 (l.map PyData.bool) = true ∧ PyData.depthAll (l.map PyData.bool) = 0 := by
    intro l
    induction l with
    | nil => exact ⟨rfl, rfl⟩
    | cons b l ih => exact ⟨by simp [PyData.canLayAll0, PyData.canLay0, ih.1], by simp [PyData.depthAll, PyData.depth, ih.2]⟩
  unfold SeqAt.shaped
  rw [show PyData.canLay0 (.list (l.map PyData.bool)) = true by simpa [PyData.canLay0] using (h1 l).1]
  simp [PyData.depth, (h1 l).2]
end AL
set_option Elab.async false
set_option maxRecDepth 100000
set_option exponentiation.threshold 70000
set_option maxHeartbeats 1000000
namespace AL
open PySem L2

/-- one sign, a digit -/
def oneD (m : List Nat) : Bool := match m with | [c] => isD c | _ => false
theorem in_dig (m : List Nat) : inV (.str (S m)) (([48, 49, 50, 51, 52, 53, 54, 55, 56, 57] : List Nat).map fun c => V.str (S [c])) = oneD m := by
  unfold inV
  have e : ∀ c, eqV (.str (S [c])) (.str (S m)) = decide ([c] = m) := fun c => by
    show decide (S [c] = S m) = decide ([c] = m)
    exact decide_eq_decide.mpr S_inj
  simp only [List.map_cons, List.map_nil, List.any_cons, List.any_nil, e]
  match m with
  | [] => rfl
  | [d] =>
    show _ = isD d
    rw [isD_mem]
    simp [eq_comm]
  | _ :: _ :: _ => simp [oneD]
theorem row_one {l : List Nat} {j : Nat} : rowAt l j (j + 1) = (l[j]?).toList := by
  unfold rowAt
  rw [List.take_add_one, List.drop_append]
  by_cases h : j ≤ l.length
  · rw [List.length_take, Nat.min_eq_left h, Nat.sub_self, List.drop_eq_nil_of_le (by rw [List.length_take]; omega), List.nil_append, List.drop_zero]
  · rw [List.getElem?_eq_none (by omega), List.drop_eq_nil_of_le (by rw [List.length_take]; omega)]
    simp

theorem fmod_nat (a b : Nat) : ((a : Int)).fmod ((b : Nat) : Int) = ((a % b : Nat) : Int) := by
  rw [Int.fmod_eq_emod_of_nonneg _ (Int.natCast_nonneg b)]
  rfl
theorem fdiv_nat (a b : Nat) : ((a : Int)).fdiv ((b : Nat) : Int) = ((a / b : Nat) : Int) := by
  rw [Int.fdiv_eq_ediv_of_nonneg _ (by omega)]
  rfl

/-- _law_gcd(a, b) -/
def spGcdL : Sp := fun vs H Q _ => ∃ (a b : Int), vs = [.int a, .int b] ∧ a.natAbs < N6 ∧ b.natAbs < N6 ∧ Q (.int ((Nat.gcd a.natAbs b.natAbs : Nat) : Int)) H
/-- _law_q(a, b) -/
def spQ : Sp := fun vs H Q _ => ∃ (a b : Nat), vs = [.int (a : Int), .int (b : Int)] ∧ a < N4 ∧ b < N4 ∧ b ≠ 0 ∧ ∀ t, H t = none → Q (.ref t) (upd H t (.tup [.int (red a b).1, .int (red a b).2]))
/-- _law_is_whole(i) -/
def spWhole : Sp := fun vs H Q _ => ∃ (i : Int), vs = [.int i] ∧ Q (.bl true) H
/-- _law_is_ratio(t) -/
def spIsRat (K : PySem.W.Frag) : Sp := fun vs H Q _ => ∃ (t : Addr) (a b : Int), vs = [.ref t] ∧ H t = some (.tup [.int a, .int b]) ∧ a.natAbs < N6 ∧ b.natAbs < N6 ∧ 0 < b ∧ Nat.gcd a.natAbs b.natAbs = 1 ∧ Q (.bl true) H
/-- _law_digits_end(text, at) -/
def spEndL : Sp := fun vs H Q _ => ∃ (l : List Nat) (i : Nat), vs = [.str (S l), .int (i : Int)] ∧ i ≤ l.length ∧ l.length ≤ 20000 ∧ ∀ H', Same H H' → Q (.int ((dEnd l i : Nat) : Int)) H'
/-- digits_end(text, start) -/
def spEnd : Sp := fun vs H Q _ => ∃ (l : List Nat) (i : Nat), vs = [.str (S l), .int (i : Int)] ∧ i ≤ l.length ∧ l.length ≤ 20000 ∧ Q (.int ((dEnd l i : Nat) : Int)) H
/-- wrong_column(text) -/
def spCol : Sp := fun vs H Q _ => ∃ (l : List Nat), vs = [.str (S l)] ∧ l.length ≤ 20000 ∧ Q (.int ((wcol l : Nat) : Int)) H
/-- lowest(top, bottom) -/
def spLow : Sp := fun vs H Q _ => ∃ (a : Int) (b : Nat), vs = [.int a, .int (b : Int)] ∧ a.natAbs < N4 ∧ b < N4 ∧ b ≠ 0 ∧
  ∀ t, H t = none → Q (.ref t) (upd H t (.tup [.int (a.fdiv ((Nat.gcd a.natAbs b : Nat) : Int)), .int ((b / Nat.gcd a.natAbs b : Nat) : Int)]))


/-- ratio_of(x) -/
def spRatio (K : PySem.W.Frag) (BT TL : Addr) : Sp := fun vs H Q E => ∃ x, vs = [x] ∧
  ((∃ l, x = .str (S l) ∧ l.length ≤ 20000 ∧
    (∀ c, res l = .text c → ∀ d H1, H1 d = none → Same H H1 → E (.ref BT) (some d) (upd H1 d (.xd [("column", .int (c : Int)), ("line", .int 1)]))) ∧
    (∀ n, res l = .large n → ∀ d H1, H1 d = none → Same H H1 → E (.ref TL) (some d) (upd H1 d (.xd [("limit", .int 4000), ("number", .int (n : Int)), ("what", .str "digits")]))) ∧
    (∀ p r, res l = .ratio p r → ∀ t H1, H1 t = none → Same H H1 → Q (.ref t) (upd H1 t (.tup [.int p, .int r])))) ∨
   (∃ u, TyX K H x u ∧ PySem.W.kitOne K u (.type "str") = some false ∧ ∀ d H1, H1 d = none → Same H H1 → E (.ref BT) (some d) (upd H1 d (.xd [("column", .int 0), ("line", .int 0)]))))
theorem one4 : 1 < N4 := by unfold N4; decide +kernel
theorem none_of_same {H H' : Hp} {a : Addr} (s : Same H H') (h : H' a = none) : H a = none := by
  cases e : H a with
  | none => rfl
  | some o => rw [s _ _ e] at h; cases h
theorem Same.updn {H H' : Hp} {a : Addr} {o : HO} (s : Same H H') (h : H a = none) : Same H (upd H' a o) := fun b u e => by
  rw [upd_ne (fun z => by rw [z, h] at e; cases e)]; exact s _ _ e
/-- what a text is told to be -/
def resD : Res → PyData
  | .text c => .tuple [.str "text", .int (c : Int)]
  | .large n => .tuple [.str "large", .int (n : Int)]
  | .ratio p r => .tuple [.str "ratio", .tuple [.int p, .int r]]
/-- _law_due(text) -/
def spDue (K : PySem.W.Frag) : Sp := fun vs H Q _ => ∃ (l : List Nat), vs = [.str (S l)] ∧ l.length ≤ 20000 ∧ ∀ t H', Same H H' → Dp K H' (.ref t) (resD (res l)) → Q (.ref t) H'


theorem res_ratio {l : List Nat} {p r : Int} (h : res l = .ratio p r) : p.natAbs < N6 ∧ r.natAbs < N6 ∧ 0 < r ∧ Nat.gcd p.natAbs r.natAbs = 1 := by
  have hw : wcol l = 0 := by
    rcases Nat.eq_zero_or_pos (wcol l) with z | z
    · exact z
    · rw [res_bad z] at h; cases h
  rw [res_ok hw] at h
  have red_ok : ∀ a b : Nat, a < N4 → b < N4 → b ≠ 0 → (sgn l (red a b).1).natAbs < N6 ∧ (red a b).2.natAbs < N6 ∧ 0 < (red a b).2 ∧ Nat.gcd (sgn l (red a b).1).natAbs (red a b).2.natAbs = 1 := by
    intro a b ha hb h0
    have hg : 0 < Nat.gcd a b := Nat.gcd_pos_of_pos_right a (Nat.pos_of_ne_zero h0)
    have e1 : (sgn l (red a b).1).natAbs = a / Nat.gcd a b := sgn_abs l _
    have e2 : (red a b).2.natAbs = b / Nat.gcd a b := Int.natAbs_natCast _
    have p46 := pow46
    refine ⟨?_, ?_, ?_, ?_⟩
    · rw [e1]; exact Nat.lt_of_le_of_lt (Nat.div_le_self _ _) (by omega)
    · rw [e2]; exact Nat.lt_of_le_of_lt (Nat.div_le_self _ _) (by omega)
    · have : 0 < b / Nat.gcd a b := Nat.div_pos (Nat.le_of_dvd (Nat.pos_of_ne_zero h0) (Nat.gcd_dvd_right a b)) hg
      show (0 : Int) < ((b / Nat.gcd a b : Nat) : Int)
      omega
    · rw [e1, e2, Nat.gcd_div (Nat.gcd_dvd_left a b) (Nat.gcd_dvd_right a b), Nat.div_self hg]
  by_cases h1 : 4000 < mid0 l - fst0 l
  · rw [if_pos h1] at h; cases h
  · rw [if_neg h1] at h
    have ht := topV_lt (l := l) (by omega)
    by_cases h2 : slash0 l = true
    · rw [if_pos h2] at h
      by_cases h3 : 4000 < end0 l - (mid0 l + 1)
      · rw [if_pos h3] at h; cases h
      · rw [if_neg h3] at h
        by_cases h4 : botV l = 0
        · rw [if_pos h4] at h; cases h
        · rw [if_neg h4] at h
          injection h with e1 e2
          subst e1 e2
          exact red_ok _ _ ht (botV_lt h2 (by omega)) h4
    · rw [if_neg h2] at h
      injection h with e1 e2
      subst e1 e2
      have := red_ok (topV l) 1 ht one4 (by decide)
      unfold red at this
      rw [Nat.gcd_one_right, Nat.div_one] at this
      exact this
/-- _law_read(text) -/
def spRead (K : PySem.W.Frag) : Sp := fun vs H Q _ => ∃ (l : List Nat), vs = [.str (S l)] ∧ l.length ≤ 20000 ∧ ∀ t H', Same H H' → Dp K H' (.ref t) (resD (res l)) → Q (.ref t) H'
theorem cut_from (l : List Nat) (i : Nat) : cutS (S l) (some (i : Int)) none = S (l.drop i) := by
  have e := cut_mid l i l.length
  rw [List.take_length] at e
  rw [← e]
  unfold cutS
  have h1 : HT.sIx (S l).length (S l).length none = HT.sIx (S l).length (S l).length (some ((l.length : Nat) : Int)) := by
    rw [HT.sIx_nat, HT.sIx_none, S_len, Nat.min_self]
  rw [h1]
theorem str_len {n k : Nat} (hk : 0 < k) (h : n < 10 ^ k) : (Str.ofString (toString ((n : Nat) : Int))).length ≤ k := by
  rw [show (Str.ofString (toString ((n : Nat) : Int))).length = (TL.numL n).length by rw [TL.len_tl]; exact congrArg List.length (TL.tl_num n)]
  exact TL.numL_len hk h
/-- _law_begin(pen) -/
def spBegin : Sp := fun vs H Q _ => ∃ (p c : Addr) (m : Nat), vs = [.ref p] ∧ Pen H p c m ∧ m < 800000000 ∧ ∀ (l : List Nat) H', l.length ≤ 15000 → Pen H' p c (m + 1000) → Q (.str (S l)) H'
/-- _law_bent(pen, text) -/
def spBent : Sp := fun vs H Q _ => ∃ (p c : Addr) (m : Nat) (l : List Nat), vs = [.ref p, .str (S l)] ∧ Pen H p c m ∧ m < 800000000 ∧ l.length ≤ 19000 ∧ ∀ (l' : List Nat) H', l'.length ≤ l.length + 1 → Pen H' p c (m + 10) → Q (.str (S l')) H'

/-- law's: a list of at most 63 ints is handed in, True comes out -/
def spLaw (K : PySem.W.Frag) : Sp := fun vs H Q _ => ∃ (a : Addr) (ns : List Int), vs = [.ref a] ∧ SqL K H a (ns.map V.int) ∧ ns.length ≤ 63 ∧ ∀ H', Q (.bl true) H'
theorem resD_ok (r : Res) : SeqAt.shaped (resD r) = true := by
  have h1 : PyData.strOk (Str.ofString "text") = true := by decide +kernel
  have h2 : PyData.strOk (Str.ofString "large") = true := by decide +kernel
  have h3 : PyData.strOk (Str.ofString "ratio") = true := by decide +kernel
  cases r <;> simp [h1, h2, h3, SeqAt.shaped, resD, PyData.canLay0, PyData.canLayAll0, PyData.depth, PyData.depthAll]

end AL
set_option Elab.async false
set_option maxRecDepth 100000
set_option exponentiation.threshold 70000
set_option maxHeartbeats 1000000
namespace AL
open PySem PySem.Spec PyProof.Rows L2 RZ
def top (i : Nat) : Stmt := PySem.Challenge.pw_allscales_k64_whole_groups_of_turned_uni.main.body.getD i (.Pass ⟨0, 0, 0, 0⟩)
section
variable {P : Program} {w : World} {K : PySem.W.Frag} {mg : Str → Option Value} {base : Heap}
abbrev st_law_pen : Stmt := top 33
theorem sc_law_pen : FnScope ["_law_script", "_law_fold", "_law_cell"] ["_law_script"] (defScope st_law_pen) := ⟨rfl, rfl, rfl, by decide +kernel, rfl, by decide +kernel, by decide +kernel⟩
theorem ok_law_pen (B : Blt mg)  {f_law_pen : Addr} {fd_law_pen : FuncData} (D_law_pen : DefAt K mg "_law_pen" st_law_pen ["_law_script"] f_law_pen fd_law_pen) : FnOk P w K mg base CX0 1 f_law_pen fd_law_pen ["_law_script"] (spPen K) := by
  refine D_law_pen.F.ok sc_law_pen (fun vs H Q E h => ?_) (fun cdv A outer s H vs Q E hr h => ?_)
  · obtain ⟨a, ns, rfl, _⟩ := h; rfl
  · have hu := hu_of hr
    refine ⟨_, (pss_cons (ps_set (i := 1) sc_law_pen.nd rfl (Or.inl rfl) pe_int)
    (pss_cons (ps_for PassesOwn.never rfl (pi_list (pv 0)) (pg_name (i := 2) sc_law_pen.nd rfl (Or.inl rfl))
      (pss_one (ps_set (i := 1) sc_law_pen.nd rfl (Or.inl rfl) (pe_op op_modN (pe_callTy call_int1 (by rfl) B.int_ (by decide +kernel) (pa_cons (pe_op op_add (pe_op op_mul (pv 1) pe_int) (pv 2)) pa_nil)) pe_int))))
    (pss_one (ps_ret (pe_disp (pps_cons pe_str (pe_callTy call_list_of (by rfl) B.list_ (by decide +kernel) (pa_cons (pv 0) pa_nil)) (pps_cons pe_str pe_int (pps_cons pe_str pe_int (pps_cons pe_str pe_int (pps_cons pe_str (pv 1) pps_nil))))) (by rfl) (by rfl) (fun z => by cases z) (by decide)))))), ?_⟩
    obtain ⟨a, ns, rfl, hS, k⟩ := h
    refine ⟨_, rfl, a, rfl, ⟨_, hS⟩, for_list (K := K) (a := a) (xs := ns.map V.int) (fun i σ H' => ∃ (f : Int) (v : Option V), σ = [some (.ref a), some (.int f), v] ∧ H' = H ∧ 0 ≤ f ∧ f < 2147483648) ⟨0, none, rfl, rfl, by decide, by decide⟩ (fun i σ H' _ ⟨_, _, _, e, _⟩ => by rw [e]; exact hS) ?_ ?_⟩
    · rintro i y σ H' hi ⟨f, v, rfl, rfl, h0, h1⟩
      obtain ⟨z, hz, rfl⟩ := map_int hi
      refine ⟨_, rfl, _, _, rfl, rfl, .inr ⟨by decide, by decide⟩, _, rfl, _, _, rfl, rfl, .inl ⟨_, rfl, _, _, rfl, rfl, (by show (1000000007 : Int) ≠ 0; decide), ?_⟩⟩
      have hb := fmod_in (a := f * 41 + z) (b := 1000000007) (by decide)
      exact ⟨_, _, rfl, rfl, hb.1, by omega⟩
    · rintro σ H' ⟨f, v, rfl, rfl, h0, h1⟩
      intro p hp
      refine ⟨_, rfl, a, _, rfl, .inl (Same.seq (AL.Same.new hp) hS), fun l hl => ?_⟩
      have hlp : p ≠ l := fun e => by rw [e, upd_same] at hl; cases hl
      have hl0 : H' l = none := by rw [upd_ne hlp.symm] at hl; exact hl
      refine ⟨_, rfl, Eq.trans (upd_ne hlp) upd_same, penK l 0 0 0 f, rfl, (by show 5 ≤ 15; decide), ?_⟩
      refine k p l _ hp hl0 hlp ⟨ns, 0, 0, 0, f, Eq.trans upd_same (by kernel_rfl), ?_, by decide, by decide, by decide, by decide, h0, h1⟩ fun b o e => ?_
      · rw [upd_ne hlp.symm, upd_same]
      · rw [upd_ne (ne_of_none e hp), upd_ne (ne_of_none e hl0), upd_ne (ne_of_none e hp)]; exact e
abbrev st_law_draw : Stmt := top 34
theorem sc_law_draw : FnScope ["_law_pen_here", "_law_many", "_law_cell", "_law_digit", "_law_blend"] ["_law_pen_here", "_law_many"] (defScope st_law_draw) := ⟨rfl, rfl, rfl, by decide +kernel, rfl, by decide +kernel, by decide +kernel⟩
theorem ok_law_draw (B : Blt mg)  {f_law_draw : Addr} {fd_law_draw : FuncData} (D_law_draw : DefAt K mg "_law_draw" st_law_draw ["_law_pen_here", "_law_many"] f_law_draw fd_law_draw) : FnOk P w K mg base CX0 1 f_law_draw fd_law_draw ["_law_pen_here", "_law_many"] spDraw := by
  refine D_law_draw.F.ok sc_law_draw (fun vs H Q E h => ?_) (fun cdv A outer s H vs Q E hr h => ?_)
  · obtain ⟨p, c, m, k, rfl, _⟩ := h; rfl
  · have hu := hu_of hr
    refine ⟨_, (pss_cons (ps_dput hu (pv 0) pe_str (pe_op op_add (pe_dget hu (pv 0) pe_str (fun _ _ => rfl)) pe_int) rfl)
    (Evl.pss_cut (ps_if (PW.pt (pw_and (pt_cmpR op_eq (pe_dget hu (pv 0) pe_str (fun _ _ => rfl)) pe_int (nomark _)) (pw_and1 (pt_cmpR op_lt (pe_dget hu (pv 0) pe_str (fun _ _ => rfl)) (pe_callB call_len_seq (by rfl) B.len_ (by decide +kernel) (pa_cons (pe_dget hu (pv 0) pe_str (fun _ _ => rfl)) pa_nil)) (nomark _))))) (pss_cons (ps_set (i := 2) sc_law_draw.nd rfl (Or.inl rfl) (pe_ix ix_seq (pe_dget hu (pv 0) pe_str (fun _ _ => rfl)) (pe_dget hu (pv 0) pe_str (fun _ _ => rfl)) (fun _ _ => rfl)))
    (pss_cons (ps_dput hu (pv 0) pe_str (pe_op op_add (pe_dget hu (pv 0) pe_str (fun _ _ => rfl)) pe_int) rfl)
    (pss_one (ps_if (pt_cmpR op_ge (pv 2) (pe_op op_pow pe_int pe_int) (nomark _)) (pss_one (ps_dput hu (pv 0) pe_str (pe_op op_sub (pv 2) (pe_op op_pow pe_int pe_int)) rfl)) (pss_one (ps_dput hu (pv 0) pe_str (pe_op op_modN (pe_callTy call_int1 (by rfl) B.int_ (by decide +kernel) (pa_cons (pe_op op_add (pe_op op_mul (pe_dget hu (pv 0) pe_str (fun _ _ => rfl)) pe_int) (pv 2)) pa_nil)) pe_int) rfl)))))) pss_nil)
    (pss_cons (ps_if (pt_cmpR op_gt (pe_dget hu (pv 0) pe_str (fun _ _ => rfl)) pe_int (nomark _)) (pss_cons (ps_set (i := 3) sc_law_draw.nd rfl (Or.inl rfl) (pe_op op_modN (pe_callTy call_int1 (by rfl) B.int_ (by decide +kernel) (pa_cons (pe_dget hu (pv 0) pe_str (fun _ _ => rfl)) pa_nil)) (pv 1)))
    (pss_cons (ps_dput hu (pv 0) pe_str (pe_op op_fdivN (pe_dget hu (pv 0) pe_str (fun _ _ => rfl)) (pv 1)) rfl)
    (pss_one (ps_ret (pv 3))))) pss_nil)
    (pss_cons (ps_set (i := 4) sc_law_draw.nd rfl (Or.inl rfl) (pe_op op_add (pe_op op_add (pe_dget hu (pv 0) pe_str (fun _ _ => rfl)) (pe_op op_mul (pe_dget hu (pv 0) pe_str (fun _ _ => rfl)) pe_int)) pe_int))
    (pss_one (ps_ret (pe_op op_modN (pe_op op_fdivN (pe_callTy call_int1 (by rfl) B.int_ (by decide +kernel) (pa_cons (pe_op op_modN (pe_op op_pow (pv 4) pe_int) pe_int) pa_nil)) pe_int) (pv 1)))))))), ?_⟩
    obtain ⟨p, c, m, k, rfl, P, hm, hk0, hk1, q⟩ := h
    obtain ⟨ns, i, d, n, f, hp, hc, hi, hd, hn, hnm, hf0, hf1⟩ := P.ex
    have hcp : c ≠ p := fun e => by rw [e, hp] at hc; cases hc
    have s5 : (5 : Nat) < sizeLine := by decide
    -- count
    refine ⟨_, rfl, p, _, rfl, dget (k := Sum.inr "count") hp pen_count, _, _, rfl, rfl, _, rfl, p, _, rfl, dput (k := Sum.inr "count") hp s5 put_count, ?_⟩
    refine ⟨fun σ' H' => ∃ (i' d' f' : Int) (v : Option V), σ' = [some (.ref p), some (.int k), v, none, none] ∧ H' p = some (.dK (penK c i' d' (n + 1) f')) ∧ 0 ≤ i' ∧ 0 ≤ d' ∧ 0 ≤ f' ∧ f' < 2147483648 ∧ Keep p H H', ?_, ?_⟩
    · -- digits == 0 and at < len(cells)
      have n1 : ∀ {o}, upd H p o c = some (.lst (ns.map V.int)) := fun {o} => by rw [upd_ne hcp]; exact hc
      refine ⟨_, rfl, p, _, rfl, dget (k := Sum.inr "digits") upd_same pen_digits, rfl, _, rfl, ?_⟩
      refine ite2 (fun hd0 => ?_) (fun hd0 => ?_)
      · refine ⟨_, rfl, p, _, rfl, dget (k := Sum.inr "at") upd_same pen_at, _, rfl, p, _, rfl, dget (k := Sum.inr "cells") upd_same pen_cells, c, _, rfl, .inl (SqL.of n1), _, _, rfl, rfl, _, rfl, ?_⟩
        refine ite2 (fun hlt => ?_) (fun hlt => ?_)
        · have hlt' := of_decide_eq_true hlt
          rw [List.length_map] at hlt'
          obtain ⟨j, rfl⟩ := Int.eq_ofNat_of_zero_le hi
          have hj : j < ns.length := by omega
          -- cell, at
          refine ⟨_, rfl, p, _, rfl, dget (k := Sum.inr "cells") upd_same pen_cells, _, rfl, p, _, rfl, dget (k := Sum.inr "at") upd_same pen_at, .inl ⟨c, _, _, .int ns[j], rfl, rfl, SqL.of n1, at_of rfl (by rw [List.getElem?_map, List.getElem?_eq_getElem hj]; rfl), ?_⟩⟩
          refine ⟨_, rfl, p, _, rfl, dget (k := Sum.inr "at") upd_same pen_at, _, _, rfl, rfl, _, rfl, p, _, rfl, dput (k := Sum.inr "at") upd_same s5 put_at, ?_⟩
          refine ⟨_, rfl, _, _, rfl, rfl, ⟨by decide, by decide, by decide⟩, _, _, rfl, rfl, _, rfl, ?_⟩
          refine ite2 (fun hc18 => ?_) (fun hc18 => ?_)
          · have hc18' := of_decide_eq_true hc18
            refine ⟨_, rfl, _, _, rfl, rfl, ⟨by decide, by decide, by decide⟩, _, _, rfl, rfl, _, rfl, p, _, rfl, dput (k := Sum.inr "digits") upd_same s5 put_digits, ?_⟩
            refine ⟨_, _, _, _, rfl, upd_same, by omega, by omega, hf0, hf1, fun b o nb e => ?_⟩
            rw [upd_ne nb, upd_ne nb, upd_ne nb]; exact e
          · refine ⟨_, rfl, p, _, rfl, dget (k := Sum.inr "fold") upd_same pen_fold, _, _, rfl, rfl, .inr ⟨by decide, by decide⟩, _, rfl, _, _, rfl, rfl, .inl ⟨_, rfl, _, _, rfl, rfl, (by show (2147483587 : Int) ≠ 0; decide), _, rfl, p, _, rfl, dput (k := Sum.inr "fold") upd_same s5 put_fold, ?_⟩⟩
            have hb := fmod_in (a := f * 69069 + ns[j]) (b := 2147483587) (by decide)
            refine ⟨_, _, _, _, rfl, upd_same, by omega, hd, hb.1, by omega, fun b o nb e => ?_⟩
            rw [upd_ne nb, upd_ne nb, upd_ne nb]; exact e
        · exact ⟨_, _, _, _, rfl, upd_same, hi, hd, hf0, hf1, Keep.upd⟩
      · exact iteF ⟨_, _, _, _, rfl, upd_same, hi, hd, hf0, hf1, Keep.upd⟩
    · rintro σ H1 ⟨i1, d1, f1, v, rfl, hp1, hi1, hd1, hf01, hf11, kp⟩
      have pen' : ∀ {H2 : Hp} {i2 d2 f2 : Int}, H2 p = some (.dK (penK c i2 d2 (n + 1) f2)) → 0 ≤ i2 → 0 ≤ d2 → 0 ≤ f2 → f2 < 2147483648 → Keep p H H2 → Pen H2 p c (m + 1) := fun {H2 i2 d2 f2} e a1 a2 a3 a4 kk =>
        ⟨ns, i2, d2, n + 1, f2, e, kk c _ hcp hc, a1, a2, by omega, by omega, a3, a4⟩
      refine ⟨_, rfl, p, _, rfl, dget (k := Sum.inr "digits") hp1 pen_digits, _, _, rfl, rfl, _, rfl, ?_⟩
      refine ite2 (fun hpos => ?_) (fun hpos => ?_)
      · have hpos' := of_decide_eq_true hpos
        refine ⟨_, rfl, p, _, rfl, dget (k := Sum.inr "digits") hp1 pen_digits, .inl ⟨_, rfl, _, rfl, _, _, rfl, rfl, by show k ≠ 0; omega, ?_⟩⟩
        refine ⟨_, rfl, p, _, rfl, dget (k := Sum.inr "digits") hp1 pen_digits, _, rfl, _, _, rfl, rfl, ⟨by show k ≠ 0; omega, by show k.natAbs < 1073741824; omega⟩, _, rfl, p, _, rfl, dput (k := Sum.inr "digits") hp1 s5 put_digits, _, rfl, ?_⟩
        have hb := fmod_in (a := d1) (b := k) hk0
        have kk : Keep p H (upd H1 p (.dK (penK c i1 (d1.fdiv k) (n + 1) f1))) := kp.trans Keep.upd
        exact q _ _ hb.1 hb.2 (pen' upd_same hi1 (fdiv_nn hd1 hk0) hf01 hf11 kk) kk
      · refine ⟨_, rfl, p, _, rfl, dget (k := Sum.inr "fold") hp1 pen_fold, _, rfl, p, _, rfl, dget (k := Sum.inr "count") hp1 pen_count, _, _, rfl, rfl, .inr ⟨by decide, by decide⟩, _, _, rfl, rfl, _, _, rfl, rfl, ?_⟩
        refine ⟨_, rfl, _, _, rfl, rfl, ⟨by decide, by decide, by show (f1 + (n + 1) * 7907 + 37).natAbs < 2 ^ 64; omega⟩, _, _, rfl, rfl, (by show (2305843009213693951 : Int) ≠ 0; decide), .inl ⟨_, rfl, _, _, rfl, rfl, ⟨by decide, by decide⟩, _, rfl, _, _, rfl, rfl, by show k ≠ 0; omega, ?_⟩⟩
        have hb := fmod_in (a := (((f1 + (n + 1) * 7907 + 37) ^ ((17 : Int)).toNat).fmod 2305843009213693951).fdiv 128) (b := k) hk0
        exact q _ _ hb.1 hb.2 (pen' hp1 hi1 hd1 hf01 hf11 kp) kp
abbrev st_law_pick : Stmt := top 35
theorem sc_law_pick : FnScope ["_law_pen_here", "_law_some"] ["_law_pen_here", "_law_some"] (defScope st_law_pick) := ⟨rfl, rfl, rfl, by decide +kernel, rfl, by decide +kernel, by decide +kernel⟩
theorem ok_law_pick (B : Blt mg)  {f_law_draw : Addr} {fd_law_draw : FuncData} (D_law_draw : DefAt K mg "_law_draw" st_law_draw ["_law_pen_here", "_law_many"] f_law_draw fd_law_draw) {f_law_pick : Addr} {fd_law_pick : FuncData} (D_law_pick : DefAt K mg "_law_pick" st_law_pick ["_law_pen_here", "_law_some"] f_law_pick fd_law_pick) : FnOk P w K mg base CX0 2 f_law_pick fd_law_pick ["_law_pen_here", "_law_some"] (spPick K) := by
  have OK_law_draw : FnOk P w K mg base CX0 1 f_law_draw fd_law_draw ["_law_pen_here", "_law_many"] spDraw := ok_law_draw B  D_law_draw
  refine D_law_pick.F.ok sc_law_pick (fun vs H Q E h => ?_) (fun cdv A outer s H vs Q E hr h => ?_)
  · obtain ⟨p, c, a, m, xs, rfl, _⟩ := h; rfl
  · have hu := hu_of hr
    refine ⟨_, (pss_one (ps_ret (pe_ix ix_list (pv 1) (pe_call OK_law_draw (hr.mono (by decide)) rfl D_law_draw.m D_law_draw.F.kp D_law_draw.b .nil pass0 (pa_cons (pv 0) (pa_cons (pe_callB call_len_seq (by rfl) B.len_ (by decide +kernel) (pa_cons (pv 1) pa_nil)) pa_nil))) (fun _ _ => rfl)))), ?_⟩
    obtain ⟨p, c, a, m, xs, rfl, P, hm, hS, hl0, hl1, q⟩ := h
    refine ⟨_, rfl, _, rfl, _, rfl, a, xs, rfl, .inl hS, p, c, m, _, rfl, P, hm, by omega, by omega, fun r H' h0 h1 P' kp => ?_⟩
    obtain ⟨j, rfl⟩ := Int.eq_ofNat_of_zero_le h0
    have hj : j < xs.length := by omega
    exact ⟨a, xs, _, xs[j], rfl, rfl, kp.seqL P hS, at_of rfl (List.getElem?_eq_getElem hj), q j _ H' (List.getElem?_eq_getElem hj) P' kp⟩
end
end AL
set_option Elab.async false
set_option maxRecDepth 100000
set_option exponentiation.threshold 70000
set_option maxHeartbeats 1000000
/-! math.lcm of two ints below 2 ^ 13000. -/
namespace AL
open PySem PySem.Spec PyProof.Rows L2 PySem.W PySem.Calls
theorem lcm_lt {x y : Nat} (hx : x < 2 ^ 13000) (hy : y < 2 ^ 13000) : x.lcm y < 2 ^ 26000 := by
  have h1 : x.lcm y ≤ x * y := by
    unfold Nat.lcm
    exact Nat.div_le_self _ _
  have h2 : x * y < 2 ^ 13000 * 2 ^ 13000 := Nat.mul_lt_mul_of_lt_of_lt hx hy
  rw [← Nat.pow_add] at h2
  exact Nat.lt_of_le_of_lt h1 h2
section
variable {X : Cx}
theorem cr_lcm : CallR X (.builtin "math.lcm") (fun vs H Q => ∃ a b : Int, vs = [.int a, .int b] ∧ a.natAbs < 2 ^ 13000 ∧ b.natAbs < 2 ^ 13000 ∧ Q (.int ((Nat.lcm a.natAbs b.natAbs : Nat) : Int)) H) := by
  intro pins s σ H vs us Q I r h
  obtain ⟨a, b, rfl, ha, hb, q⟩ := h
  obtain ⟨t, u, rfl⟩ := Vals.int2 r
  have k : ∀ n : Nat, n < 2 ^ 13000 → ¬ n.log2 / 30 + 1 > 450 := fun n hn => by
    have := log2_small (k := 13000) (by decide) hn
    omega
  have e1 : Nat.lcm 1 a.natAbs = a.natAbs := Nat.lcm_one_left _
  have one : (1 : Nat) < 2 ^ 13000 := Nat.one_lt_two_pow (by decide)
  have sz : (((a.natAbs.lcm b.natAbs : Nat) : Int)).natAbs.log2 < bitsLine := by
    rw [Int.natAbs_natCast]
    exact Nat.lt_of_lt_of_le (log2_small (k := 26000) (by decide) (lcm_lt ha hb)) (by decide +kernel)
  have g := mg_run_lcm a t b u (k _ (Nat.max_lt.mpr ⟨one, ha⟩)) (k _ (Nat.max_lt.mpr ⟨ha, hb⟩)) (by rw [e1]; exact sz)
  rw [e1] at g
  exact call_function_meets MGF.kind_lcm MGF.plain_lcm MGF.entry_lcm (MGF.args_lcm _ _) g.meets ⟨.int _, H, I.tok _, ⟨_, rfl⟩, q⟩
end
end AL
set_option Elab.async false
set_option maxRecDepth 100000
set_option maxHeartbeats 2000000
/-! Operators that a class of the program writes itself; repr of any datum. -/
namespace AL
open PySem PySem.Spec PyProof.Rows L2
/-- repr(x), x any datum -/
def rReprV (K : PySem.W.Frag) : List V → Hp → VK → Prop := fun vs H Q => ∃ (v : V) (d : PyData), vs = [v] ∧ Dp K H v d ∧ d.showable = true ∧ d.hasDict = false ∧ d.depth ≤ 60 ∧ d.shown.length ≤ sizeLine ∧ Q (.str d.shown) H
theorem call_reprV {X : Cx} (gd : X.A.guards = some []) (hu : X.A.units + 64 < cLine) : CallR X (.builtin "repr") (rReprV X.K) := by
  intro pins s σ H vs us Q I r h
  obtain ⟨v, d, rfl, hd, h1, h2, h3, h4, q⟩ := h
  obtain ⟨u, rfl, ru⟩ := vals1 r
  have big : ∀ a : Addr, v = .ref a → wpAny (model X.prog X.w) X.A (call (.builtin "repr") [u]) (EP X pins σ Q) X.xe s := by
    intro a e
    subst e
    obtain rfl : u = Value.ref a := ru
    obtain ⟨as, rd⟩ := Dp.reads I d (.ref a) (.ref a) hd rfl
    exact repr_of_reads' rd h1 (PyData.noDict_hsm h2) gd (by omega) (fun _ _ z => z) (fun h' u tk kk => ⟨.str d.shown, H, I.kept (t' := tk) kk, ⟨u, rfl⟩, q⟩) h4
  cases hd with
  | non =>
    obtain rfl : u = Value.none := ru
    exact PySem.P.repr_of_none ⟨.str _, H, I.tok _, ⟨_, rfl⟩, q⟩
  | bl b =>
    obtain rfl : u = Value.bool b := ru
    refine PySem.P.repr_of_bool ⟨.str _, H, I.tok _, ⟨_, rfl⟩, ?_⟩
    cases b <;> exact q
  | int i =>
    obtain ⟨t, rfl⟩ := (show ∃ t, u = Value.int i t from ru)
    exact PySem.P.repr_of_int (by simpa [PyData.showable] using h1) ⟨.str _, H, I.tok _, ⟨_, rfl⟩, q⟩
  | str x =>
    obtain ⟨t, rfl⟩ := (show ∃ t, u = Value.str x t from ru)
    exact PySem.P.repr_of_str ⟨.str _, H, I.tok _, ⟨_, rfl⟩, q⟩ h4
  | lst hs ha => exact big _ rfl
  | tup hs ha => exact big _ rfl
/-- an instance -/
def InsAt (H : Hp) (a C : Addr) : Prop := ∃ dx fs, H a = some (.ins C dx fs)
/-- values that an own operator may hand back -/
def Told (v : V) : Prop := (∃ a, v = .ref a) ∨ ∃ b, v = .bl b
theorem cmpBack {Q : VK} {X : Cx} {pins : List (Addr × Obj)} {σ : L2.St} {u : Value} {s : Shared} (h : EP X pins σ (fun v H' => Told v ∧ Q v H') u s) : PySem.W.CmpBack (EP X pins σ Q) u s := by
  obtain ⟨v, H', I, r, t, q⟩ := h
  rcases t with ⟨a, rfl⟩ | ⟨b, rfl⟩
  · cases (show u = Value.ref a from r)
    exact ⟨.ref a, H', I, rfl, q⟩
  · cases (show u = Value.bool b from r)
    exact ⟨.bl b, H', I, rfl, q⟩
section
variable {X : Cx} {CX : CXT} {k : Nat} {f C : Addr} {fd : FuncData} {ps : List Str} {sp : Sp} {E : XK}
/-- x op y, both of the class at C, by its own method -/
def rOwn2 (C : Addr) (sp : Sp) (E : XK) : R2 := fun x y H Q => ∃ a b, x = .ref a ∧ y = .ref b ∧ InsAt H a C ∧ InsAt H b C ∧ sp [.ref a, .ref b] H (fun v H' => Told v ∧ Q v H') E
theorem op_own2 {op : Operator} (sf : PySem.W.selfFirst X.K C = true) (M : Meth X.K C (PySem.dunder op.info.2) f) (F : FnOk X.prog X.w X.K X.mg X.base CX k f fd ps sp) (hr : Room k X.A) (hb : Binds X.K fd ps []) (hx : Passes CX X E) : OpR X (binaryOp op) (rOwn2 C sp E) := by
  intro pins s σ H x y v u Q I rx ry h
  obtain ⟨a, b, rfl, rfl, ⟨dx, fs, ha⟩, ⟨dy, gs, hb'⟩, q⟩ := h
  cases rx
  cases ry
  obtain ⟨mA, J, _⟩ := ins_get I.hok ha
  obtain ⟨mB, J', _⟩ := ins_get I.hok hb'
  obtain ⟨od, J, _⟩ := J.look
  obtain ⟨od', J', _⟩ := J'.look
  obtain ⟨m, hF⟩ := I.fr
  refine PySem.W.binop_K (op := op) hF I.ok.mod.kin J J'.type sf M.at_ M.fn ?_
  exact wpAny_mono (run_fn F hr hb .nil hx I (vs := [.ref a, .ref b]) (.cons rfl (.cons rfl .nil)) q) (fun _ _ z => cmpBack z) fun _ _ z => z
/-- -x -/
def rOwn1 (C : Addr) (sp : Sp) (E : XK) : V → Hp → VK → Prop := fun x H Q => ∃ a, x = .ref a ∧ InsAt H a C ∧ sp [.ref a] H Q E
theorem un_own (M : Meth X.K C "__neg__" f) (F : FnOk X.prog X.w X.K X.mg X.base CX k f fd ps sp) (hr : Room k X.A) (hb : Binds X.K fd ps []) (hx : Passes CX X E) : UnR X (unaryOp .USub) (rOwn1 C sp E) := by
  intro pins s σ H x v Q I rx h
  obtain ⟨a, rfl, ⟨dx, fs, ha⟩, q⟩ := h
  cases rx
  obtain ⟨mA, J, _⟩ := ins_get I.hok ha
  obtain ⟨od, J, _⟩ := J.look
  unfold unaryOp
  refine wpAny_holding ?_
  show wpAny _ _ (callSpecial? (.ref a) "__neg__" >>= _) _ _ _
  refine wpAny_bind (PySem.W.special_fn I.kIn J M.at_ (beq_iff_eq.mp M.fn) ?_)
  exact wpAny_mono (run_fn F hr hb .nil hx I (vs := [.ref a]) (.cons rfl .nil) q) (fun _ _ z => wpAny_pure z) fun _ _ z => z
/-- x == y, x of the class at C -/
def rOwnE (K : PySem.W.Frag) (C : Addr) (sp : Sp) (E : XK) : R2 := fun x y H Q => ∃ a tb, x = .ref a ∧ InsAt H a C ∧ TyX K H y tb ∧ PySem.W.notFirst K C tb = true ∧ sp [.ref a, y] H (fun v H' => Told v ∧ Q v H') E
theorem op_ownE (M : Meth X.K C "__eq__" f) (F : FnOk X.prog X.w X.K X.mg X.base CX k f fd ps sp) (hr : Room k X.A) (hb : Binds X.K fd ps []) (hx : Passes CX X E) : OpR X (compareOp .Eq) (rOwnE X.K C sp E) := by
  intro pins s σ H x y v u Q I rx ry h
  obtain ⟨a, tb, rfl, ⟨dx, fs, ha⟩, ty, nf, q⟩ := h
  cases rx
  obtain ⟨mA, J, _⟩ := ins_get I.hok ha
  obtain ⟨od, J, _⟩ := J.look
  obtain ⟨m, hF⟩ := I.fr
  obtain ⟨P, Z, p, _⟩ := kit_of I ry ty
  show wpAny (model X.prog X.w) X.A (richCompare .Eq (.ref a) u) (EP X pins σ Q) X.xe s
  refine PySem.W.cmp_K (op := .Eq) (tb := tb) hr.units0 hF I.ok.mod.kin J (Z.ty _ _ I.kIn p) nf M.at_ M.fn ?_
  exact wpAny_mono (run_fn F hr hb .nil hx I (vs := [.ref a, y]) (.cons rfl (.cons ry .nil)) q) (fun _ _ z => cmpBack z) fun _ _ z => z
end
end AL
set_option Elab.async false
set_option maxRecDepth 100000
set_option exponentiation.threshold 70000
set_option maxHeartbeats 1000000
/-! Ratios as they are passed, and what the helpers of the program promise of them. -/
namespace AL
open PySem L2
def LowOk (a : Int) (b : Nat) : Prop := (a.natAbs < N4 ∧ b < N4) ∨ Nat.gcd a.natAbs b < 2 ^ 8000
/-- the pair in lowest terms -/
def nrm (a : Int) (b : Nat) : Int × Nat := (a.fdiv ((Nat.gcd a.natAbs b : Nat) : Int), b / Nat.gcd a.natAbs b)
theorem nrm_one (i : Int) : nrm i 1 = (i, 1) := by
  unfold nrm
  rw [Nat.gcd_one_right]
  show (i.fdiv ((1 : Nat) : Int), 1 / 1) = (i, 1)
  rw [Int.fdiv_eq_ediv_of_nonneg _ (by decide)]
  simp
/-- lowest(a, b) -/
def spLowC : Sp := fun vs H Q _ => ∃ (a : Int) (b : Nat), vs = [.int a, .int (b : Int)] ∧ LowOk a b ∧ b ≠ 0 ∧ ∀ t, H t = none → Q (.ref t) (upd H t (.tup [.int (nrm a b).1, .int ((nrm a b).2 : Int)]))
/-- _law_q(a, b) -/
def spQC : Sp := fun vs H Q _ => ∃ (a : Int) (b : Nat), vs = [.int a, .int (b : Int)] ∧ a.natAbs < N6 ∧ b < N6 ∧ LowOk a b ∧ b ≠ 0 ∧ ∀ t, H t = none → Q (.ref t) (upd H t (.tup [.int (nrm a b).1, .int ((nrm a b).2 : Int)]))
/-- is_whole(x), of a value of any kind -/
def spWholeV (K : PySem.W.Frag) : Sp := fun vs H Q _ => ∃ (x : V) (u : Value) (b c : Bool), vs = [x] ∧ TyX K H x u ∧ PySem.W.kitOne K u (.type "int") = some b ∧ PySem.W.kitOne K u (.type "bool") = some c ∧ Q (.bl (b && !c)) H
def flatW : V → Option Bool
  | .int _ => some true
  | .bl _ => some false
  | .non => some false
  | .str _ => some false
  | _ => none
theorem flat_ty {K : PySem.W.Frag} {H : Hp} {x : V} {w : Bool} (h : flatW x = some w) : ∃ u b c, TyX K H x u ∧ PySem.W.kitOne K u (.type "int") = some b ∧ PySem.W.kitOne K u (.type "bool") = some c ∧ (b && !c) = w := by
  cases x with
  | int i => cases h; exact ⟨_, true, false, TyX.base (.int i), rfl, rfl, rfl⟩
  | bl b => cases h; exact ⟨_, true, true, TyX.base (.bl b), rfl, rfl, rfl⟩
  | non => cases h; exact ⟨_, false, false, TyX.base .non, rfl, rfl, rfl⟩
  | str z => cases h; exact ⟨_, false, false, TyX.base (.str z), rfl, rfl, rfl⟩
  | _ => cases h
theorem flat_not {K : PySem.W.Frag} {H : Hp} {x : V} {w : Bool} (h : flatW x = some w) : ∃ u, TyX K H x u ∧ PySem.W.kitOne K u (.type "tuple") = some false := by
  cases x with
  | int i => exact ⟨_, TyX.base (.int i), rfl⟩
  | bl b => exact ⟨_, TyX.base (.bl b), rfl⟩
  | non => exact ⟨_, TyX.base .non, rfl⟩
  | str z => exact ⟨_, TyX.base (.str z), rfl⟩
  | _ => cases h
/-- are_integers(t), t a tuple of flat values -/
def spAre (K : PySem.W.Frag) : Sp := fun vs H Q _ => ∃ (t : Addr) (xs : List V) (f : V → Bool), vs = [.ref t] ∧ H t = some (.tup xs) ∧ xs.length ≤ 100 ∧ (∀ x ∈ xs, flatW x = some (f x)) ∧ ∀ H', Same H H' → Q (.bl (xs.all f)) H'
/-- what may be passed for a ratio: none where it is none -/
inductive RatV (K : PySem.W.Frag) (H : Hp) : V → Option (Int × Nat) → Prop
  | int (i : Int) : RatV K H (.int i) (some (i, 1))
  | pair {t : Addr} {p : Int} {q : Nat} (h : H t = some (.tup [.int p, .int (q : Int)])) (h0 : 0 < q) : RatV K H (.ref t) (some (p, q))
  | other {x : V} {u : Value} {b c : Bool} (h : TyX K H x u) (ht : PySem.W.kitOne K u (.type "tuple") = some false) (hb : PySem.W.kitOne K u (.type "int") = some b) (hc : PySem.W.kitOne K u (.type "bool") = some c) (no : (b && !c) = false) : RatV K H x none
  | long {t : Addr} {xs : List V} (h : H t = some (.tup xs)) (hl : xs.length ≠ 2) : RatV K H (.ref t) none
  | item {t : Addr} {x y : V} {b c : Bool} (h : H t = some (.tup [x, y])) (hx : flatW x = some b) (hy : flatW y = some c) (no : (b && c) = false) : RatV K H (.ref t) none
  | sign {t : Addr} {p q : Int} (h : H t = some (.tup [.int p, .int q])) (h0 : q ≤ 0) : RatV K H (.ref t) none
theorem RatV.same {K : PySem.W.Frag} {H H' : Hp} {x : V} {r : Option (Int × Nat)} (h : RatV K H x r) (s : Same H H') (ty : ∀ u, TyX K H x u → TyX K H' x u) : RatV K H' x r := by
  cases h with
  | int i => exact .int i
  | pair h h0 => exact .pair (s _ _ h) h0
  | other h ht hb hc no => exact .other (ty _ h) ht hb hc no
  | long h hl => exact .long (s _ _ h) hl
  | item h hx hy no => exact .item (s _ _ h) hx hy no
  | sign h h0 => exact .sign (s _ _ h) h0
/-- is_ratio(x) -/
def spIsRatV (K : PySem.W.Frag) : Sp := fun vs H Q _ => ∃ (x : V) (r : Option (Int × Nat)), vs = [x] ∧ RatV K H x r ∧ ∀ H', Same H H' → Q (.bl r.isSome) H'
/-- as_ratio(x) -/
def spAs (K : PySem.W.Frag) : Sp := fun vs H Q _ => ∃ (x : V) (p : Int) (q : Nat), vs = [x] ∧ RatV K H x (some (p, q)) ∧ LowOk p q ∧ ∀ t, H t = none → Q (.ref t) (upd H t (.tup [.int (nrm p q).1, .int ((nrm p q).2 : Int)]))
/-- whole_power(b, n) -/
def spPow : Sp := fun vs H Q _ => ∃ (b : Int) (n a : Nat), vs = [.int b, .int (n : Int)] ∧ b.natAbs < 2 ^ a ∧ 0 < a ∧ a * n ≤ 400000 ∧ a ≤ 400000 ∧ Q (.int (b ^ n)) H
/-- digits_of(i) -/
def spDig : Sp := fun vs H Q _ => ∃ (i : Int), vs = [.int i] ∧ Q (.int ((ndig i.natAbs : Nat) : Int)) H
/-- newton_step(n, j + 1, g) -/
def spStep : Sp := fun vs H Q _ => ∃ (n j g : Nat), vs = [.int (n : Int), .int ((j + 1 : Nat) : Int), .int (g : Int)] ∧ n < 2 ^ 8000 ∧ j < 1000 ∧ 0 < g ∧ g < 2 ^ 8100 ∧ g ^ j < 2 ^ 13500 ∧ Q (.int ((nstep n j g : Nat) : Int)) H
/-- floor_root(n, k) -/
def spFloor : Sp := fun vs H Q _ => ∃ (n k : Nat), vs = [.int (n : Int), .int (k : Int)] ∧ n < 2 ^ 4000 ∧ 0 < k ∧ k < 1000 ∧ ∀ g, isRoot n k g → Q (.int (g : Int)) H
/-- whole_root(n, k) -/
def spRoot : Sp := fun vs H Q _ => ∃ (n k : Nat), vs = [.int (n : Int), .int (k : Int)] ∧ n < 2 ^ 4000 ∧ 0 < k ∧ k < 1000 ∧ (∀ r, r ^ k = n → Q (.int (r : Int)) H) ∧ ((∀ r, r ^ k ≠ n) → Q .non H)
/-- ratio_root((p, q), k) -/
def spRatRoot (K : PySem.W.Frag) : Sp := fun vs H Q _ => ∃ (t : Addr) (p q k : Nat), vs = [.ref t, .int (k : Int)] ∧ H t = some (.tup [.int (p : Int), .int (q : Int)]) ∧ p < 2 ^ 4000 ∧ q < 2 ^ 4000 ∧ 0 < k ∧ k < 1000 ∧
  (∀ a b t', a ^ k = p → b ^ k = q → H t' = none → Q (.ref t') (upd H t' (.tup [.int (a : Int), .int (b : Int)]))) ∧ ((∀ a b, ¬ (a ^ k = p ∧ b ^ k = q)) → Q .non H)
end AL
set_option Elab.async false
set_option maxRecDepth 100000
set_option exponentiation.threshold 70000
set_option maxHeartbeats 1000000
/-! What ratio_text and root_of promise. -/
namespace AL
open PySem L2
def numI (a : Int) : Str := Str.ofString (toString a)
/-- the shortest text of a ratio in lowest terms -/
def txt (a : Int) (b : Nat) : Str := if b = 1 then numI a else numI a ++ "/" ++ numI (b : Int)
def many (a : Int) (b : Nat) : Nat := max (ndig a.natAbs) (ndig b)
/-- ratio_text(x) -/
def spText (K : PySem.W.Frag) (BN TL : Addr) : Sp := fun vs H Q E => ∃ (x : V) (r : Option (Int × Nat)), vs = [x] ∧ RatV K H x r ∧
  (r = none → ∀ d H1, H1 d = none → Same H H1 → E (.ref BN) (some d) (upd H1 d (.xd [("number", x), ("what", .str "ratio")]))) ∧
  (∀ p q, r = some (p, q) → LowOk p q ∧
    (4000 < many (nrm p q).1 (nrm p q).2 → ∀ d H1, H1 d = none → Same H H1 → E (.ref TL) (some d) (upd H1 d (.xd [("limit", .int 4000), ("number", .int ((many (nrm p q).1 (nrm p q).2 : Nat) : Int)), ("what", .str "digits")]))) ∧
    (many (nrm p q).1 (nrm p q).2 ≤ 4000 → ∀ H1, Same H H1 → Q (.str (txt (nrm p q).1 (nrm p q).2)) H1))
theorem RatV.someSame {K : PySem.W.Frag} {H H' : Hp} {x : V} {r : Int × Nat} (h : RatV K H x (some r)) (s : Same H H') : RatV K H' x (some r) := by
  cases h with
  | int i => exact .int i
  | pair h h0 => exact .pair (s _ _ h) h0
theorem RatV.pos {K : PySem.W.Frag} {H : Hp} {x : V} {p : Int} {q : Nat} (h : RatV K H x (some (p, q))) : 0 < q := by
  cases h with
  | int i => decide
  | pair h h0 => exact h0
/-- what may be passed for a root -/
inductive RootV (K : PySem.W.Frag) (H : Hp) : V → Option Nat → Prop
  | ok (k : Nat) (h1 : 1 ≤ k) (h2 : k ≤ 60) : RootV K H (.int (k : Int)) (some k)
  | far (i : Int) (h : i < 1 ∨ 60 < i) : RootV K H (.int i) none
  | other {x : V} {u : Value} {b c : Bool} (h : ∀ H', Same H H' → TyX K H' x u) (hb : PySem.W.kitOne K u (.type "int") = some b) (hc : PySem.W.kitOne K u (.type "bool") = some c) (no : (b && !c) = false) : RootV K H x none
/-- the ratio is none, or below 0 -/
def badRat : Option (Int × Nat) → Bool
  | none => true
  | some (p, q) => decide ((nrm p q).1 < 0)
/-- root_of(x, y) -/
def spRootOf (K : PySem.W.Frag) (BN : Addr) : Sp := fun vs H Q E => ∃ (x y : V) (r : Option (Int × Nat)) (k : Option Nat), vs = [x, y] ∧ RatV K H x r ∧ RootV K H y k ∧ (∀ p q, r = some (p, q) → LowOk p q) ∧
  (badRat r = true → ∀ d H1, H1 d = none → Same H H1 → E (.ref BN) (some d) (upd H1 d (.xd [("number", x), ("what", .str "ratio")]))) ∧
  (badRat r = false → k = none → ∀ d H1, H1 d = none → Same H H1 → E (.ref BN) (some d) (upd H1 d (.xd [("number", y), ("what", .str "root")]))) ∧
  (∀ p q n, r = some (p, q) → badRat r = false → k = some n → (nrm p q).1.natAbs < 2 ^ 4000 ∧ (nrm p q).2 < 2 ^ 4000 ∧
    (∀ u v t H1, u ^ n = (nrm p q).1.natAbs → v ^ n = (nrm p q).2 → H1 t = none → Same H H1 → Q (.ref t) (upd H1 t (.tup [.int (u : Int), .int (v : Int)]))) ∧
    ((∀ u v, ¬ (u ^ n = (nrm p q).1.natAbs ∧ v ^ n = (nrm p q).2)) → ∀ H1, Same H H1 → Q .non H1))
theorem empty_app (x : Str) : Str.empty ++ x = x := by
  cases x with
  | mk a =>
    show (⟨#[] ++ a⟩ : Str) = ⟨a⟩
    rw [Array.empty_append]
theorem numI_len {a : Int} {k : Nat} (hk : 0 < k) (h : a.natAbs < 10 ^ k) : (numI a).length ≤ k + 1 := by
  have e : (numI a).length = (toString a).length := by
    unfold numI
    rw [Str.ofString_eq_toList]
    show (((toString a).toList.map Char.toNat).toArray).size = _
    rw [List.size_toArray, List.length_map, String.length_toList]
  rw [e]
  have := int_text_length_le10 hk h
  omega
end AL
set_option Elab.async false
set_option maxRecDepth 100000
set_option exponentiation.threshold 70000
set_option maxHeartbeats 1000000
/-! What the law's own helpers promise. -/
namespace AL
open PySem L2
/-- _law_written(t) -/
def spWritten : Sp := fun vs H Q _ => ∃ (t : Addr) (a : Int) (b : Nat), vs = [.ref t] ∧ H t = some (.tup [.int a, .int (b : Int)]) ∧ many a b ≤ 4000 ∧ Q (.str (txt a b)) H
/-- _law_passed(pen, t) -/
def spPassed (K : PySem.W.Frag) : Sp := fun vs H Q _ => ∃ (p c t : Addr) (m : Nat) (a b : Nat), vs = [.ref p, .ref t] ∧ Pen H p c m ∧ m < 800000000 ∧ H t = some (.tup [.int (a : Int), .int (b : Int)]) ∧ 0 < b ∧ a < 2 ^ 4000 ∧ b < 2 ^ 4000 ∧
  ∀ (x : V) (k : Nat) H', 0 < k → k ≤ 10 → RatV K H' x (some (((a * k : Nat) : Int), b * k)) → Pen H' p c (m + 2) → Keep p H H' → Q x H'
/-- _law_power(t, n) -/
def spPower : Sp := fun vs H Q _ => ∃ (t : Addr) (a b n e : Nat), vs = [.ref t, .int (n : Int)] ∧ H t = some (.tup [.int (a : Int), .int (b : Int)]) ∧ a < 2 ^ e ∧ b < 2 ^ e ∧ 0 < e ∧ e * n ≤ 400000 ∧ e ≤ 400000 ∧ n ≤ 60 ∧
  ∀ t' H', Same H H' → H' t' = some (.tup [.int ((a ^ n : Nat) : Int), .int ((b ^ n : Nat) : Int)]) → Q (.ref t') H'
/-- _law_whole_power(a, n) -/
def spWP : Sp := fun vs H Q _ => ∃ (a n e : Nat), vs = [.int (a : Int), .int (n : Int)] ∧ a < 2 ^ e ∧ 0 < e ∧ e * n ≤ 400000 ∧ e ≤ 400000 ∧ n ≤ 60 ∧ Q (.int ((a ^ n : Nat) : Int)) H
/-- _law_is_power(n, k) -/
def spIsPow : Sp := fun vs H Q _ => ∃ (n k : Nat), vs = [.int (n : Int), .int (k : Int)] ∧ n < 2 ^ 4000 ∧ 0 < k ∧ k ≤ 60 ∧ ∀ (w : Bool) H', Same H H' → (w = true ↔ ∃ r, r ^ k = n) → Q (.bl w) H'
theorem pow_fit {a e i n : Nat} (ha : a < 2 ^ e) (he : 0 < e) (hin : i ≤ n) (hn : e * n ≤ 400000) : ((a ^ i : Nat) : Int).natAbs < 2 ^ 400001 := by
  rw [Int.natAbs_natCast]
  refine Nat.lt_of_le_of_lt (Nat.pow_le_pow_left (Nat.le_of_lt ha) i) ?_
  rw [← Nat.pow_mul]
  have := Nat.mul_le_mul_left e hin
  exact Nat.pow_lt_pow_right (by decide) (by omega)
theorem half_le {w j : Nat} (h : w ≤ 2 ^ (j + 1)) : (w + 1) / 2 ≤ 2 ^ j := by
  rw [Nat.pow_succ] at h
  omega
end AL
set_option Elab.async false
set_option maxRecDepth 100000
set_option exponentiation.threshold 70000
set_option maxHeartbeats 1000000
/-! Sums and products of ratios: both sides' promises, and what they mean. -/
namespace AL
open PySem L2
def DivOk (a b : Int) : Prop := (a.natAbs < 2 ^ 13500 ∧ b.natAbs < 2 ^ 13500) ∨ Nat.gcd a.natAbs b.natAbs < 2 ^ 8000
/-- lowest terms, the bottom of any sign -/
def shr (a b : Int) : Int := if b < 0 then -((Nat.gcd a.natAbs b.natAbs : Nat) : Int) else ((Nat.gcd a.natAbs b.natAbs : Nat) : Int)
def lowI (a b : Int) : Int × Int := (a.fdiv (shr a b), b.fdiv (shr a b))
theorem nrm_spec (a : Int) {b : Nat} (hb : 0 < b) : 0 < (nrm a b).2 ∧ Nat.gcd (nrm a b).1.natAbs (nrm a b).2 = 1 ∧ (nrm a b).1 * (b : Int) = a * ((nrm a b).2 : Int) := by
  have hg : 0 < Nat.gcd a.natAbs b := Nat.gcd_pos_of_pos_right _ hb
  have d1 : ((Nat.gcd a.natAbs b : Nat) : Int) ∣ a := Int.ofNat_dvd_left.mpr (Nat.gcd_dvd_left _ _)
  have d2 := Nat.gcd_dvd_right a.natAbs b
  have e1 : (nrm a b).1 = a / ((Nat.gcd a.natAbs b : Nat) : Int) := by
    unfold nrm
    exact Int.fdiv_eq_ediv_of_nonneg _ (by omega)
  have e2 : (nrm a b).2 = b / Nat.gcd a.natAbs b := rfl
  refine ⟨?_, ?_, ?_⟩
  · rw [e2]; exact Nat.div_pos (Nat.le_of_dvd hb d2) hg
  · rw [e1, e2, Int.natAbs_ediv_of_dvd d1, Int.natAbs_natCast, Nat.gcd_div (Nat.gcd_dvd_left _ _) d2, Nat.div_self hg]
  · rw [e1, e2]
    generalize hgg : Nat.gcd a.natAbs b = g at *
    obtain ⟨x, hx⟩ := d1
    obtain ⟨y, hy⟩ := d2
    have hg0 : (g : Int) ≠ 0 := by omega
    rw [hx, hy, Int.mul_ediv_cancel_left _ hg0, Nat.mul_div_cancel_left _ hg, Int.natCast_mul]
    rw [Int.mul_assoc, Int.mul_left_comm]
/-- two ratios in lowest terms that are the same number -/
theorem low_unique {p a : Int} {q b : Nat} (hq : 0 < q) (hb : 0 < b) (c1 : Nat.gcd p.natAbs q = 1) (c2 : Nat.gcd a.natAbs b = 1) (e : p * (b : Int) = a * (q : Int)) : p = a ∧ q = b := by
  have en : p.natAbs * b = a.natAbs * q := by
    have := congrArg Int.natAbs e
    rwa [Int.natAbs_mul, Int.natAbs_mul, Int.natAbs_natCast, Int.natAbs_natCast] at this
  have d1 : q ∣ b := (Nat.Coprime.dvd_of_dvd_mul_left (Nat.Coprime.symm c1) ⟨a.natAbs, by rw [en, Nat.mul_comm]⟩)
  have d2 : b ∣ q := (Nat.Coprime.dvd_of_dvd_mul_left (Nat.Coprime.symm c2) ⟨p.natAbs, by rw [← en, Nat.mul_comm]⟩)
  have hqb := Nat.dvd_antisymm d1 d2
  refine ⟨?_, hqb⟩
  subst hqb
  exact Int.eq_of_mul_eq_mul_right (by omega) e
theorem nrm_eq {p a : Int} {q b : Nat} (hq : 0 < q) (hb : 0 < b) (c1 : Nat.gcd p.natAbs q = 1) (e : p * (b : Int) = a * (q : Int)) : nrm a b = (p, q) := by
  obtain ⟨h1, h2, h3⟩ := nrm_spec a hb
  have e2 : p * ((nrm a b).2 : Int) = (nrm a b).1 * (q : Int) := by
    have hb0 : (b : Int) ≠ 0 := by omega
    refine Int.eq_of_mul_eq_mul_right hb0 ?_
    calc p * ((nrm a b).2 : Int) * (b : Int) = p * (b : Int) * ((nrm a b).2 : Int) := by rw [Int.mul_assoc, Int.mul_assoc, Int.mul_comm ((nrm a b).2 : Int)]
      _ = a * (q : Int) * ((nrm a b).2 : Int) := by rw [e]
      _ = a * ((nrm a b).2 : Int) * (q : Int) := by rw [Int.mul_assoc, Int.mul_assoc, Int.mul_comm (q : Int)]
      _ = (nrm a b).1 * (b : Int) * (q : Int) := by rw [← h3]
      _ = (nrm a b).1 * (q : Int) * (b : Int) := by rw [Int.mul_assoc, Int.mul_assoc, Int.mul_comm (b : Int)]
  obtain ⟨r1, r2⟩ := low_unique hq h1 c1 h2 e2
  exact Prod.ext r1.symm r2.symm
theorem lowI_pos (a : Int) (b : Nat) : lowI a (b : Int) = ((nrm a b).1, ((nrm a b).2 : Int)) := by
  have hs : shr a (b : Int) = ((Nat.gcd a.natAbs b : Nat) : Int) := by
    unfold shr
    rw [if_neg (by omega), Int.natAbs_natCast]
  unfold lowI nrm
  rw [hs, fdiv_nat]
theorem lowI_neg (a : Int) {b : Int} (h : 0 < b) : lowI a (-b) = lowI (-a) b := by
  unfold lowI shr
  rw [if_pos (by omega), if_neg (by omega), Int.natAbs_neg, Int.natAbs_neg]
  generalize ((Nat.gcd a.natAbs b.natAbs : Nat) : Int) = g
  have e : ∀ x : Int, x.fdiv (-g) = (-x).fdiv g := fun x => by
    have := Int.neg_fdiv_neg (a := -x) (b := g)
    rw [Int.neg_neg] at this
    exact this
  rw [e, e, Int.neg_neg]
/-- lowest(a, b), _law_q(a, b) -/
def spLowG : Sp := fun vs H Q _ => ∃ (a b : Int), vs = [.int a, .int b] ∧ DivOk a b ∧ b ≠ 0 ∧ ∀ t, H t = none → Q (.ref t) (upd H t (.tup [.int (lowI a b).1, .int (lowI a b).2]))
def spQG : Sp := fun vs H Q _ => ∃ (a b : Int), vs = [.int a, .int b] ∧ a.natAbs < N6 ∧ b.natAbs < N6 ∧ DivOk a b ∧ b ≠ 0 ∧ ∀ t, H t = none → Q (.ref t) (upd H t (.tup [.int (lowI a b).1, .int (lowI a b).2]))
/-- a ratio at t -/
def RatAt (H : Hp) (t : Addr) (a : Int) (b : Nat) : Prop := H t = some (.tup [.int a, .int (b : Int)])
def Mid (a : Int) (b : Nat) : Prop := 0 < b ∧ a.natAbs < 2 ^ 6000 ∧ b < 2 ^ 6000
/-- what two ratios make -/
def spTwo (f : Int → Nat → Int → Nat → Int × Nat) : Sp := fun vs H Q _ => ∃ (s t : Addr) (a c : Int) (b d : Nat), vs = [.ref s, .ref t] ∧ RatAt H s a b ∧ RatAt H t c d ∧ Mid a b ∧ Mid c d ∧ ∀ u, H u = none → Q (.ref u) (upd H u (.tup [.int (f a b c d).1, .int ((f a b c d).2 : Int)]))
def sumR (a : Int) (b : Nat) (c : Int) (d : Nat) : Int × Nat := nrm (a * (d : Int) + c * (b : Int)) (b * d)
def difR (a : Int) (b : Nat) (c : Int) (d : Nat) : Int × Nat := nrm (a * (d : Int) - c * (b : Int)) (b * d)
def mulR (a : Int) (b : Nat) (c : Int) (d : Nat) : Int × Nat := nrm (a * c) (b * d)
theorem mid_mul {x y : Int} (hx : x.natAbs < 2 ^ 6000) (hy : y.natAbs < 2 ^ 6000) : CMulW x y ∧ (x * y).natAbs < 2 ^ 12000 := by
  refine ⟨wide_mul (a := 6000) (b := 6000) hx hy (by decide) (by decide) (by decide), ?_⟩
  rw [Int.natAbs_mul, show (2 : Nat) ^ 12000 = 2 ^ 6000 * 2 ^ 6000 by rw [← Nat.pow_add]]
  exact Nat.mul_lt_mul_of_lt_of_lt hx hy
theorem mid_div {x y : Int} (hx : x.natAbs < 2 ^ 12001) (hy : y.natAbs < 2 ^ 12001) : DivOk x y ∧ x.natAbs < N6 ∧ y.natAbs < N6 := by
  have h1 : (2 : Nat) ^ 12001 ≤ 2 ^ 13500 := Nat.pow_le_pow_right (by decide) (by decide)
  have h2 : (2 : Nat) ^ 12001 ≤ N6 := by unfold N6; decide +kernel
  exact ⟨.inl ⟨Nat.lt_of_lt_of_le hx h1, Nat.lt_of_lt_of_le hy h1⟩, Nat.lt_of_lt_of_le hx h2, Nat.lt_of_lt_of_le hy h2⟩
theorem up12 {x : Nat} (h : x < 2 ^ 12000) : x < 2 ^ 12001 := Nat.lt_trans h (Nat.pow_lt_pow_right (by decide) (by decide))
theorem add12 {x y : Int} (hx : x.natAbs < 2 ^ 12000) (hy : y.natAbs < 2 ^ 12000) : (x + y).natAbs < 2 ^ 12001 ∧ (x - y).natAbs < 2 ^ 12001 := by
  have e : (2 : Nat) ^ 12001 = 2 ^ 12000 + 2 ^ 12000 := by rw [show 12001 = 12000 + 1 from rfl, Nat.pow_succ, Nat.mul_two]
  rw [e]
  generalize (2 : Nat) ^ 12000 = z at hx hy ⊢
  omega
end AL
set_option Elab.async false
set_option maxRecDepth 100000
set_option exponentiation.threshold 70000
set_option maxHeartbeats 1000000
/-! Amounts: what stands in the heap, what each method promises, and the arithmetic of both sides. -/
namespace AL
open PySem L2
/-! ### ratios in lowest terms -/
def Low (p : Int) (q : Nat) : Prop := 0 < q ∧ Nat.gcd p.natAbs q = 1
theorem nrm_low {p : Int} {q : Nat} (h : Low p q) : nrm p q = (p, q) := nrm_eq h.1 h.1 h.2 rfl
theorem low_nrm (a : Int) {b : Nat} (hb : 0 < b) : Low (nrm a b).1 (nrm a b).2 := by
  obtain ⟨h1, h2, _⟩ := nrm_spec a hb
  exact ⟨h1, h2⟩
theorem nrm_le (a : Int) (b : Nat) : (nrm a b).1.natAbs ≤ a.natAbs ∧ (nrm a b).2 ≤ b := by
  unfold nrm
  refine ⟨?_, Nat.div_le_self _ _⟩
  rw [Int.fdiv_eq_ediv_of_nonneg _ (by omega), Int.natAbs_ediv_of_dvd (Int.ofNat_dvd_left.mpr (Nat.gcd_dvd_left _ _)), Int.natAbs_natCast]
  exact Nat.div_le_self _ _
theorem low_neg {p : Int} {q : Nat} (h : Low p q) : Low (-p) q := ⟨h.1, by rw [Int.natAbs_neg]; exact h.2⟩
theorem low_one (i : Int) : Low i 1 := ⟨by decide, Nat.gcd_one_right _⟩
def Sm (p : Int) (q : Nat) : Prop := p.natAbs < 2 ^ 1000 ∧ q < 2 ^ 1000
theorem sm_mid {p : Int} {q : Nat} (h : Sm p q) (l : 0 < q) : Mid p q :=
  ⟨l, Nat.lt_of_lt_of_le h.1 (Nat.pow_le_pow_right (by decide) (by decide)), Nat.lt_of_lt_of_le h.2 (Nat.pow_le_pow_right (by decide) (by decide))⟩
/-- what a quotient of two ratios is -/
def ovR (p : Int) (q : Nat) (c : Int) (d : Nat) : Int × Nat := if c < 0 then nrm (-(p * d)) (q * c.natAbs) else nrm (p * d) (q * c.natAbs)
theorem ovR_eq (p : Int) (q : Nat) (c : Int) (d : Nat) (hq : 0 < q) (hc : c ≠ 0) : lowI (p * d) ((q : Int) * c) = ((ovR p q c d).1, ((ovR p q c d).2 : Int)) := by
  unfold ovR
  by_cases h : c < 0
  · rw [if_pos h]
    have e : (q : Int) * c = -(((q * c.natAbs : Nat) : Int)) := by
      rw [Int.natCast_mul, show ((c.natAbs : Nat) : Int) = -c by omega, Int.mul_neg, Int.neg_neg]
    have pos : (0 : Int) < ((q * c.natAbs : Nat) : Int) := by
      have : 0 < q * c.natAbs := Nat.mul_pos hq (Int.natAbs_pos.mpr hc)
      omega
    rw [e, lowI_neg _ pos, lowI_pos]
  · rw [if_neg h]
    have e : (q : Int) * c = (((q * c.natAbs : Nat) : Int)) := by
      rw [Int.natCast_mul, show ((c.natAbs : Nat) : Int) = c by omega]
    rw [e, lowI_pos]
theorem ovR_low (p : Int) (q : Nat) (c : Int) (d : Nat) (hq : 0 < q) (hc : c ≠ 0) : Low (ovR p q c d).1 (ovR p q c d).2 := by
  have pos : 0 < q * c.natAbs := Nat.mul_pos hq (Int.natAbs_pos.mpr hc)
  unfold ovR
  split
  · exact low_nrm _ pos
  · exact low_nrm _ pos
theorem mul2 {x y : Nat} (a b : Nat) (hx : x < 2 ^ a) (hy : y < 2 ^ b) : x * y < 2 ^ (a + b) := by
  rw [Nat.pow_add]
  exact Nat.mul_lt_mul_of_lt_of_lt hx hy
theorem up6 {x a : Nat} (h : x < 2 ^ a) (ha : a ≤ 6000) : x < 2 ^ 6000 := Nat.lt_of_lt_of_le h (Nat.pow_le_pow_right (by decide) ha)
theorem nrm_mid {a : Int} {b : Nat} (hb : 0 < b) (h1 : a.natAbs < 2 ^ 6000) (h2 : b < 2 ^ 6000) : Mid (nrm a b).1 (nrm a b).2 :=
  ⟨(low_nrm a hb).1, Nat.lt_of_le_of_lt (nrm_le a b).1 h1, Nat.lt_of_le_of_lt (nrm_le a b).2 h2⟩
theorem sm_prod {a : Int} {b : Nat} (h1 : a.natAbs < 2 ^ 1000) (h2 : b < 2 ^ 1000) : (a * (b : Int)).natAbs < 2 ^ 2000 := by
  rw [Int.natAbs_mul, Int.natAbs_natCast]
  exact mul2 1000 1000 h1 h2
theorem sum_ok {p c : Int} {q d : Nat} (s : Sm p q) (t : Sm c d) (hq : 0 < q) (hd : 0 < d) : Low (sumR p q c d).1 (sumR p q c d).2 ∧ Mid (sumR p q c d).1 (sumR p q c d).2 := by
  have pos := Nat.mul_pos hq hd
  have n1 := sm_prod s.1 t.2
  have n2 := sm_prod t.1 s.2
  have e : (2 : Nat) ^ 2001 = 2 ^ 2000 + 2 ^ 2000 := by rw [show 2001 = 2000 + 1 from rfl, Nat.pow_succ, Nat.mul_two]
  have n3 : (p * (d : Int) + c * (q : Int)).natAbs < 2 ^ 2001 := by
    rw [e]; generalize (2 : Nat) ^ 2000 = z at n1 n2 ⊢; omega
  exact ⟨low_nrm _ pos, nrm_mid pos (up6 n3 (by decide)) (up6 (mul2 1000 1000 s.2 t.2) (by decide))⟩
theorem dif_eq (p : Int) (q : Nat) (c : Int) (d : Nat) : difR p q c d = sumR p q (-c) d := by
  unfold difR sumR
  rw [Int.neg_mul, Int.sub_eq_add_neg]
theorem sm_neg {p : Int} {q : Nat} (h : Sm p q) : Sm (-p) q := ⟨by rw [Int.natAbs_neg]; exact h.1, h.2⟩
theorem mul_ok {p c : Int} {q d : Nat} (s : Sm p q) (t : Sm c d) (hq : 0 < q) (hd : 0 < d) : Low (mulR p q c d).1 (mulR p q c d).2 ∧ Mid (mulR p q c d).1 (mulR p q c d).2 := by
  have pos := Nat.mul_pos hq hd
  refine ⟨low_nrm _ pos, nrm_mid pos ?_ (up6 (mul2 1000 1000 s.2 t.2) (by decide))⟩
  rw [Int.natAbs_mul]
  exact up6 (mul2 1000 1000 s.1 t.1) (by decide)
theorem ov_ok {p c : Int} {q d : Nat} (s : Sm p q) (t : Sm c d) (hq : 0 < q) (hc : c ≠ 0) : Low (ovR p q c d).1 (ovR p q c d).2 ∧ Mid (ovR p q c d).1 (ovR p q c d).2 := by
  have pos : 0 < q * c.natAbs := Nat.mul_pos hq (Int.natAbs_pos.mpr hc)
  have h1 : (p * (d : Int)).natAbs < 2 ^ 6000 := up6 (sm_prod s.1 t.2) (by decide)
  have h2 : q * c.natAbs < 2 ^ 6000 := up6 (mul2 1000 1000 s.2 t.1) (by decide)
  refine ⟨ovR_low p q c d hq hc, ?_⟩
  unfold ovR
  split
  · exact nrm_mid pos (by rw [Int.natAbs_neg]; exact h1) h2
  · exact nrm_mid pos h1 h2
/-- the power n -/
def pwR (p : Int) (q : Nat) (n : Int) : Int × Nat := if n < 0 then ovR ((q ^ n.natAbs : Nat) : Int) 1 (p ^ n.natAbs) 1 else (p ^ n.natAbs, q ^ n.natAbs)
theorem pow6 {x n : Nat} (h : x < 2 ^ 1000) (hn : n ≤ 6) : x ^ n < 2 ^ 6000 := by
  rcases Nat.eq_zero_or_pos n with rfl | h0
  · exact Nat.one_lt_two_pow (by decide)
  · refine Nat.lt_of_lt_of_le (Nat.pow_lt_pow_left h (by omega)) ?_
    rw [← Nat.pow_mul]
    exact Nat.pow_le_pow_right (by decide) (by omega)
theorem pw_ok {p : Int} {q : Nat} {n : Int} (s : Sm p q) (l : Low p q) (hn : n.natAbs ≤ 6) (h0 : ¬ (n < 0 ∧ p = 0)) : Low (pwR p q n).1 (pwR p q n).2 ∧ Mid (pwR p q n).1 (pwR p q n).2 := by
  have hp : (p ^ n.natAbs).natAbs < 2 ^ 6000 := by rw [Int.natAbs_pow]; exact pow6 s.1 hn
  have hq := pow6 s.2 hn
  unfold pwR
  by_cases h : n < 0
  · rw [if_pos h]
    have hp0 : p ≠ 0 := fun z => h0 ⟨h, z⟩
    have e0 : p ^ n.natAbs ≠ 0 := Int.pow_ne_zero hp0
    have pos : 0 < 1 * (p ^ n.natAbs).natAbs := by rw [Nat.one_mul]; exact Int.natAbs_pos.mpr e0
    refine ⟨ovR_low _ _ _ _ (by decide) e0, ?_⟩
    have h1 : (((q ^ n.natAbs : Nat) : Int) * ((1 : Nat) : Int)).natAbs < 2 ^ 6000 := by rw [Int.natCast_one, Int.mul_one, Int.natAbs_natCast]; exact hq
    have h2 : 1 * (p ^ n.natAbs).natAbs < 2 ^ 6000 := by rw [Nat.one_mul]; exact hp
    unfold ovR
    split
    · exact nrm_mid pos (by rw [Int.natAbs_neg]; exact h1) h2
    · exact nrm_mid pos h1 h2
  · rw [if_neg h]
    have hq0 : 0 < q ^ n.natAbs := Nat.pow_pos l.1
    refine ⟨⟨hq0, ?_⟩, hq0, hp, hq⟩
    show Nat.gcd (p ^ n.natAbs).natAbs (q ^ n.natAbs) = 1
    rw [Int.natAbs_pow]
    exact Nat.Coprime.pow _ _ l.2
/-! ### the heap -/
/-- all but dicts stays -/
def KeepP (H H' : Hp) : Prop := ∀ b o, H b = some o → (∀ l, o ≠ .dK l) → H' b = some o
/-- all but dicts and tables stays -/
def KeepD (H H' : Hp) : Prop := ∀ b o, H b = some o → (∀ l, o ≠ .dK l) → (∀ ps, o ≠ .tbl ps) → H' b = some o
theorem KeepD.refl (H : Hp) : KeepD H H := fun _ _ h _ _ => h
theorem KeepP.refl (H : Hp) : KeepP H H := fun _ _ h _ => h
theorem KeepD.trans {H H1 H2 : Hp} (a : KeepD H H1) (b : KeepD H1 H2) : KeepD H H2 := fun c o h n t => b c o (a c o h n t) n t
theorem KeepP.trans {H H1 H2 : Hp} (a : KeepP H H1) (b : KeepP H1 H2) : KeepP H H2 := fun c o h n => b c o (a c o h n) n
theorem KeepP.d {H H1 : Hp} (a : KeepP H H1) : KeepD H H1 := fun c o h n _ => a c o h n
theorem Same.p {H H' : Hp} (s : Same H H') : KeepP H H' := fun b o h _ => s b o h
theorem Same.d {H H' : Hp} (s : Same H H') : KeepD H H' := (Same.p s).d
theorem Keep.p {p c : Addr} {m : Nat} {H H' : Hp} (k : Keep p H H') (P : Pen H p c m) : KeepP H H' := fun _ _ h n => k.at P h n
theorem ext_d {H H' : Hp} (e : LamX.ExtN H H') : KeepD H H' := fun b o h _ t => e b o h t
theorem pen_ext {H H' : Hp} {p c : Addr} {m : Nat} (P : Pen H p c m) (e : LamX.ExtN H H') : Pen H' p c m :=
  P.keep (fun o h => by
    obtain ⟨l, z⟩ := P.dict
    rw [z] at h; cases h
    exact e _ _ z (fun ps w => by cases w)) (fun o h => by
    obtain ⟨ns, i, d, n, f, h1, h2, _⟩ := P.ex
    rw [h2] at h; cases h
    exact e _ _ h2 (fun ps w => by cases w))
theorem tabs_p {T : List (Addr × Str)} {H H' : Hp} (t : LamX.Tabs T H) (k : KeepP H H') : LamX.Tabs T H' := fun p hp => by
  obtain ⟨ps, h1, h2, h3⟩ := t p hp
  refine ⟨ps, k _ _ h1 (fun l z => by cases z), h2, fun pos cv hc => ?_⟩
  obtain ⟨c, e1, e2⟩ := h3 pos cv hc
  exact ⟨c, e1, k _ _ e2 (fun l z => by unfold LamX.CodeO at z; cases z)⟩
theorem KeepD.tup {H H' : Hp} (k : KeepD H H') {a : Addr} {xs : List V} (h : H a = some (.tup xs)) : H' a = some (.tup xs) := k a _ h (fun l z => by cases z) (fun l z => by cases z)
theorem KeepD.lst {H H' : Hp} (k : KeepD H H') {a : Addr} {xs : List V} (h : H a = some (.lst xs)) : H' a = some (.lst xs) := k a _ h (fun l z => by cases z) (fun l z => by cases z)
theorem kEN : ¬ (("exponents" : Str) = "number") := by decide +kernel
def flA (t r : Addr) : List (Str × V) := putF "number" (.ref r) (putF "exponents" (.ref t) [])
theorem flA_e (t r : Addr) : (flA t r).lookup ("exponents" : Str) = some (.ref t) := by
  unfold flA
  rw [lookup_putF, if_neg kEN, lookup_putF, if_pos rfl]
theorem flA_n (t r : Addr) : (flA t r).lookup ("number" : Str) = some (.ref r) := by
  unfold flA
  rw [lookup_putF, if_pos rfl]
theorem flA_no (t r : Addr) {m : Str} (h1 : ¬ m = "number") (h2 : ¬ m = "exponents") : (flA t r).lookup m = none := by
  unfold flA
  rw [lookup_putF, if_neg h1, lookup_putF, if_neg h2]
  all_goals rfl
def TupI (H : Hp) (t : Addr) (es : List Int) : Prop := H t = some (.tup (es.map V.int))
/-- an amount stands at x -/
structure Amt (CA : Addr) (H : Hp) (x : Addr) (es : List Int) (p : Int) (q : Nat) : Prop where
  ex : ∃ dx t r, H x = some (.ins CA dx (flA t r)) ∧ TupI H t es ∧ RatAt H r p q
  ne : es ≠ []
  le : es.length ≤ 60
  low : Low p q
  mid : Mid p q
theorem Amt.keep {CA x : Addr} {H H' : Hp} {es : List Int} {p : Int} {q : Nat} (h : Amt CA H x es p q) (k : KeepD H H') : Amt CA H' x es p q := by
  obtain ⟨dx, t, r, h1, h2, h3⟩ := h.ex
  exact ⟨⟨dx, t, r, k x _ h1 (fun l z => by cases z) (fun l z => by cases z), k.tup h2, k.tup h3⟩, h.ne, h.le, h.low, h.mid⟩
theorem Amt.ins {CA x : Addr} {H : Hp} {es : List Int} {p : Int} {q : Nat} (h : Amt CA H x es p q) : InsAt H x CA := by
  obtain ⟨dx, t, r, h1, _⟩ := h.ex
  exact ⟨dx, _, h1⟩
theorem dpAll_int {K : PySem.W.Frag} {H : Hp} : ∀ l : List Int, DpAll K H (l.map V.int) (l.map PyData.int)
  | [] => .nil
  | i :: l => .cons (.int i) (dpAll_int l)
theorem dp_ints {K : PySem.W.Frag} {H : Hp} {t : Addr} {es : List Int} (h : TupI H t es) : Dp K H (.ref t) (.tuple (es.map PyData.int)) := .tup (SqT.of h) (dpAll_int es)
theorem can_ints (l : List Int) : PyData.canLayAll0 (l.map PyData.int) = true ∧ PyData.depthAll (l.map PyData.int) = 0 := by
  induction l with
  | nil => exact ⟨rfl, rfl⟩
  | cons b l ih => exact ⟨by simp [PyData.canLayAll0, PyData.canLay0, ih.1], by simp [PyData.depthAll, PyData.depth, ih.2]⟩
theorem shaped_ints (l : List Int) : SeqAt.shaped (.tuple (l.map PyData.int)) = true := by
  unfold SeqAt.shaped
  rw [show PyData.canLay0 (.tuple (l.map PyData.int)) = true by simpa [PyData.canLay0] using (can_ints l).1]
  simp [PyData.depth, (can_ints l).2]
theorem eqv_ints (a b : List Int) : PyData.eqv (.tuple (a.map PyData.int)) (.tuple (b.map PyData.int)) = decide (a = b) := by
  rw [PyData.eqv]
  exact PySem.W.ked_eqvAll a b
theorem rat_ints {H : Hp} {r : Addr} {p : Int} {q : Nat} (h : RatAt H r p q) : TupI H r [p, (q : Int)] := h
/-! ### what may be passed for exponents -/
inductive BadExp (K : PySem.W.Frag) (H : Hp) : V → Prop
  | other {x : V} {u : Value} (h : TyX K H x u) (ht : PySem.W.kitOne K u (.type "tuple") = some false) : BadExp K H x
  | empty {t : Addr} (h : H t = some (.tup [])) : BadExp K H (.ref t)
  | item {t : Addr} {xs : List V} (f : V → Bool) (h : H t = some (.tup xs)) (ne : xs ≠ []) (hl : xs.length ≤ 100)
      (hf : ∀ H', Same H H' → ∀ x ∈ xs, ∃ u b c, TyX K H' x u ∧ PySem.W.kitOne K u (.type "int") = some b ∧ PySem.W.kitOne K u (.type "bool") = some c ∧ (b && !c) = f x) (no : xs.all f = false) : BadExp K H (.ref t)
/-- are_integers(t) -/
def spAreG (K : PySem.W.Frag) : Sp := fun vs H Q _ => ∃ (t : Addr) (xs : List V) (f : V → Bool), vs = [.ref t] ∧ H t = some (.tup xs) ∧ xs.length ≤ 100 ∧
  (∀ H', Same H H' → ∀ x ∈ xs, ∃ u b c, TyX K H' x u ∧ PySem.W.kitOne K u (.type "int") = some b ∧ PySem.W.kitOne K u (.type "bool") = some c ∧ (b && !c) = f x) ∧ ∀ H', Same H H' → Q (.bl (xs.all f)) H'
theorem flat_all {K : PySem.W.Frag} {H : Hp} {xs : List V} {f : V → Bool} (h : ∀ x ∈ xs, flatW x = some (f x)) : ∀ H', Same H H' → ∀ x ∈ xs, ∃ u b c, TyX K H' x u ∧ PySem.W.kitOne K u (.type "int") = some b ∧ PySem.W.kitOne K u (.type "bool") = some c ∧ (b && !c) = f x :=
  fun _ _ x hx => flat_ty (h x hx)
theorem ints_all {K : PySem.W.Frag} {H : Hp} (es : List Int) : ∀ H', Same H H' → ∀ x ∈ es.map V.int, ∃ u b c, TyX K H' x u ∧ PySem.W.kitOne K u (.type "int") = some b ∧ PySem.W.kitOne K u (.type "bool") = some c ∧ (b && !c) = (fun _ => true) x :=
  flat_all (K := K) (H := H) (f := fun _ => true) fun x hx => by
    obtain ⟨i, _, rfl⟩ := List.mem_map.mp hx
    rfl
/-! ### the methods' promises -/
def errN (what : Str) (v : V) : HO := .xd [("number", v), ("what", .str what)]
def errU (t u : Addr) : HO := .xd [("other", .ref u), ("one", .ref t), ("place", .int 0)]
def errZ : HO := .xd [("place", .int 0)]
/-- the error of unlike exponents, at H -/
def ThrowU (UL : Addr) (H : Hp) (es fs : List Int) (E : XK) : Prop := ∀ t u d H1, TupI H1 t es → TupI H1 u fs → H1 d = none → Same H H1 → E (.ref UL) (some d) (upd H1 d (errU t u))
def spLike (CA UL : Addr) : Sp := fun vs H Q E => ∃ x y es fs p q c d, vs = [.ref x, .ref y] ∧ Amt CA H x es p q ∧ Amt CA H y fs c d ∧ (es = fs → Q .non H) ∧ (es ≠ fs → ThrowU UL H es fs E)
/-- Amount.__init__(self, exponents, number) -/
def spIniA (K : PySem.W.Frag) (CA BN : Addr) : Sp := fun vs H Q E => ∃ (x dx : Addr) (e n : V), vs = [.ref x, e, n] ∧ H x = some (.ins CA dx []) ∧
  ((BadExp K H e ∧ ∀ d H1, H1 d = none → Same H H1 → E (.ref BN) (some d) (upd H1 d (errN "exponents" e))) ∨
   (∃ t es, e = .ref t ∧ TupI H t es ∧ es ≠ [] ∧ es.length ≤ 60 ∧
     ((RatV K H n none ∧ ∀ d H1, H1 d = none → Same H H1 → E (.ref BN) (some d) (upd H1 d (errN "number" n))) ∨
      ∃ p q, RatV K H n (some (p, q)) ∧ Mid p q ∧
        ∀ r H', (∀ b o, b ≠ x → H b = some o → H' b = some o) → H' x = some (.ins CA dx (flA t r)) → RatAt H' r (nrm p q).1 (nrm p q).2 → Q .non H')))
/-- x + y, x - y -/
def spSumA (CA UL : Addr) (f : Int → Nat → Int → Nat → Int × Nat) : Sp := fun vs H Q E => ∃ x y es fs p q c d, vs = [.ref x, .ref y] ∧ Amt CA H x es p q ∧ Amt CA H y fs c d ∧ Sm p q ∧ Sm c d ∧
  (es = fs → ∀ z H', Same H H' → Amt CA H' z es (f p q c d).1 (f p q c d).2 → Q (.ref z) H') ∧ (es ≠ fs → ThrowU UL H es fs E)
def spLessA (CA UL : Addr) : Sp := fun vs H Q E => ∃ x y es fs p q c d, vs = [.ref x, .ref y] ∧ Amt CA H x es p q ∧ Amt CA H y fs c d ∧ (es = fs → Q (.bl (decide (p * (d : Int) < c * (q : Int)))) H) ∧ (es ≠ fs → ThrowU UL H es fs E)
def spMulA (CA : Addr) : Sp := fun vs H Q _ => ∃ x y es fs p q c d, vs = [.ref x, .ref y] ∧ Amt CA H x es p q ∧ Amt CA H y fs c d ∧ Sm p q ∧ Sm c d ∧ es.length = fs.length ∧
  ∀ z H', Same H H' → Amt CA H' z (List.zipWith (· + ·) es fs) (mulR p q c d).1 (mulR p q c d).2 → Q (.ref z) H'
def spNegA (CA : Addr) : Sp := fun vs H Q _ => ∃ x es p q, vs = [.ref x] ∧ Amt CA H x es p q ∧ ∀ z H', Same H H' → Amt CA H' z es (-p) q → Q (.ref z) H'
def spOverA (CA BZ : Addr) : Sp := fun vs H Q E => ∃ x y es fs p q c d, vs = [.ref x, .ref y] ∧ Amt CA H x es p q ∧ Amt CA H y fs c d ∧ Sm p q ∧ Sm c d ∧ es.length = fs.length ∧
  (c = 0 → ∀ dd, H dd = none → E (.ref BZ) (some dd) (upd H dd errZ)) ∧
  (c ≠ 0 → ∀ z H', Same H H' → Amt CA H' z (List.zipWith (· - ·) es fs) (ovR p q c d).1 (ovR p q c d).2 → Q (.ref z) H')
def spPowA (K : PySem.W.Frag) (CA BN BZ : Addr) : Sp := fun vs H Q E => ∃ x v es p q, vs = [.ref x, v] ∧ Amt CA H x es p q ∧ Sm p q ∧
  ((∃ u b c, TyX K H v u ∧ PySem.W.kitOne K u (.type "int") = some b ∧ PySem.W.kitOne K u (.type "bool") = some c ∧ (b && !c) = false ∧ ∀ dd, H dd = none → E (.ref BN) (some dd) (upd H dd (errN "power" v))) ∨
   ∃ n : Int, v = .int n ∧ n.natAbs ≤ 6 ∧ ((n < 0 ∧ p = 0) → ∀ dd, H dd = none → E (.ref BZ) (some dd) (upd H dd errZ)) ∧
     (¬ (n < 0 ∧ p = 0) → ∀ z H', Same H H' → Amt CA H' z (es.map (n * ·)) (pwR p q n).1 (pwR p q n).2 → Q (.ref z) H'))
def spEqA (K : PySem.W.Frag) (CA : Addr) : Sp := fun vs H Q _ => ∃ x v es p q, vs = [.ref x, v] ∧ Amt CA H x es p q ∧
  ((∃ y fs c d, v = .ref y ∧ Amt CA H y fs c d ∧ Q (.bl (decide (es = fs) && decide (p = c ∧ q = d))) H) ∨ (∃ tb, TyX K H v tb ∧ PySem.W.kitOne K tb (.ref CA) = some false ∧ Q (.bl false) H))
end AL
set_option Elab.async false
set_option maxRecDepth 100000
set_option exponentiation.threshold 70000
set_option maxHeartbeats 1000000
/-! Sums and products of ratios in lowest terms, with small divisors. -/
namespace AL
open PySem L2
theorem tyx_same {K : PySem.W.Frag} {H H' : Hp} (s : Same H H') {x : V} {u : Value} (h : TyX K H x u) : TyX K H' x u := by
  cases h with
  | base b =>
    refine .base ?_
    cases b with
    | non => exact .non
    | bl x => exact .bl x
    | int i => exact .int i
    | str x => exact .str x
    | flt x => exact .flt x
    | lst e => exact .lst (s _ _ e)
    | frz e => exact .frz (s _ _ e)
    | tup e => exact .tup (s _ _ e)
    | dK e => exact .dK (s _ _ e)
    | dT e => exact .dT (s _ _ e)
    | ins e cl ha hn htk hm => exact .ins (s _ _ e) cl ha hn htk hm
  | byt b => exact .byt b
  | set e => exact .set (s _ _ e)
  | kList e c => exact .kList e c
  | kTuple e c => exact .kTuple e c
  | kDict e c => exact .kDict e c
  | fTuple e => exact .fTuple (s _ _ e)
  | fDict e => exact .fDict (s _ _ e)
theorem ratV_same {K : PySem.W.Frag} {H H' : Hp} {x : V} {r : Option (Int × Nat)} (h : RatV K H x r) (s : Same H H') : RatV K H' x r := h.same s fun _ z => tyx_same s z
theorem cop_mul {x y z : Nat} (h1 : Nat.gcd x y = 1) (h2 : Nat.gcd x z = 1) : Nat.gcd x (y * z) = 1 := Nat.Coprime.mul_right h1 h2
/-- the sum's parts -/
def shG (b d : Nat) : Nat := Nat.gcd b d
def totS (a : Int) (b : Nat) (c : Int) (d : Nat) : Int := a * ((d / Nat.gcd b d : Nat) : Int) + c * ((b / Nat.gcd b d : Nat) : Int)
def lefS (a : Int) (b : Nat) (c : Int) (d : Nat) : Nat := Nat.gcd (totS a b c d).natAbs (Nat.gcd b d)
theorem sum_short {a c : Int} {b d : Nat} (h : Low a b) (k : Low c d) : sumR a b c d = ((totS a b c d).fdiv ((lefS a b c d : Nat) : Int), b / lefS a b c d * (d / Nat.gcd b d)) := by
  have g0 : 0 < Nat.gcd b d := Nat.gcd_pos_of_pos_left _ h.1
  have l0 : 0 < lefS a b c d := Nat.gcd_pos_of_pos_right _ g0
  have co' : Nat.gcd (b / Nat.gcd b d) (d / Nat.gcd b d) = 1 := Nat.coprime_div_gcd_div_gcd g0
  have eb : b / Nat.gcd b d * Nat.gcd b d = b := Nat.div_mul_cancel (Nat.gcd_dvd_left _ _)
  have ed : d / Nat.gcd b d * Nat.gcd b d = d := Nat.div_mul_cancel (Nat.gcd_dvd_right _ _)
  have lt : lefS a b c d ∣ (totS a b c d).natAbs := Nat.gcd_dvd_left _ _
  have lg : lefS a b c d ∣ Nat.gcd b d := Nat.gcd_dvd_right _ _
  have eg : Nat.gcd b d / lefS a b c d * lefS a b c d = Nat.gcd b d := Nat.div_mul_cancel lg
  have cg : Nat.gcd ((totS a b c d).natAbs / lefS a b c d) (Nat.gcd b d / lefS a b c d) = 1 := Nat.coprime_div_gcd_div_gcd l0
  have lI : ((lefS a b c d : Nat) : Int) ∣ totS a b c d := Int.ofNat_dvd_left.mpr lt
  have eT : (totS a b c d).fdiv ((lefS a b c d : Nat) : Int) * ((lefS a b c d : Nat) : Int) = totS a b c d := by
    rw [Int.fdiv_eq_ediv_of_nonneg _ (by omega)]
    exact Int.ediv_mul_cancel lI
  have aT : ((totS a b c d).fdiv ((lefS a b c d : Nat) : Int)).natAbs = (totS a b c d).natAbs / lefS a b c d := by
    rw [Int.fdiv_eq_ediv_of_nonneg _ (by omega), Int.natAbs_ediv_of_dvd lI, Int.natAbs_natCast]
  have defT : totS a b c d = a * ((d / Nat.gcd b d : Nat) : Int) + c * ((b / Nat.gcd b d : Nat) : Int) := rfl
  generalize lefS a b c d = l at *
  generalize totS a b c d = T at *
  generalize hg : Nat.gcd b d = g at *
  generalize hb' : b / g = b' at *
  generalize hd' : d / g = d' at *
  generalize hg' : g / l = g' at *
  have hbl : b / l = b' * g' := by
    rw [← eb, ← eg, ← Nat.mul_assoc, Nat.mul_div_cancel _ l0]
  have hT0 : (T.fdiv (l : Int)).natAbs * l = T.natAbs := by rw [aT]; exact Nat.div_mul_cancel lt
  have dT : (T.fdiv (l : Int)).natAbs ∣ T.natAbs := ⟨l, hT0.symm⟩
  -- no divisor with b', none with d'
  have key : ∀ {x : Int} {y z w : Nat}, Nat.gcd x.natAbs (y * g) = 1 → Nat.gcd y z = 1 → (∀ e : Nat, e ∣ y → e ∣ T.natAbs → e ∣ (x * (z : Int)).natAbs) → Nat.gcd (T.fdiv (l : Int)).natAbs y = 1 := by
    intro x y z w h1 h2 h3
    have e1 := Nat.gcd_dvd_left (T.fdiv (l : Int)).natAbs y
    have e2 := Nat.gcd_dvd_right (T.fdiv (l : Int)).natAbs y
    generalize Nat.gcd (T.fdiv (l : Int)).natAbs y = e at e1 e2 ⊢
    have e3 := h3 e e2 (Nat.dvd_trans e1 dT)
    rw [Int.natAbs_mul, Int.natAbs_natCast] at e3
    have ce : Nat.gcd e z = 1 := Nat.Coprime.coprime_dvd_left e2 h2
    have e4 : e ∣ x.natAbs := Nat.Coprime.dvd_of_dvd_mul_right ce e3
    have e5 : e ∣ y * g := Nat.dvd_trans e2 (Nat.dvd_mul_right _ _)
    have e6 : e ∣ Nat.gcd x.natAbs (y * g) := Nat.dvd_gcd e4 e5
    rw [h1] at e6
    exact Nat.dvd_one.mp e6
  have dvd_sub : ∀ {e : Nat} {x y : Int}, e ∣ (x + y).natAbs → e ∣ y.natAbs → e ∣ x.natAbs := by
    intro e x y h1 h2
    have i1 := Int.ofNat_dvd_left.mpr h1
    have i2 := Int.ofNat_dvd_left.mpr h2
    have i3 := Int.dvd_sub i1 i2
    rw [Int.add_sub_cancel] at i3
    exact Int.ofNat_dvd_left.mp i3
  have k1 : Nat.gcd (T.fdiv (l : Int)).natAbs b' = 1 := by
    refine key (x := a) (z := d') (w := 0) (by rw [eb]; exact h.2) co' fun e he ht => ?_
    rw [defT] at ht
    refine dvd_sub ht ?_
    rw [Int.natAbs_mul, Int.natAbs_natCast]
    exact Nat.dvd_trans he (Nat.dvd_mul_left _ _)
  have k2 : Nat.gcd (T.fdiv (l : Int)).natAbs d' = 1 := by
    refine key (x := c) (z := b') (w := 0) (by rw [ed]; exact k.2) (by rw [Nat.gcd_comm]; exact co') fun e he ht => ?_
    rw [defT, Int.add_comm] at ht
    refine dvd_sub ht ?_
    rw [Int.natAbs_mul, Int.natAbs_natCast]
    exact Nat.dvd_trans he (Nat.dvd_mul_left _ _)
  have k3 : Nat.gcd (T.fdiv (l : Int)).natAbs g' = 1 := by rw [aT]; exact cg
  have b'0 : 0 < b' := Nat.pos_of_ne_zero fun z => by rw [z, Nat.zero_mul] at eb; have := h.1; omega
  have d'0 : 0 < d' := Nat.pos_of_ne_zero fun z => by rw [z, Nat.zero_mul] at ed; have := k.1; omega
  have g'0 : 0 < g' := Nat.pos_of_ne_zero fun z => by rw [z, Nat.zero_mul] at eg; omega
  unfold sumR
  refine nrm_eq ?_ (Nat.mul_pos h.1 k.1) ?_ ?_
  · rw [hbl]; exact Nat.mul_pos (Nat.mul_pos b'0 g'0) d'0
  · rw [hbl]; exact cop_mul (cop_mul k1 k3) k2
  · rw [hbl]
    have eb2 : (b : Int) = (b' : Int) * (g' : Int) * (l : Int) := by rw [← eb, ← eg]; push_cast; rw [Int.mul_assoc]
    have ed2 : (d : Int) = (d' : Int) * (g' : Int) * (l : Int) := by rw [← ed, ← eg]; push_cast; rw [Int.mul_assoc]
    have eS : a * (d : Int) + c * (b : Int) = T * ((g' : Int) * (l : Int)) := by
      rw [defT, eb2, ed2, Int.add_mul]
      congr 1
      · simp only [Int.mul_assoc]
      · simp only [Int.mul_assoc]
    rw [eS, Int.natCast_mul, Int.natCast_mul, Int.natCast_mul]
    have e3 : T * ((g' : Int) * (l : Int)) = T.fdiv (l : Int) * (l : Int) * ((g' : Int) * (l : Int)) := by rw [eT]
    rw [e3, eb2, ed2]
    generalize T.fdiv (l : Int) = t
    simp only [Int.mul_assoc, Int.mul_comm, Int.mul_left_comm]
theorem mul_short {a c : Int} {b d : Nat} (h : Low a b) (k : Low c d) : mulR a b c d = (a.fdiv ((Nat.gcd a.natAbs d : Nat) : Int) * c.fdiv ((Nat.gcd c.natAbs b : Nat) : Int), b / Nat.gcd c.natAbs b * (d / Nat.gcd a.natAbs d)) := by
  have f0 : 0 < Nat.gcd a.natAbs d := Nat.gcd_pos_of_pos_right _ k.1
  have s0 : 0 < Nat.gcd c.natAbs b := Nat.gcd_pos_of_pos_right _ h.1
  have part : ∀ {x : Int} {y : Nat}, 0 < Nat.gcd x.natAbs y → x.fdiv ((Nat.gcd x.natAbs y : Nat) : Int) * ((Nat.gcd x.natAbs y : Nat) : Int) = x ∧ (x.fdiv ((Nat.gcd x.natAbs y : Nat) : Int)).natAbs = x.natAbs / Nat.gcd x.natAbs y ∧ Nat.gcd (x.natAbs / Nat.gcd x.natAbs y) (y / Nat.gcd x.natAbs y) = 1 ∧ y / Nat.gcd x.natAbs y * Nat.gcd x.natAbs y = y := by
    intro x y g0
    have dI : ((Nat.gcd x.natAbs y : Nat) : Int) ∣ x := Int.ofNat_dvd_left.mpr (Nat.gcd_dvd_left _ _)
    refine ⟨?_, ?_, Nat.coprime_div_gcd_div_gcd g0, Nat.div_mul_cancel (Nat.gcd_dvd_right _ _)⟩
    · rw [Int.fdiv_eq_ediv_of_nonneg _ (by omega)]
      exact Int.ediv_mul_cancel dI
    · rw [Int.fdiv_eq_ediv_of_nonneg _ (by omega), Int.natAbs_ediv_of_dvd dI, Int.natAbs_natCast]
  obtain ⟨a1, a2, a3, a4⟩ := part f0
  obtain ⟨c1, c2, c3, c4⟩ := part s0
  have da : a.natAbs / Nat.gcd a.natAbs d ∣ a.natAbs := Nat.div_dvd_of_dvd (Nat.gcd_dvd_left _ _)
  have dc : c.natAbs / Nat.gcd c.natAbs b ∣ c.natAbs := Nat.div_dvd_of_dvd (Nat.gcd_dvd_left _ _)
  have db : b / Nat.gcd c.natAbs b ∣ b := Nat.div_dvd_of_dvd (Nat.gcd_dvd_right _ _)
  have dd : d / Nat.gcd a.natAbs d ∣ d := Nat.div_dvd_of_dvd (Nat.gcd_dvd_right _ _)
  have x1 : Nat.gcd (a.natAbs / Nat.gcd a.natAbs d) (b / Nat.gcd c.natAbs b) = 1 := Nat.Coprime.coprime_dvd_left da (Nat.Coprime.coprime_dvd_right db h.2)
  have x2 : Nat.gcd (c.natAbs / Nat.gcd c.natAbs b) (d / Nat.gcd a.natAbs d) = 1 := Nat.Coprime.coprime_dvd_left dc (Nat.Coprime.coprime_dvd_right dd k.2)
  have b0 : 0 < b / Nat.gcd c.natAbs b := Nat.div_pos (Nat.le_of_dvd h.1 (Nat.gcd_dvd_right _ _)) s0
  have d0 : 0 < d / Nat.gcd a.natAbs d := Nat.div_pos (Nat.le_of_dvd k.1 (Nat.gcd_dvd_right _ _)) f0
  unfold mulR
  refine nrm_eq (Nat.mul_pos b0 d0) (Nat.mul_pos h.1 k.1) ?_ ?_
  · rw [Int.natAbs_mul, a2, c2]
    exact Nat.Coprime.mul_left (cop_mul x1 a3) (cop_mul c3 x2)
  · generalize Nat.gcd a.natAbs d = f at *
    generalize Nat.gcd c.natAbs b = s at *
    have eb2 : (b : Int) = ((b / s : Nat) : Int) * (s : Int) := by rw [← Int.natCast_mul, c4]
    have ed2 : (d : Int) = ((d / f : Nat) : Int) * (f : Int) := by rw [← Int.natCast_mul, a4]
    have e1 : a * c = a.fdiv (f : Int) * (f : Int) * (c.fdiv (s : Int) * (s : Int)) := by rw [a1, c1]
    rw [e1, Int.natCast_mul, Int.natCast_mul, eb2, ed2]
    generalize a.fdiv (f : Int) = x
    generalize c.fdiv (s : Int) = y
    generalize ((b / s : Nat) : Int) = u
    generalize ((d / f : Nat) : Int) = v
    simp only [Int.mul_assoc, Int.mul_comm, Int.mul_left_comm]
/-- what two ratios in lowest terms make -/
def spTwoL (f : Int → Nat → Int → Nat → Int × Nat) : Sp := fun vs H Q _ => ∃ (s t : Addr) (a c : Int) (b d : Nat), vs = [.ref s, .ref t] ∧ RatAt H s a b ∧ RatAt H t c d ∧ Mid a b ∧ Mid c d ∧ Low a b ∧ Low c d ∧ ∀ u, H u = none → Q (.ref u) (upd H u (.tup [.int (f a b c d).1, .int ((f a b c d).2 : Int)]))
/-- the same, where more than the answer may be new -/
def spTwoS (f : Int → Nat → Int → Nat → Int × Nat) : Sp := fun vs H Q _ => ∃ (s t : Addr) (a c : Int) (b d : Nat), vs = [.ref s, .ref t] ∧ RatAt H s a b ∧ RatAt H t c d ∧ Mid a b ∧ Mid c d ∧ Low a b ∧ Low c d ∧ ∀ u H', Same H H' → RatAt H' u (f a b c d).1 (f a b c d).2 → Q (.ref u) H'
/-- over -/
def spTwoO : Sp := fun vs H Q _ => ∃ (s t : Addr) (a c : Int) (b d : Nat), vs = [.ref s, .ref t] ∧ RatAt H s a b ∧ RatAt H t c d ∧ Mid a b ∧ Mid c d ∧ c ≠ 0 ∧ ∀ u, H u = none → Q (.ref u) (upd H u (.tup [.int (ovR a b c d).1, .int ((ovR a b c d).2 : Int)]))
def spLessL : Sp := fun vs H Q _ => ∃ (s t : Addr) (a c : Int) (b d : Nat), vs = [.ref s, .ref t] ∧ RatAt H s a b ∧ RatAt H t c d ∧ Mid a b ∧ Mid c d ∧ Q (.bl (decide (a * (d : Int) < c * (b : Int)))) H
def spPowR : Sp := fun vs H Q _ => ∃ (s : Addr) (a : Int) (b : Nat) (n : Int), vs = [.ref s, .int n] ∧ RatAt H s a b ∧ Sm a b ∧ Low a b ∧ n.natAbs ≤ 6 ∧ ¬ (n < 0 ∧ a = 0) ∧ ∀ u, H u = none → Q (.ref u) (upd H u (.tup [.int (pwR a b n).1, .int ((pwR a b n).2 : Int)]))
/-- the law's own power -/
def spPowL : Sp := fun vs H Q _ => ∃ (s : Addr) (a : Int) (b : Nat) (n : Int), vs = [.ref s, .int n] ∧ RatAt H s a b ∧ Sm a b ∧ Low a b ∧ n.natAbs ≤ 6 ∧ ¬ (n < 0 ∧ a = 0) ∧ ∀ u H', Same H H' → RatAt H' u (pwR a b n).1 (pwR a b n).2 → Q (.ref u) H'
def spAsG (K : PySem.W.Frag) : Sp := fun vs H Q _ => ∃ (x : V) (p : Int) (q : Nat), vs = [x] ∧ RatV K H x (some (p, q)) ∧ Mid p q ∧ ∀ t, H t = none → Q (.ref t) (upd H t (.tup [.int (nrm p q).1, .int ((nrm p q).2 : Int)]))
end AL
set_option Elab.async false
set_option linter.all false
set_option maxRecDepth 100000
/-! sorted(d.items()) for dicts whose keys are tuples of so many ints. -/
namespace AL
open PySem PySem.W PySem.Spec PyProof.Rows L2
theorem lex_code {B : Int} : ∀ (k : Nat) (ns ms : List Int) (i : Nat), ns.length = i + k → ms.length = i + k → TS.Bd B ns → TS.Bd B ms →
    Ob.lexAt (fun j => decide (ns.getD j 0 = ms.getD j 0)) (fun j => decide (ns.getD j 0 < ms.getD j 0)) false i k = decide (TS.code B (ns.drop i) < TS.code B (ms.drop i))
  | 0, ns, ms, i, l1, l2, _, _ => by
    rw [Ob.lexAt_zero, List.drop_eq_nil_of_le (by omega), List.drop_eq_nil_of_le (by omega)]
    exact (decide_eq_false (Int.lt_irrefl _)).symm
  | k + 1, ns, ms, i, l1, l2, b1, b2 => by
    have i1 : i < ns.length := by omega
    have i2 : i < ms.length := by omega
    have ih := lex_code k ns ms (i + 1) (by omega) (by omega) b1 b2
    have dl : (ns.drop (i + 1)).length = (ms.drop (i + 1)).length := by rw [List.length_drop, List.length_drop]; omega
    have c1 : TS.Bd B (ns.drop (i + 1)) := fun m hm => b1 m (List.mem_of_mem_drop hm)
    have c2 : TS.Bd B (ms.drop (i + 1)) := fun m hm => b2 m (List.mem_of_mem_drop hm)
    rw [Ob.lexAt_succ, List.drop_eq_getElem_cons i1, List.drop_eq_getElem_cons i2]
    have g1 : ns.getD i 0 = ns[i] := by simp [List.getD, i1]
    have g2 : ms.getD i 0 = ms[i] := by simp [List.getD, i2]
    rw [g1, g2]
    generalize ns[i] = x
    generalize ms[i] = y
    by_cases e : x = y
    · rw [decide_eq_true e, if_pos rfl, ih, e]
      exact (decide_eq_decide.mpr (TS.code_same dl)).symm
    · rw [decide_eq_false e, if_neg (by decide)]
      refine decide_eq_decide.mpr ⟨fun z => TS.code_lt dl c1 c2 z, fun z => ?_⟩
      rcases Int.lt_trichotomy x y with w1 | w1 | w1
      · exact w1
      · exact absurd w1 e
      · have := TS.code_lt dl.symm c2 c1 w1
        omega
theorem inl_inj : ∀ u v : List Int, (u.map Sum.inl : List L2.Key) = v.map Sum.inl → u = v
  | [], [], _ => rfl
  | [], _ :: _, t => nomatch t
  | _ :: _, [], t => nomatch t
  | a :: u, b :: v, t => by
    injection t with t1 t2
    injection t1 with t1
    rw [t1, inl_inj u v t2]
section
variable {prog : Program} {w : World} {A : Around} {E : Value → Shared → Prop} {s : Shared}
theorem lt_ints {B : Int} {l b : Addr} {xs ys : Array Value} {ns ms : List Int} {Q : Value → Shared → Prop} (hl : IsTup s.heap l xs) (hb : IsTup s.heap b ys) (ix : IntsAre xs.toList ns) (iy : IntsAre ys.toList ms)
    (len : ns.length = ms.length) (b1 : TS.Bd B ns) (b2 : TS.Bd B ms) (hu : A.units < cLine) (h : Q (.bool (decide (TS.code B ns < TS.code B ms))) s) :
    wpAny (model prog w) A (compareOp .Lt (.ref l) (.ref b)) Q E s := by
  have e1 : xs.size = ns.length := by rw [← Array.length_toList]; exact ix.length
  have e2 : ys.size = ms.length := by rw [← Array.length_toList]; exact iy.length
  have at1 : ∀ j (z : j < xs.size), ∃ t, xs[j] = .int (ns.getD j 0) t := fun j z => IntsAre.int_at ix _ _ (by rw [Array.getElem?_toList]; exact Array.getElem?_eq_getElem z)
  have at2 : ∀ j (z : j < ys.size), ∃ t, ys[j] = .int (ms.getD j 0) t := fun j z => IntsAre.int_at iy _ _ (by rw [Array.getElem?_toList]; exact Array.getElem?_eq_getElem z)
  have R := Ob.RcOp.tuples_lt (A := A) (s := s) (e := fun j => decide (ns.getD j 0 = ms.getD j 0)) (r := fun j => decide (ns.getD j 0 < ms.getD j 0)) hl hb hu
    (fun j z1 z2 => by
      obtain ⟨t, et⟩ := at1 j z1
      obtain ⟨t', et'⟩ := at2 j z2
      rw [et, et', show decide (ns.getD j 0 = ms.getD j 0) = (ns.getD j 0 == ms.getD j 0) from rfl]
      exact SeqAt.EqAt.int_int _ _ _ _)
    (fun j z1 z2 _ => by
      obtain ⟨t, et⟩ := at1 j z1
      obtain ⟨t', et'⟩ := at2 j z2
      rw [et, et']
      exact Ob.RcOp.lt_int _ _ _ _)
  have hs : decide (xs.size < ys.size) = false := decide_eq_false (by omega)
  rw [hs, show min xs.size ys.size = ns.length by omega, lex_code (B := B) ns.length ns ms 0 (by omega) (by omega) b1 b2, List.drop_zero, List.drop_zero] at R
  exact R prog w E Q h
/-- v: a pair of a tuple of the ints y and a tuple of m -/
def PrD (prog : Program) (w : World) (h : Heap) (v : Value) (y : List Int) (m : List L2.Key) : Prop :=
  ∃ (a k b : Addr) (xs : Array Value), v = .ref a ∧ IsTup h a #[.ref k, .ref b] ∧ IsTup h k xs ∧ IntsAre xs.toList y ∧ IsTupleKey (L2.mixKind prog w) h (y.map Sum.inl) k ∧ IsTupleKey (L2.mixKind prog w) h m b
def keyD (h : Heap) (v : Value) : List Int := TS.intsOf h (.ref (DT.refOf (DT.seqAt0 h (DT.refOf (some v)))))
theorem PrD.key {h : Heap} {v : Value} {y : List Int} {m : List L2.Key} (x : PrD prog w h v y m) : keyD h v = y := by
  obtain ⟨a, k, b, xs, rfl, h1, h2, h3, _⟩ := x
  have e : DT.refOf (DT.seqAt0 h (DT.refOf (some (Value.ref a)))) = k := by
    show DT.refOf (DT.seqAt0 h a) = k
    rw [DT.seqAt0_of h1]
    rfl
  unfold keyD
  rw [e]
  exact TS.TupInts.ints ⟨k, xs, rfl, h2, h3⟩
theorem heads {h : Heap} {M : List Int → List L2.Key} : ∀ vs : List Value, (∀ v ∈ vs, ∃ y, PrD prog w h v y (M y)) →
    ∃ fs : List Value, KatTups h vs fs ∧ fs.length = vs.length ∧ ∀ f ∈ fs, ∃ (q : Addr) (o : Obj), f = Value.ref q ∧ h.get? q = some o ∧ o.cls = .type "tuple" := by
  intro vs
  induction vs with
  | nil => exact fun _ => ⟨[], .nil, rfl, fun f z => absurd z List.not_mem_nil⟩
  | cons v r ih =>
    intro x
    obtain ⟨fs, c1, c2, c3⟩ := ih fun u z => x u (.tail _ z)
    obtain ⟨y, a, k, b, xs, rfl, ⟨o, o1, o2, n, o3⟩, ⟨p, p1, p2, _⟩, _⟩ := x v (.head _)
    refine ⟨.ref k :: fs, .cons o1 o2 o3 rfl c1, congrArg Nat.succ c2, fun f z => ?_⟩
    cases z with
    | head => exact ⟨k, p, rfl, p1, p2⟩
    | tail _ z => exact c3 f z
theorem kindD {B : Int} {d : Nat} {vs : List Value} {M : List Int → List L2.Key} (few : 2 ≤ vs.length) (hu : A.units < cLine) (x : ∀ v ∈ vs, ∃ y, PrD prog w s.heap v y (M y) ∧ y.length = d ∧ TS.Bd B y) (Q : SortKind → Shared → Prop)
    (h : ∀ κ, TS.Cmp prog w A s κ (pairsOf vs) (fun v => TS.code B (keyD s.heap v)) → Q κ s) : wpAny (model prog w) A (keyKind' vs.toArray) Q E s := by
  obtain ⟨fs, c1, c2, c3⟩ := heads (M := M) vs fun v z => let ⟨y, p, _⟩ := x v z; ⟨y, p⟩
  refine kat_kind (T := Value.type "tuple") c1 (by omega) (fun f z => ?_) rfl (h _ ?_)
  · obtain ⟨q, o, rfl, o1, o2⟩ := c3 f z
    exact o2 ▸ (PySem.W.Looks.ld o1).andThen .now
  · have nb : (Value.type "tuple" != Value.type "tuple") = false := by first | rfl | decide | simp
    rw [nb]
    intro p q hp hq Q2 E2 z2
    rw [pairsOf_toList] at hp hq
    obtain ⟨y, py, ly, by_⟩ := x _ (mem_zip_self hp).2
    obtain ⟨z, pz, lz, bz⟩ := x _ (mem_zip_self hq).2
    have z3 : Q2 (decide (TS.code B y < TS.code B z)) s := by
      have z4 : Q2 (decide (TS.code B (keyD s.heap p.1) < TS.code B (keyD s.heap q.1))) s := z2
      rwa [py.key, pz.key] at z4
    obtain ⟨a, k, b, xs, e1, ⟨o, o1, o2, n, o3⟩, k1, k2, k3, k4⟩ := py
    obtain ⟨a', k', b', xs', e1', ⟨o', o1', o2', n', o3'⟩, k1', k2', k3', k4'⟩ := pz
    rw [e1, e1']
    refine kat_lt o1 o3 o1' o3' (kat_cons ?_)
    refine wpAny_eqBool_tuple hu k3 k3' ?_
    by_cases e : y = z
    · subst e
      rw [decide_eq_true rfl]
      rw [decide_eq_false (Int.lt_irrefl _)] at z3
      refine kat_yes (kat_cons (wpAny_eqBool_tuple hu k4 k4' ?_))
      rw [decide_eq_true rfl]
      exact kat_yes (kat_nil z3)
    · have ne : (y.map Sum.inl : List L2.Key) ≠ z.map Sum.inl := fun t => e (inl_inj _ _ t)
      rw [decide_eq_false ne]
      refine kat_no ?_
      show wpAny _ _ (oneLt' false _ _) _ _ _
      exact kat_one _ _ (lt_ints k1 k1' k2 k2' (by omega) by_ bz hu z3)
end
section
variable {X : Cx} {pins : List (Addr × Obj)} {σ : L2.St} {H : Hp} {s : Shared}
abbrev KDT (X : Cx) : HeapKind X.prog X.w (List L2.Key) := tupleKind (mixKind X.prog X.w)
/-- what the j-th pair that was made holds -/
theorem made_pair {kvs : List (List L2.Key × V)} {xs : List (List L2.Key × Addr × Value)} {es : Array DictEntry} {lo : Addr} {h' : Heap} {as : List Addr} (rel : KT H kvs xs) (hes : es.toList = xs.map (entryOfKey (KDT X))) (g : DT.Made es lo h' as)
    {j : Nat} {b : Addr} (hj : as[j]? = some b) : ∃ (e : List L2.Key × V) (kq : Addr) (v : Value), kvs[j]? = some e ∧ H kq = some (.tup (e.1.map kV)) ∧ RelV e.2 v ∧ h'.get? b = some { cls := .type "tuple", data := .seq #[Value.ref kq, v] } := by
  obtain ⟨en, ee, hb⟩ := g.pairs j b hj
  have z := entry_at hes j
  rw [ee] at z
  cases q : xs[j]? with
  | none => rw [q] at z; exact nomatch z
  | some x =>
    rw [q] at z
    cases Option.some.inj z
    obtain ⟨e, r0, r1, r2, r3⟩ := DX.pget rel q
    exact ⟨e, x.2.1, x.2.2, r0, r2, r3, hb⟩
/-- the pairs and the list of them are tracked -/
theorem track_pairs (I : Inv X pins σ H s) {kvs : List (List L2.Key × V)} {as rs : List Addr} {L : Addr} {hF : Heap} {tk c : Nat} {acc : Array Value} (nd : as.Nodup) (up : ∀ b ∈ as, s.heap.objs.size ≤ b ∧ b ≠ L) (uL : s.heap.objs.size ≤ L)
    (kS : ∀ b o, s.heap.get? b = some o → hF.get? b = some o) (hL : hF.get? L = some { cls := .type "list", dict := none, data := .seq acc c, slots := #[] }) (ea : acc.toList = rs.map Value.ref) (sz : rs.length ≤ sizeLine)
    (pr : ∀ (j : Nat) (b : Addr), as[j]? = some b → ∃ (e : List L2.Key × V) (kq : Addr) (v : Value), kvs[j]? = some e ∧ H kq = some (.tup (e.1.map kV)) ∧ RelV e.2 v ∧ hF.get? b = some { cls := .type "tuple", data := .seq #[Value.ref kq, v] }) :
    ∃ H2 : Hp, Inv X pins σ H2 { s with heap := hF, toks := tk } ∧ Gw H H2 ∧ H2 L = some (.lst (rs.map V.ref)) ∧
      ∀ (j : Nat) (b : Addr), as[j]? = some b → ∃ (e : List L2.Key × V) (kq : Addr), kvs[j]? = some e ∧ H kq = some (.tup (e.1.map kV)) ∧ H2 b = some (.tup [.ref kq, e.2]) := by
  have nL : H L = none := I.hok.fresh uL
  have I1 : Inv X pins σ H { s with heap := hF, toks := tk } := I.kept (t' := tk) kS
  have I2 : Inv X pins σ (upd H L (.lst (rs.map V.ref))) { s with heap := hF, toks := tk } :=
    I1.take (h' := hF) (t' := tk) (fun _ _ _ r => r) (I.fpOk uL nL) ⟨by rw [List.length_map]; exact sz, acc.toList, c, by rw [ea]; exact vals_refs rs, by rw [Array.toArray_toList]; exact hL⟩
  obtain ⟨H2, I3, w1, w2⟩ := DX.takeT (P := fun b vs => ∃ (j : Nat) (e : List L2.Key × V) (kq : Addr), as[j]? = some b ∧ kvs[j]? = some e ∧ H kq = some (.tup (e.1.map kV)) ∧ vs = [.ref kq, e.2]) I as _ I2 nd fun b hb => by
    obtain ⟨j, hj⟩ := List.mem_iff_getElem?.mp hb
    obtain ⟨e, kq, v, c1, c2, c3, c4⟩ := pr j b hj
    obtain ⟨u1, u2⟩ := up b hb
    refine ⟨u1, by rw [upd_ne u2]; exact I.hok.fresh u1, [.ref kq, e.2], ⟨j, e, kq, hj, c1, c2, rfl⟩, fun _ => ⟨by rw [sizeLine_eq]; exact (by decide : 2 ≤ 16777216), [Value.ref kq, v], .cons rfl (.cons c3 .nil), ⟨_, c4, rfl, 0, rfl⟩⟩⟩
  refine ⟨H2, I3, fun b o z => w1 b o (by rw [upd_ne (ne_of_none z nL)]; exact z), w1 _ _ upd_same, fun j b hj => ?_⟩
  obtain ⟨vs, ⟨i, e, kq, d1, d2, d3, rfl⟩, d4⟩ := w2 b (List.mem_of_getElem? hj)
  cases (List.getElem?_inj (List.getElem?_eq_some_iff.mp hj).1 nd).mp (hj.trans d1.symm)
  exact ⟨e, kq, d2, d3, d4⟩
theorem made_nodup {es : Array DictEntry} {lo : Addr} {h : Heap} {as : List Addr} (g : DT.Made es lo h as) : as.Nodup := g.rise.imp fun z => Nat.ne_of_lt z
/-- list(v), v the view d.items() -/
def rListD : List V → Hp → VK → Prop := fun vs H Q => ∃ (p a : Addr) (kvs : List (List L2.Key × V)), vs = [.ref p] ∧ H p = some (DX.itemsO p a) ∧ H a = some (.dT kvs) ∧
  ∀ (H' : Hp) (l : Addr) (ts : List Addr), Gw H H' → H' l = some (.lst (ts.map V.ref)) → ts.length = kvs.length → H l = none →
    (∀ (j : Nat) (b : Addr), ts[j]? = some b → ∃ (e : List L2.Key × V) (kq : Addr), kvs[j]? = some e ∧ H kq = some (.tup (e.1.map kV)) ∧ H' b = some (.tup [.ref kq, e.2])) → Q (.ref l) H'
abbrev entI (e : List Int × Addr) : List L2.Key × V := (e.1.map Sum.inl, V.ref e.2)
/-- sorted(v), v the view d.items(): keys tuples of d ints in [0, B), values tuples, M of the key -/
def rSortD (B : Int) : List V → Hp → VK → Prop := fun vs H Q => ∃ (p a : Addr) (ks : List (List Int × Addr)) (d : Nat) (M : List Int → List L2.Key), vs = [.ref p] ∧ H p = some (DX.itemsO p a) ∧ H a = some (.dT (ks.map entI)) ∧ ks.length < 64 ∧
  (∀ e ∈ ks, H e.2 = some (.tup ((M e.1).map kV)) ∧ e.1.length = d ∧ TS.Bd B e.1) ∧
  ∀ (H' : Hp) (l : Addr) (ps : List (Addr × List Int × Addr)), Gw H H' → H l = none → (ps.map (·.2)).Perm ks → (ps.map (·.2)).Pairwise (fun e f => TS.code B e.1 ≤ TS.code B f.1) → H' l = some (.lst (ps.map fun z => V.ref z.1)) →
    (∀ z ∈ ps, ∃ q, H' z.1 = some (.tup [.ref q, .ref z.2.2]) ∧ H' q = some (.tup (z.2.1.map V.int))) → Q (.ref l) H'
theorem kV_ints (y : List Int) : (y.map Sum.inl : List L2.Key).map kV = y.map V.int := by rw [List.map_map]; rfl
theorem cr_sortD {B : Int} (hc : X.calm = true) (hu : X.A.units + 64 < cLine) : CallR X (.builtin "sorted") (rSortD B) := by
  intro pins s σ H xs us Q I r h
  obtain ⟨p, a, ks, d, M, rfl, hp, ha, few, hv, q⟩ := h
  obtain rfl := Vals.ref1 r
  have view : s.heap.IsItemsView p a := (show ObjOk X.prog X.w H s.heap p (DX.itemsO p a) from I.hok p _ hp).1
  obtain ⟨z, hd, xs', rel, o, es, ep, ho, hx, hdat, hes, his, hn⟩ := dt_of I.hok ha
  have n1 : ks.length = xs'.length := (List.length_map (f := entI) (as := ks)).symm.trans (Paired.length rel)
  have n2 : es.size = xs'.length := size_of_entries hes
  refine DT.sortedI (es := es) (ep := ep) (I.ok.hd hc) view ⟨o, ho, hx, hdat⟩ (by rw [sizeLine_eq]; omega) fun h' tk as hk hlt hl hG => ?_
  have nd := made_nodup hG
  have lk : as.length = ks.length := by omega
  have mp := fun (j : Nat) (b : Addr) (hj : as[j]? = some b) => made_pair (X := X) rel hes hG hj
  have new : ∀ b u, h'.get? b = some u → b ≠ h'.objs.size := fun b u w1 => Nat.ne_of_lt (Heap.lt_size w1)
  have atL : (h'.push { cls := .type "list", data := .seq (as.map Value.ref).toArray }).get? h'.objs.size = some (seqObj "list" (as.map Value.ref).toArray 0) := Heap.get?_push_size _ rfl
  have old : ∀ b u, h'.get? b = some u → (h'.push { cls := .type "list", data := .seq (as.map Value.ref).toArray }).get? b = some u := fun b u w1 => Heap.get?_push_of_some _ w1
  generalize h'.push { cls := .type "list", data := .seq (as.map Value.ref).toArray } = hS at atL old ⊢
  -- each pair in the heap of the comparisons
  have cmp : ∀ (j : Nat) (b : Addr), as[j]? = some b → ∃ e : List Int × Addr, ks[j]? = some e ∧ PrD X.prog X.w (TS.midHeap hS h'.objs.size (as.map Value.ref)) (.ref b) e.1 (M e.1) := by
    intro j b hj
    obtain ⟨e0, kq, v, c1, c2, c3, c4⟩ := mp j b hj
    rw [List.getElem?_map] at c1
    cases ej : ks[j]? with
    | none => rw [ej] at c1; exact nomatch c1
    | some e =>
      rw [ej] at c1
      cases Option.some.inj c1
      cases (show v = Value.ref e.2 from c3)
      have mid : ∀ b u, h'.get? b = some u → (TS.midHeap hS h'.objs.size (as.map Value.ref)).get? b = some u := fun b u w1 => TS.midHeap_old (new b u w1) (old b u w1)
      have c2' : H kq = some (.tup (e.1.map V.int)) := by rw [← kV_ints]; exact c2
      obtain ⟨_, its, rv, ot, t1, t2, nt, t3⟩ := (show ObjOk X.prog X.w H s.heap kq (.tup (e.1.map V.int)) from I.hok kq _ c2')
      obtain ⟨ok, ik, nk, k1, k2, k3, k4⟩ := (show IsTupleKey (mixKind X.prog X.w) s.heap (e.1.map Sum.inl) kq from key_of I.hok c2)
      obtain ⟨ov, iv, nv, v1, v2, v3, v4⟩ := (show IsTupleKey (mixKind X.prog X.w) s.heap (M e.1) e.2 from key_of I.hok (hv e (List.mem_of_getElem? ej)).1)
      exact ⟨e, rfl, b, kq, e.2, its.toArray, rfl, ⟨_, mid _ _ c4, rfl, 0, rfl⟩, ⟨ot, mid _ _ (hk _ _ t1), t2, nt, t3⟩, Vals.ints rv, ⟨ok, ik, nk, mid _ _ (hk _ _ k1), k2, k3, k4⟩, ⟨ov, iv, nv, mid _ _ (hk _ _ v1), v2, v3, v4⟩⟩
  have rk : ∀ (j : Nat) (b : Addr) (e : List Int × Addr), as[j]? = some b → ks[j]? = some e → keyD (TS.midHeap hS h'.objs.size (as.map Value.ref)) (.ref b) = e.1 := fun j b e hj he => by
    obtain ⟨f, f1, f2⟩ := cmp j b hj
    cases Option.some.inj (he.symm.trans f1)
    exact f2.key
  refine wpAny_call_entry slot_list_sort ⟨_, atL, rfl⟩ entry_list_sort
    (SK.plain_sort (s := { s with heap := hS, toks := tk }) (r := fun v => TS.code B (keyD (TS.midHeap hS h'.objs.size (as.map Value.ref)) v)) atL (by rw [List.length_map]; omega) (fun two Qk hQk => ?_) fun ps out o1 o2 o3 => ⟨.none, rfl, ?_⟩) (args_list_sort _)
  · refine kindD (s := { s with heap := TS.midHeap hS h'.objs.size (as.map Value.ref), toks := tk }) (d := d) (M := M) two (by show X.A.units + 1 + 1 < cLine; omega) (fun v w1 => ?_) Qk hQk
    obtain ⟨b, hb, rfl⟩ := List.mem_map.mp w1
    obtain ⟨j, hj⟩ := List.mem_iff_getElem?.mp hb
    obtain ⟨e, f1, f2⟩ := cmp j b hj
    exact ⟨e.1, f2, (hv e (List.mem_of_getElem? f1)).2⟩
  · show EP X pins σ Q (.ref h'.objs.size) { s with heap := sortedHeap hS h'.objs.size (as.map Value.ref) out, toks := tk }
    obtain ⟨zs, pz, ez⟩ := perm_lift (fun z : Addr × List Int × Addr => (Value.ref z.1, Value.ref z.1)) o2 (as.zip ks) (DX.zip_self Value.ref as ks lk)
    have idx : ∀ z ∈ zs, ∃ j : Nat, as[j]? = some z.1 ∧ ks[j]? = some z.2 := fun z hz => by
      obtain ⟨j, hj⟩ := List.mem_iff_getElem?.mp (pz.mem_iff.mp hz)
      exact ⟨j, List.getElem?_zip_eq_some.mp hj⟩
    have outs : out.toList = (zs.map (·.1)).map Value.ref := by
      rw [o1, ← ez, List.map_map, List.map_map]
      rfl
    have perm : (zs.map (·.2)).Perm ks := by
      have w1 := pz.map (fun z : Addr × List Int × Addr => z.2)
      rwa [List.map_snd_zip (by omega)] at w1
    have asc : (zs.map (·.2)).Pairwise (fun e f => TS.code B e.1 ≤ TS.code B f.1) := by
      rw [← ez, List.pairwise_map] at o3
      rw [List.pairwise_map]
      refine o3.imp_of_mem fun {x y} m1 m2 w1 => ?_
      obtain ⟨j, j1, j2⟩ := idx x m1
      obtain ⟨i, i1, i2⟩ := idx y m2
      have w2 : TS.code B (keyD (TS.midHeap hS h'.objs.size (as.map Value.ref)) (.ref x.1)) ≤ TS.code B (keyD (TS.midHeap hS h'.objs.size (as.map Value.ref)) (.ref y.1)) := w1
      rwa [rk j _ _ j1 j2, rk i _ _ i1 i2] at w2
    obtain ⟨eF, heF⟩ := sortedHeap_at (vs := as.map Value.ref) (out := out) atL
    have kF : ∀ b u, h'.get? b = some u → (sortedHeap hS h'.objs.size (as.map Value.ref) out).get? b = some u := fun b u w1 => (sortedHeap_old (new b u w1) (Heap.lt_size (old b u w1))).trans (old b u w1)
    have len : zs.length = ks.length := by rw [← perm.length_eq, List.length_map]
    obtain ⟨H2, I3, g1, g2, g3⟩ := track_pairs (tk := tk) (rs := zs.map (·.1)) I nd (fun b hb => ⟨Nat.le_of_lt (hG.above b hb), Nat.ne_of_lt (hG.there hb)⟩) (Nat.le_of_lt hlt) (fun b u w1 => kF b u (hk b u w1)) (by rw [← Array.toArray_toList (xs := out)]; exact heF) outs (by rw [List.length_map, sizeLine_eq]; omega)
      fun j b hj => by
        obtain ⟨e, kq, v, c1, c2, c3, c4⟩ := mp j b hj
        exact ⟨e, kq, v, c1, c2, c3, kF _ _ c4⟩
    refine ⟨.ref h'.objs.size, H2, I3, rfl, q H2 h'.objs.size zs g1 (I.hok.fresh (Nat.le_of_lt hlt)) perm asc (by rw [g2, List.map_map]; rfl) fun z hz => ?_⟩
    obtain ⟨j, j1, j2⟩ := idx z hz
    obtain ⟨e, kq, d1, d2, d3⟩ := g3 j z.1 j1
    rw [List.getElem?_map, j2] at d1
    cases Option.some.inj d1
    exact ⟨kq, d3, by rw [← kV_ints]; exact g1 _ _ d2⟩
end
section
variable {prog : Program} {w : World} {A : Around} {E : Value → Shared → Prop} {s : Shared} {r d : Addr} {es : Array DictEntry} {ep : Nat}
/-- list() of a view d.items() -/
theorem list_view {Q : Value → Shared → Prop} (hh : A.handled = none) (hv : s.heap.IsItemsView r d) (hm : DT.Raw s.heap d es ep) (hn : es.size ≤ sizeLine)
    (q : ∀ h' tk acc c as, (∀ b o, s.heap.get? b = some o → h'.get? b = some o) → h'.get? s.heap.objs.size = some { cls := .type "list", dict := none, data := .seq acc c, slots := #[] } → as.length = es.size → DT.Made es s.heap.objs.size h' as →
      acc.toList = as.map Value.ref → Q (.ref s.heap.objs.size) { s with heap := h', toks := tk }) :
    wpAny (model prog w) A (call (.type "list") [.ref r]) Q E s := by
  have lr : r < s.heap.objs.size := let ⟨_, z, _⟩ := hv; Heap.lt_size z
  have ld := hm.lt
  refine PySem.callType_codes (Q₁ := fun x t => x = .ref s.heap.objs.size ∧ t = { s with heap := s.heap.push { cls := .type "list", data := .seq #[] } }) F.called_list (F.typeCall_list_1 _) F.entry_list_init (code_list_new _ ⟨rfl, rfl⟩) fun x t e => ?_
  obtain ⟨rfl, rfl⟩ := e
  have top : (s.heap.push { cls := .type "list", data := .seq #[] }).get? s.heap.objs.size = some { cls := .type "list", data := .seq #[] } := Heap.get?_push_size _ rfl
  refine ⟨⟨_, top, rfl⟩, F.args_list_init_2 _ _, ?_⟩
  show wpAny _ _ (Builtin.List.listItems (.ref s.heap.objs.size) >>= fun was => Builtin.List.listUpdate (.ref s.heap.objs.size) (fun _ => #[]) >>= fun _ => letGo was.toList.reverse >>= fun _ => Builtin.List.listExtendWith (.ref s.heap.objs.size) (.ref r) .none) _ _ _
  unfold Builtin.List.listItems
  refine wpAny_bind (wpAny_bind (wpAny_seqItems top rfl (wpAny_pure ?_)))
  show wpAny _ _ (updateSeq s.heap.objs.size (fun _ => #[]) >>= fun _ => letGo (#[] : Array Value).toList.reverse >>= fun _ => Builtin.List.listExtendWith (.ref s.heap.objs.size) (.ref r) .none) _ _ _
  refine wpAny_bind (wpAny_updateSeq top rfl ?_)
  have top2 := Heap.get?_update_self (Obj.mapSeq (fun _ => (#[] : Array Value))) top rfl
  have keep : ∀ b o, b ≠ s.heap.objs.size → s.heap.get? b = some o → ((s.heap.push { cls := .type "list", data := .seq #[] }).update s.heap.objs.size (Obj.mapSeq (fun _ => (#[] : Array Value)))).get? b = some o := fun b o nb z =>
    (Heap.get?_update_other _ _ (Ne.symm nb)).trans (Heap.get?_push_of_some _ z)
  show wpAny _ _ (Builtin.List.listExtendWith (.ref s.heap.objs.size) (.ref r) .none) _ _ _
  refine DT.extI (A := A.in1) (s := { s with heap := (s.heap.push { cls := .type "list", data := .seq #[] }).update s.heap.objs.size (Obj.mapSeq (fun _ => (#[] : Array Value))) }) (es := es) (ep := ep) hh (let ⟨o, z, zz⟩ := hv; ⟨o, keep r o (Nat.ne_of_lt lr) z, zz⟩) (hm.at' fun o z => keep d o (Nat.ne_of_lt ld) z) s.heap.objs.size (Nat.ne_of_gt lr) (Nat.ne_of_lt ld) .none _ top2 (fun h' tk acc c as kp tp l1 g l2 => ?_) hn
  exact ⟨rfl, q h' tk acc c as (fun b o z => kp b o (Nat.ne_of_lt (Heap.lt_size z)) (keep b o (Nat.ne_of_lt (Heap.lt_size z)) z)) tp l1 (g.low (Nat.le_of_lt (Heap.lt_size top2))) l2⟩
end
section
variable {X : Cx}
theorem cr_listD (hc : X.calm = true) : CallR X (.type "list") rListD := by
  intro pins s σ H xs us Q I r h
  obtain ⟨p, a, kvs, rfl, hp, ha, q⟩ := h
  obtain rfl := Vals.ref1 r
  have view : s.heap.IsItemsView p a := (show ObjOk X.prog X.w H s.heap p (DX.itemsO p a) from I.hok p _ hp).1
  obtain ⟨z, hd, xs', rel, o, es, ep, ho, hx, hdat, hes, his, hn⟩ := dt_of I.hok ha
  have n1 : kvs.length = xs'.length := Paired.length rel
  have n2 : es.size = xs'.length := size_of_entries hes
  refine list_view (es := es) (ep := ep) (I.ok.hd hc) view ⟨o, ho, hx, hdat⟩ (by omega) fun h' tk acc c as hk hL hl g e => ?_
  obtain ⟨H2, I3, g1, g2, g3⟩ := track_pairs (tk := tk) (rs := as) I (made_nodup g) (fun b hb => ⟨Nat.le_of_lt (g.above b hb), Nat.ne_of_gt (g.above b hb)⟩) (Nat.le_refl _) hk hL e (by omega) fun j b hj => made_pair (X := X) rel hes g hj
  exact ⟨.ref s.heap.objs.size, H2, I3, rfl, q H2 _ as g1 g2 (by omega) (I.hok.fresh (Nat.le_refl _)) g3⟩
end
end AL
set_option Elab.async false
set_option maxRecDepth 100000
set_option exponentiation.threshold 70000
/-! Polynomials as lists of terms; ratios as Rat. -/
namespace AL
open PySem L2
def RQ (H : Hp) (t : Addr) (x : Rat) : Prop := RatAt H t x.num x.den
theorem low_rat (x : Rat) : Low x.num x.den := ⟨Nat.pos_of_ne_zero x.den_nz, x.reduced⟩
theorem nrm_rat (a : Int) {b : Nat} (hb : 0 < b) : nrm a b = ((mkRat a b).num, (mkRat a b).den) := by
  have e : mkRat (mkRat a b).num (mkRat a b).den = mkRat a b := Rat.mkRat_self _
  exact nrm_eq (low_rat _).1 hb (low_rat _).2 ((Rat.mkRat_eq_iff (mkRat a b).den_nz (by omega)).mp e)
theorem sum_rat (x y : Rat) : sumR x.num x.den y.num y.den = ((x + y).num, (x + y).den) := by
  unfold sumR
  rw [nrm_rat _ (Nat.mul_pos (low_rat x).1 (low_rat y).1), ← Rat.mkRat_add_mkRat _ _ x.den_nz y.den_nz, Rat.mkRat_self, Rat.mkRat_self]
theorem mul_rat (x y : Rat) : mulR x.num x.den y.num y.den = ((x * y).num, (x * y).den) := by
  unfold mulR
  rw [nrm_rat _ (Nat.mul_pos (low_rat x).1 (low_rat y).1), ← Rat.mkRat_mul_mkRat, Rat.mkRat_self, Rat.mkRat_self]
theorem dif_rat (x y : Rat) : difR x.num x.den y.num y.den = ((x - y).num, (x - y).den) := by
  have e := sum_rat x (-y)
  rw [Rat.neg_num, Rat.neg_den, ← Rat.sub_eq_add_neg] at e
  rw [← e]
  unfold difR sumR
  rw [Int.neg_mul, ← Int.sub_eq_add_neg]
/-- x is X / D, |X| at most B * D -/
def Sz (D B : Nat) (x : Rat) : Prop := 0 < D ∧ ∃ X : Int, X.natAbs ≤ B * D ∧ x = mkRat X D
theorem Sz.le {D B : Nat} {x : Rat} (h : Sz D B x) : x.num.natAbs ≤ B * D ∧ x.den ≤ D := by
  obtain ⟨h0, X, hX, e⟩ := h
  obtain ⟨n, d, z, c⟩ := x
  obtain ⟨m, m0, e1, e2⟩ := Rat.mkRat_num_den (by omega) e.symm
  refine ⟨Nat.le_trans ?_ hX, ?_⟩
  · rw [e1, Int.natAbs_mul, Int.natAbs_natCast]
    exact Nat.le_mul_of_pos_right _ (by omega)
  · rw [e2]
    exact Nat.le_mul_of_pos_right _ (by omega)
theorem Sz.mid {D B : Nat} {x : Rat} (h : Sz D B x) (h1 : B * D < 2 ^ 6000) (h2 : D < 2 ^ 6000) : Mid x.num x.den :=
  ⟨(low_rat x).1, Nat.lt_of_le_of_lt h.le.1 h1, Nat.lt_of_le_of_lt h.le.2 h2⟩
theorem Sz.mono {D B C : Nat} {x : Rat} (h : Sz D B x) (hb : B ≤ C) : Sz D C x := let ⟨h0, X, hX, e⟩ := h; ⟨h0, X, Nat.le_trans hX (Nat.mul_le_mul_right _ hb), e⟩
theorem Sz.up {D B : Nat} {x : Rat} (h : Sz D B x) {E : Nat} (hE : 0 < E) : Sz (D * E) B x := by
  obtain ⟨h0, X, hX, e⟩ := h
  refine ⟨Nat.mul_pos h0 hE, X * (E : Int), ?_, ?_⟩
  · rw [Int.natAbs_mul, Int.natAbs_natCast, ← Nat.mul_assoc]
    exact Nat.mul_le_mul_right _ hX
  · rw [e]
    refine (Rat.mkRat_eq_iff (by omega) (Nat.ne_of_gt (Nat.mul_pos h0 hE))).mpr ?_
    rw [Int.natCast_mul, Int.mul_assoc, Int.mul_comm (D : Int)]
theorem Sz.add {D B C : Nat} {x y : Rat} (h : Sz D B x) (k : Sz D C y) : Sz D (B + C) (x + y) := by
  obtain ⟨h0, X, hX, e⟩ := h
  obtain ⟨_, Y, hY, f⟩ := k
  refine ⟨h0, X + Y, ?_, ?_⟩
  · rw [Nat.add_mul]
    exact Nat.le_trans (Int.natAbs_add_le _ _) (Nat.add_le_add hX hY)
  · rw [e, f, Rat.mkRat_add_mkRat _ _ (by omega) (by omega)]
    refine (Rat.mkRat_eq_iff (Nat.ne_of_gt (Nat.mul_pos h0 h0)) (by omega)).mpr ?_
    rw [Int.natCast_mul, ← Int.add_mul, Int.mul_assoc]
theorem Sz.neg {D B : Nat} {x : Rat} (h : Sz D B x) : Sz D B (-x) := by
  obtain ⟨h0, X, hX, e⟩ := h
  exact ⟨h0, -X, by rw [Int.natAbs_neg]; exact hX, by rw [e, Rat.neg_mkRat]⟩
theorem Sz.mul {D B E C : Nat} {x y : Rat} (h : Sz D B x) (k : Sz E C y) : Sz (D * E) (B * C) (x * y) := by
  obtain ⟨h0, X, hX, e⟩ := h
  obtain ⟨k0, Y, hY, f⟩ := k
  refine ⟨Nat.mul_pos h0 k0, X * Y, ?_, ?_⟩
  · rw [Int.natAbs_mul, Nat.mul_mul_mul_comm]
    exact Nat.mul_le_mul hX hY
  · rw [e, f, Rat.mkRat_mul_mkRat]
theorem Sz.frac {a : Int} {b D B : Nat} (hb : 0 < b) (hd : b ∣ D) (h0 : 0 < D) (ha : a.natAbs ≤ B) : Sz D B (mkRat a b) := by
  obtain ⟨E, rfl⟩ := hd
  have hE : 0 < E := Nat.pos_of_ne_zero fun z => by rw [z] at h0; omega
  refine Sz.up (D := b) ⟨hb, a, Nat.le_trans ha (Nat.le_mul_of_pos_right _ hb), rfl⟩ hE
theorem Sz.int {D B : Nat} (i : Int) (h0 : 0 < D) (h : i.natAbs ≤ B) : Sz D B (mkRat i 1) := Sz.frac (by decide) (Nat.one_dvd _) h0 h

/-! ### terms -/
abbrev Ex := List Nat
abbrev PM := List (Ex × Rat)
def ki (e : Ex) : List Int := e.map fun k : Nat => (k : Int)
theorem ki_inj : ∀ {a b : Ex}, ki a = ki b → a = b
  | [], [], _ => rfl
  | [], _ :: _, h => nomatch h
  | _ :: _, [], h => nomatch h
  | a :: r, b :: s, h => by
    have h' : (a : Int) :: ki r = (b : Int) :: ki s := h
    injection h' with h1 h2
    rw [ki_inj h2, show a = b by omega]
def lin (φ : Ex → Rat) : PM → Rat
  | [] => 0
  | p :: r => p.2 * φ p.1 + lin φ r
theorem lin_append (φ : Ex → Rat) : ∀ a b : PM, lin φ (a ++ b) = lin φ a + lin φ b
  | [], b => by rw [List.nil_append]; exact (Rat.zero_add _).symm
  | p :: r, b => by
    show p.2 * φ p.1 + lin φ (r ++ b) = p.2 * φ p.1 + lin φ r + lin φ b
    rw [lin_append φ r b, Rat.add_assoc]
theorem lin_congr {φ ψ : Ex → Rat} : ∀ {m : PM}, (∀ p ∈ m, φ p.1 = ψ p.1) → lin φ m = lin ψ m
  | [], _ => rfl
  | p :: r, h => by
    show p.2 * φ p.1 + lin φ r = p.2 * ψ p.1 + lin ψ r
    rw [h p (List.mem_cons_self ..), lin_congr fun q hq => h q (List.mem_cons_of_mem _ hq)]
theorem lin_zero : ∀ (m : PM), lin (fun _ => 0) m = 0
  | [] => rfl
  | p :: r => by
    show p.2 * 0 + lin _ r = 0
    rw [lin_zero r, Rat.mul_zero, Rat.zero_add]
theorem lin_mulr (φ : Ex → Rat) (c : Rat) : ∀ m : PM, lin (fun e => φ e * c) m = lin φ m * c
  | [] => by show (0 : Rat) = 0 * c; grind
  | p :: r => by
    show p.2 * (φ p.1 * c) + lin _ r = (p.2 * φ p.1 + lin φ r) * c
    rw [lin_mulr φ c r]
    grind
theorem lin_perm (φ : Ex → Rat) {a b : PM} (h : a.Perm b) : lin φ a = lin φ b := by
  induction h with
  | nil => rfl
  | cons x _ ih => show _ + lin φ _ = _ + lin φ _; rw [ih]
  | swap x y l =>
    show y.2 * φ y.1 + (x.2 * φ x.1 + lin φ l) = x.2 * φ x.1 + (y.2 * φ y.1 + lin φ l)
    grind
  | trans _ _ i1 i2 => exact i1.trans i2
/-- the same polynomial -/
def Eqp (a b : PM) : Prop := ∀ φ : Ex → Rat, lin φ a = lin φ b
theorem Eqp.rfl' {a : PM} : Eqp a a := fun _ => rfl
theorem Eqp.symm {a b : PM} (h : Eqp a b) : Eqp b a := fun φ => (h φ).symm
theorem Eqp.trans {a b c : PM} (h : Eqp a b) (k : Eqp b c) : Eqp a c := fun φ => (h φ).trans (k φ)
theorem Eqp.append {a b c d : PM} (h : Eqp a b) (k : Eqp c d) : Eqp (a ++ c) (b ++ d) := fun φ => by rw [lin_append, lin_append, h φ, k φ]
def nzM (m : PM) : PM := m.filter fun p => decide (p.2 ≠ 0)
theorem nz_eqp : ∀ m : PM, Eqp (nzM m) m
  | [], _ => rfl
  | p :: r, φ => by
    have ih := nz_eqp r φ
    unfold nzM at ih ⊢
    by_cases h : p.2 = 0
    · rw [List.filter_cons_of_neg (by simp [h]), ih]
      show lin φ r = p.2 * φ p.1 + lin φ r
      rw [h]; grind
    · rw [List.filter_cons_of_pos (by simp [h])]
      show p.2 * φ p.1 + lin φ _ = _
      rw [ih]; rfl
def getM (m : PM) (e : Ex) : Option Rat := (m.find? fun p => decide (p.1 = e)).map (·.2)
def hasM (m : PM) (e : Ex) : Bool := m.any fun p => decide (p.1 = e)
def putM (m : PM) (e : Ex) (v : Rat) : PM := if hasM m e = true then m.map (fun p => if p.1 = e then (p.1, v) else p) else m ++ [(e, v)]
theorem has_get (e : Ex) : ∀ m : PM, hasM m e = (getM m e).isSome
  | [] => rfl
  | p :: r => by
    have ih := has_get e r
    unfold hasM getM at ih ⊢
    rw [List.any_cons, List.find?_cons]
    by_cases h : p.1 = e
    · simp [h]
    · rw [decide_eq_false h, Bool.false_or]; exact ih
theorem put_keys (m : PM) (e : Ex) (v : Rat) : (putM m e v).map (·.1) = if hasM m e = true then m.map (·.1) else m.map (·.1) ++ [e] := by
  unfold putM
  split
  · rw [List.map_map]
    refine List.map_congr_left fun p _ => ?_
    show (if p.1 = e then (p.1, v) else p).1 = p.1
    split <;> rfl
  · rw [List.map_append]; rfl
theorem has_mem {m : PM} {e : Ex} : hasM m e = true ↔ e ∈ m.map (·.1) := by
  unfold hasM
  rw [List.any_eq_true, List.mem_map]
  exact ⟨fun ⟨p, h1, h2⟩ => ⟨p, h1, of_decide_eq_true h2⟩, fun ⟨p, h1, h2⟩ => ⟨p, h1, decide_eq_true h2⟩⟩
theorem put_nodup {m : PM} (nd : (m.map (·.1)).Nodup) (e : Ex) (v : Rat) : ((putM m e v).map (·.1)).Nodup := by
  rw [put_keys]
  split
  · exact nd
  · rename_i h
    rw [List.nodup_append]
    refine ⟨nd, by simp, fun a ha b hb z => h (has_mem.mpr ?_)⟩
    rw [List.mem_singleton] at hb
    rw [← hb, ← z]; exact ha
theorem put_len (m : PM) (e : Ex) (v : Rat) : (putM m e v).length ≤ m.length + 1 := by
  unfold putM
  split
  · rw [List.length_map]; omega
  · rw [List.length_append]; exact Nat.le_refl _
theorem lin_put (φ : Ex → Rat) (e : Ex) (v : Rat) : ∀ m : PM, (m.map (·.1)).Nodup → lin φ (putM m e v) = lin φ m + (v - (getM m e).getD 0) * φ e
  | [], _ => by
    show v * φ e + 0 = 0 + (v - 0) * φ e
    grind
  | p :: r, nd => by
    rw [List.map_cons, List.nodup_cons] at nd
    have ih := lin_put φ e v r nd.2
    by_cases h : p.1 = e
    · have h1 : hasM (p :: r) e = true := by unfold hasM; rw [List.any_cons, decide_eq_true h, Bool.true_or]
      have h2 : getM (p :: r) e = some p.2 := by unfold getM; rw [List.find?_cons, decide_eq_true h]; rfl
      have h3 : r.map (fun p => if p.1 = e then (p.1, v) else p) = r := by
        refine (List.map_congr_left fun q hq => ?_).trans (List.map_id r)
        rw [if_neg fun z => nd.1 (List.mem_map.mpr ⟨q, hq, by rw [z, h]⟩)]; rfl
      unfold putM
      rw [if_pos h1, h2, List.map_cons, if_pos h, h3]
      show v * φ p.1 + lin φ r = p.2 * φ p.1 + lin φ r + (v - p.2) * φ e
      rw [h]; grind
    · have h1 : hasM (p :: r) e = hasM r e := by unfold hasM; rw [List.any_cons, decide_eq_false h, Bool.false_or]
      have h2 : getM (p :: r) e = getM r e := by unfold getM; rw [List.find?_cons, decide_eq_false h]
      have h3 : putM (p :: r) e v = p :: putM r e v := by
        unfold putM
        rw [h1]
        split
        · rw [List.map_cons, if_neg h]
        · rfl
      rw [h3, h2]
      show p.2 * φ p.1 + lin φ (putM r e v) = p.2 * φ p.1 + lin φ r + _
      rw [ih]; grind
def addM (m : PM) (e : Ex) (v : Rat) : PM := putM m e ((getM m e).getD 0 + v)
def joinM (m l : PM) : PM := l.foldl (fun a p => addM a p.1 p.2) m
theorem join_take {m l : PM} {i : Nat} {p : Ex × Rat} (h : l[i]? = some p) : joinM m (l.take (i + 1)) = addM (joinM m (l.take i)) p.1 p.2 := by
  unfold joinM
  rw [List.take_add_one, h, List.foldl_append]; rfl
theorem join_lin (φ : Ex → Rat) : ∀ (l m : PM), (m.map (·.1)).Nodup → lin φ (joinM m l) = lin φ m + lin φ l ∧ ((joinM m l).map (·.1)).Nodup
  | [], m, nd => ⟨(Rat.add_zero _).symm, nd⟩
  | p :: r, m, nd => by
    have nd2 := put_nodup nd p.1 ((getM m p.1).getD 0 + p.2)
    obtain ⟨h1, h2⟩ := join_lin φ r (addM m p.1 p.2) nd2
    refine ⟨?_, h2⟩
    show lin φ (joinM (addM m p.1 p.2) r) = lin φ m + (p.2 * φ p.1 + lin φ r)
    rw [h1]
    unfold addM
    rw [lin_put φ _ _ _ nd]
    grind
theorem join_eqp (l : PM) : Eqp (joinM [] l) l := fun φ => by rw [(join_lin φ l [] List.nodup_nil).1]; exact Rat.zero_add _
theorem join_nodup (l : PM) : ((joinM [] l).map (·.1)).Nodup := (join_lin (fun _ => 0) l [] List.nodup_nil).2
/-- keys of n numbers up to E, ratios within D and B -/
def PB (n E D B : Nat) (m : PM) : Prop := ∀ p ∈ m, p.1.length = n ∧ (∀ k ∈ p.1, k ≤ E) ∧ Sz D B p.2
theorem PB.mono {n E D B C F : Nat} {m : PM} (h : PB n E D B m) (h1 : B ≤ C) (h2 : E ≤ F) : PB n F D C m := fun p hp => let ⟨a, b, c⟩ := h p hp; ⟨a, fun k hk => Nat.le_trans (b k hk) h2, c.mono h1⟩
theorem PB.up {n E D B F : Nat} {m : PM} (h : PB n E D B m) (hF : 0 < F) : PB n E (D * F) B m := fun p hp => let ⟨a, b, c⟩ := h p hp; ⟨a, b, c.up hF⟩
theorem PB.append {n E D B : Nat} {m l : PM} (h : PB n E D B m) (k : PB n E D B l) : PB n E D B (m ++ l) := fun p hp => (List.mem_append.mp hp).elim (h p) (k p)
theorem PB.sub {n E D B : Nat} {m l : PM} (h : PB n E D B m) (k : ∀ p ∈ l, p ∈ m) : PB n E D B l := fun p hp => h p (k p hp)
theorem PB.nz {n E D B : Nat} {m : PM} (h : PB n E D B m) : PB n E D B (nzM m) := h.sub fun _ hp => (List.mem_filter.mp hp).1
theorem get_mem {m : PM} {e : Ex} {v : Rat} (h : getM m e = some v) : (e, v) ∈ m := by
  unfold getM at h
  rw [Option.map_eq_some_iff] at h
  obtain ⟨p, h1, h2⟩ := h
  have h3 : p.1 = e := by have z := List.find?_some h1; exact of_decide_eq_true z
  have h4 := List.mem_of_find?_eq_some h1
  rw [← h3, ← h2]; exact h4
theorem PB.add {n E D B C : Nat} {m : PM} (h : PB n E D B m) {e : Ex} {v : Rat} (hl : e.length = n) (he : ∀ k ∈ e, k ≤ E) (hv : Sz D C v) : PB n E D (B + C) (addM m e v) := by
  have hg : Sz D (B + C) ((getM m e).getD 0 + v) := by
    cases z : getM m e with
    | none =>
      rw [Option.getD_none, Rat.zero_add]
      exact hv.mono (by omega)
    | some x => exact (h _ (get_mem z)).2.2.add hv
  intro p hp
  unfold addM putM at hp
  split at hp
  · obtain ⟨q, hq, rfl⟩ := List.mem_map.mp hp
    split
    · exact ⟨(h q hq).1, (h q hq).2.1, hg⟩
    · exact ⟨(h q hq).1, (h q hq).2.1, (h q hq).2.2.mono (by omega)⟩
  · rcases List.mem_append.mp hp with hp | hp
    · exact ⟨(h p hp).1, (h p hp).2.1, (h p hp).2.2.mono (by omega)⟩
    · rw [List.mem_singleton] at hp
      rw [hp]; exact ⟨hl, he, hg⟩
theorem PB.join {n E D C : Nat} : ∀ {l m : PM} {B : Nat}, PB n E D B m → PB n E D C l → PB n E D (B + C * l.length) (joinM m l)
  | [], m, B, h, _ => by rw [List.length_nil, Nat.mul_zero]; exact h
  | p :: r, m, B, h, k => by
    have k1 := k p (List.mem_cons_self ..)
    have z := PB.join (l := r) (h.add k1.1 k1.2.1 k1.2.2) fun q hq => k q (List.mem_cons_of_mem _ hq)
    refine PB.mono z ?_ (Nat.le_refl _)
    rw [List.length_cons, Nat.mul_add]; omega
theorem join_len : ∀ (l m : PM), (joinM m l).length ≤ m.length + l.length
  | [], m => Nat.le_refl _
  | p :: r, m => by
    have h := join_len r (addM m p.1 p.2)
    have h2 := put_len m p.1 ((getM m p.1).getD 0 + p.2)
    unfold addM at h
    show (joinM (addM m p.1 p.2) r).length ≤ m.length + (r.length + 1)
    unfold addM
    omega
/-! ### in their order -/
def cd (e : Ex) : Int := TS.code 128 (ki e)
def Asc (m : PM) : Prop := m.Pairwise fun p q => cd p.1 < cd q.1
def NZ (m : PM) : Prop := ∀ p ∈ m, p.2 ≠ 0
def ind (e : Ex) : Ex → Rat := fun f => if f = e then 1 else 0
theorem ind_none {e : Ex} : ∀ {m : PM}, (∀ p ∈ m, p.1 ≠ e) → lin (ind e) m = 0
  | [], _ => rfl
  | p :: r, h => by
    have ih := ind_none fun q hq => h q (List.mem_cons_of_mem _ hq)
    show p.2 * (if p.1 = e then 1 else 0) + lin (ind e) r = 0
    rw [if_neg (h p (List.mem_cons_self ..)), ih]
    grind
theorem ind_head {p : Ex × Rat} {r : PM} (h : Asc (p :: r)) : lin (ind p.1) (p :: r) = p.2 := by
  have h2 := (List.pairwise_cons.mp h).1
  show p.2 * (if p.1 = p.1 then 1 else 0) + lin (ind p.1) r = p.2
  rw [if_pos rfl, ind_none fun q hq z => by have := h2 q hq; rw [z] at this; omega]
  grind
theorem uniq : ∀ {a b : PM}, Asc a → Asc b → NZ a → NZ b → Eqp a b → a = b
  | [], [], _, _, _, _, _ => rfl
  | [], q :: s, _, hb, _, nb, h => by
    have z := h (ind q.1)
    rw [ind_head hb] at z
    exact absurd z.symm (nb q (List.mem_cons_self ..))
  | p :: r, [], ha, _, na, _, h => by
    have z := h (ind p.1)
    rw [ind_head ha] at z
    exact absurd z (na p (List.mem_cons_self ..))
  | p :: r, q :: s, ha, hb, na, nb, h => by
    obtain ⟨a1, a2⟩ := List.pairwise_cons.mp ha
    obtain ⟨b1, b2⟩ := List.pairwise_cons.mp hb
    have z1 := h (ind p.1)
    have z2 := h (ind q.1)
    rw [ind_head ha] at z1
    rw [ind_head hb] at z2
    have m1 : ∃ x ∈ q :: s, x.1 = p.1 := by
      refine Classical.byContradiction fun w => na p (List.mem_cons_self ..) ?_
      rw [z1, ind_none fun x hx z => w ⟨x, hx, z⟩]
    have m2 : ∃ x ∈ p :: r, x.1 = q.1 := by
      refine Classical.byContradiction fun w => nb q (List.mem_cons_self ..) ?_
      rw [← z2, ind_none fun x hx z => w ⟨x, hx, z⟩]
    obtain ⟨x, hx, ex⟩ := m1
    obtain ⟨y, hy, ey⟩ := m2
    have ek : p.1 = q.1 := by
      rcases List.mem_cons.mp hx with rfl | hx
      · exact ex.symm
      · rcases List.mem_cons.mp hy with rfl | hy
        · exact ey
        · have w1 := b1 x hx
          have w2 := a1 y hy
          rw [ex] at w1
          rw [ey] at w2
          omega
    have ev : p.2 = q.2 := by
      rw [z1, ek, ind_head hb]
    have e : p = q := Prod.ext ek ev
    subst e
    rw [uniq a2 b2 (fun x hx => na x (List.mem_cons_of_mem _ hx)) (fun x hx => nb x (List.mem_cons_of_mem _ hx)) fun φ => Rat.add_left_cancel _ (h φ)]
theorem code_inj : ∀ {a b : List Int}, a.length = b.length → TS.Bd 128 a → TS.Bd 128 b → TS.code 128 a = TS.code 128 b → a = b
  | [], [], _, _, _, _ => rfl
  | [], _ :: _, h, _, _, _ => nomatch h
  | _ :: _, [], h, _, _, _ => nomatch h
  | x :: r, y :: s, h, ha, hb, e => by
    have h' : r.length = s.length := by simpa using h
    rcases Int.lt_trichotomy x y with w | w | w
    · have := TS.code_lt (B := 128) h' ha.tail hb.tail w
      omega
    · subst w
      have e2 : TS.code 128 r = TS.code 128 s := by
        have e' : x * 128 ^ r.length + TS.code 128 r = x * 128 ^ s.length + TS.code 128 s := e
        rw [h'] at e'
        omega
      rw [code_inj h' ha.tail hb.tail e2]
    · have := TS.code_lt (B := 128) h'.symm hb.tail ha.tail w
      omega
theorem bd_ki {e : Ex} (h : ∀ k ∈ e, k ≤ 80) : TS.Bd 128 (ki e) := fun m hm => by
  obtain ⟨k, hk, rfl⟩ := List.mem_map.mp hm
  have := h k hk
  omega
theorem len_ki (e : Ex) : (ki e).length = e.length := by unfold ki; exact List.length_map _
/-! ### products, values -/
def plE (e f : Ex) : Ex := List.zipWith (· + ·) e f
def mulM (a b : PM) : PM := a.flatMap fun p => b.map fun q => (plE p.1 q.1, p.2 * q.2)
theorem lin_map (φ : Ex → Rat) (p : Ex × Rat) : ∀ b : PM, lin φ (b.map fun q => (plE p.1 q.1, p.2 * q.2)) = p.2 * lin (fun f => φ (plE p.1 f)) b
  | [] => by show (0 : Rat) = p.2 * 0; grind
  | q :: s => by
    rw [List.map_cons]
    show p.2 * q.2 * φ (plE p.1 q.1) + lin φ _ = p.2 * (q.2 * φ (plE p.1 q.1) + lin _ s)
    rw [lin_map φ p s]
    grind
theorem lin_mul (φ : Ex → Rat) : ∀ a b : PM, lin φ (mulM a b) = lin (fun e => lin (fun f => φ (plE e f)) b) a
  | [], _ => rfl
  | p :: r, b => by
    have e : mulM (p :: r) b = (b.map fun q => (plE p.1 q.1, p.2 * q.2)) ++ mulM r b := List.flatMap_cons
    rw [e, lin_append, lin_map, lin_mul φ r b]
    rfl
theorem Eqp.mul {a b c d : PM} (h : Eqp a b) (k : Eqp c d) : Eqp (mulM a c) (mulM b d) := fun φ => by
  rw [lin_mul, lin_mul, h]
  exact lin_congr fun p _ => k _
def sclM (c : Rat) (a : PM) : PM := a.map fun p => (p.1, p.2 * c)
theorem lin_scl (φ : Ex → Rat) (c : Rat) : ∀ a : PM, lin φ (sclM c a) = lin φ a * c
  | [] => by show (0 : Rat) = 0 * c; grind
  | p :: r => by
    show p.2 * c * φ p.1 + lin φ (sclM c r) = (p.2 * φ p.1 + lin φ r) * c
    rw [lin_scl φ c r]
    grind
theorem Eqp.scl {a b : PM} (h : Eqp a b) (c : Rat) : Eqp (sclM c a) (sclM c b) := fun φ => by rw [lin_scl, lin_scl, h]
def mon : Ex → List Rat → Rat
  | k :: e, x :: p => x ^ k * mon e p
  | _, _ => 1
def ev (p : List Rat) (m : PM) : Rat := lin (fun e => mon e p) m
theorem mon_add : ∀ (e f : Ex) (p : List Rat), e.length = p.length → f.length = p.length → mon (plE e f) p = mon e p * mon f p
  | [], [], [], _, _ => by show (1 : Rat) = 1 * 1; grind
  | [], _ :: _, [], _, k => nomatch k
  | _ :: _, [], [], h, _ => nomatch h
  | i :: e, j :: f, x :: p, h, k => by
    show x ^ (i + j) * mon (plE e f) p = x ^ i * mon e p * (x ^ j * mon f p)
    rw [mon_add e f p (by simpa using h) (by simpa using k)]
    grind
theorem ev_mul {n E D B F C G : Nat} {a b : PM} {p : List Rat} (ha : PB n E D B a) (hb : PB n F G C b) (hp : p.length = n) : ev p (mulM a b) = ev p a * ev p b := by
  unfold ev
  rw [lin_mul, ← lin_mulr]
  refine lin_congr fun x hx => ?_
  have e : ∀ y ∈ b, mon (plE x.1 y.1) p = mon y.1 p * mon x.1 p := fun y hy => by
    rw [mon_add _ _ _ ((ha x hx).1.trans hp.symm) ((hb y hy).1.trans hp.symm)]
    grind
  rw [lin_congr (m := b) (φ := fun f => mon (plE x.1 f) p) (ψ := fun f => mon f p * mon x.1 p) e, lin_mulr]
  grind
theorem PB.mul {n E D B F C G : Nat} {a b : PM} (ha : PB n E D B a) (hb : PB n F G C b) : PB n (E + F) (D * G) (B * C) (mulM a b) := fun p hp => by
  obtain ⟨x, hx, hp⟩ := List.mem_flatMap.mp hp
  obtain ⟨y, hy, rfl⟩ := List.mem_map.mp hp
  refine ⟨?_, fun k hk => ?_, (ha x hx).2.2.mul (hb y hy).2.2⟩
  · show (plE x.1 y.1).length = n
    unfold plE
    rw [List.length_zipWith, (ha x hx).1, (hb y hy).1, Nat.min_self]
  · obtain ⟨i, hi⟩ := List.mem_iff_getElem?.mp hk
    have hi' : (plE x.1 y.1)[i]? = some k := hi
    unfold plE at hi'
    rw [List.getElem?_zipWith] at hi'
    cases h1 : x.1[i]? with
    | none => rw [h1] at hi'; exact nomatch hi'
    | some u =>
      cases h2 : y.1[i]? with
      | none => rw [h1, h2] at hi'; exact nomatch hi'
      | some v =>
        rw [h1, h2] at hi'
        have e : u + v = k := Option.some.inj hi'
        have := (ha x hx).2.1 u (List.mem_of_getElem? h1)
        have := (hb y hy).2.1 v (List.mem_of_getElem? h2)
        omega
theorem PB.scl {n E D B : Nat} {a : PM} (ha : PB n E D B a) : PB n E D B (sclM (-1) a) := fun p hp => by
  obtain ⟨x, hx, rfl⟩ := List.mem_map.mp hp
  refine ⟨(ha x hx).1, (ha x hx).2.1, ?_⟩
  show Sz D B (x.2 * -1)
  rw [Rat.mul_neg, Rat.mul_one]
  exact (ha x hx).2.2.neg
end AL
set_option Elab.async false
set_option linter.all false
set_option maxRecDepth 100000
/-! dict(pairs) where the keys are tuples, all unlike. -/
namespace AL
open PySem PySem.W PySem.Spec PyProof.Rows L2
theorem stored_all {κ : Type} [DecidableEq κ] : ∀ (ps xs : List (κ × Addr × Value)), ((xs ++ ps).map (·.1)).Nodup → storedAllH xs ps = xs ++ ps
  | [], xs, _ => by rw [List.append_nil]; rfl
  | p :: ps, xs, h => by
    have no : atKey xs p.1 = none := by
      unfold atKey
      rw [Option.map_eq_none_iff, List.find?_eq_none]
      intro x hx z
      rw [List.map_append, List.nodup_append] at h
      exact h.2.2 _ (List.mem_map.mpr ⟨x, hx, rfl⟩) p.1 (by simp) (of_decide_eq_true z)
    have e : storedAllH xs (p :: ps) = storedAllH (storedH xs p.1 p.2.1 p.2.2) ps := rfl
    rw [e, storedH_new no, stored_all ps _ (by rw [List.append_assoc]; exact h), List.append_assoc]
    rfl
section
variable {X : Cx} {pins : List (Addr × Obj)} {σ : L2.St} {H : Hp} {s : Shared}
/-- the pairs as they lie -/
theorem lie_pairs (I : Inv X pins σ H s) {ps : List Addr} {kvs : List (List L2.Key × V)} (h : Paired (fun p (kv : List L2.Key × V) => ∃ b, H p = some (.tup [.ref b, kv.2]) ∧ H b = some (.tup (kv.1.map kV))) ps kvs) :
    ∃ xs : List (List L2.Key × Addr × Value), KT H kvs xs ∧ xs.length = ps.length ∧ ∀ (j : Nat) (x : List L2.Key × Addr × Value), xs[j]? = some x → ∃ p, ps[j]? = some p ∧ PairAt s.heap p (.ref x.2.1) x.2.2 := by
  induction h with
  | nil => exact ⟨[], .nil, rfl, fun j x e => by simp at e⟩
  | @cons p kv ps kvs h t ih =>
    obtain ⟨xs, r, l, q⟩ := ih
    obtain ⟨b, h1, h2⟩ := h
    obtain ⟨_, its, rv, o, ho, hc, n, hd⟩ := (show ObjOk X.prog X.w H s.heap p (.tup [.ref b, kv.2]) from I.hok p _ h1)
    obtain ⟨u, v, rfl, ru, rv2⟩ := vals2 rv
    cases ru
    refine ⟨(kv.1, b, v) :: xs, .cons ⟨rfl, h2, rv2⟩ r, by rw [List.length_cons, List.length_cons, l], fun j x e => ?_⟩
    cases j with
    | zero =>
      cases Option.some.inj e
      exact ⟨p, rfl, .inl ⟨o, ho, hc, n, hd⟩⟩
    | succ j =>
      obtain ⟨p2, e1, e2⟩ := q j x (by simpa using e)
      exact ⟨p2, by simpa using e1, e2⟩
theorem kt_keys {kvs : List (List L2.Key × V)} {xs : List (List L2.Key × Addr × Value)} (r : KT H kvs xs) : kvs.map (·.1) = xs.map (·.1) := by
  induction r with
  | nil => rfl
  | cons h t ih => rw [List.map_cons, List.map_cons, h.1, ih]
end
section
variable {X : Cx}
/-- dict(l), l a list of pairs (tuple, value) with keys all unlike -/
def rDictT (K : PySem.W.Frag) : List V → Hp → VK → Prop := fun vs H Q => ∃ (a : Addr) (ps : List Addr) (kvs : List (List L2.Key × V)), vs = [.ref a] ∧ H a = some (.lst (ps.map V.ref)) ∧ (kvs.map (·.1)).Nodup ∧
  Paired (fun p (kv : List L2.Key × V) => ∃ b, H p = some (.tup [.ref b, kv.2]) ∧ H b = some (.tup (kv.1.map kV))) ps kvs ∧ ∀ p, H p = none → Q (.ref p) (upd H p (.dT kvs))
theorem cr_dictT (hc : X.calm = true) (hu : X.A.units + 64 < cLine) : CallR X (.type "dict") (rDictT X.K) := by
  intro pins s σ H vs us Q I r h
  obtain ⟨a, ps, kvs, rfl, ha, nd, hp, q⟩ := h
  obtain rfl := Vals.ref1 r
  obtain ⟨its, rv, pl, hz⟩ := I.list (SqL.of ha)
  cases refs_at rv
  rw [List.length_map] at hz
  obtain ⟨xs, kt, hl, hx⟩ := lie_pairs I hp
  obtain ⟨o, n, ho, hcl, hd, hdat⟩ := pl
  have P := PairArg.list (prog := X.prog) (w := X.w) a (ps.map Value.ref).toArray (fun j => ps.getD j 0) (xs.map fun x => (Value.ref x.2.1, x.2.2))
  have kis : ∀ h' : Heap, (∀ b o, s.heap.get? b = some o → h'.get? b = some o) → ∀ x ∈ xs, (KDT X).is h' x.1 x.2.1 := fun h' k x hx => by
    obtain ⟨j, hj⟩ := List.mem_iff_getElem?.mp hx
    obtain ⟨e, _, r1, r2, _⟩ := DX.pget kt hj
    have r2' : H x.2.1 = some (.tup (x.1.map kV)) := r1 ▸ r2
    obtain ⟨ok, ik, nk, k1, k2, k3, k4⟩ := (show IsTupleKey (mixKind X.prog X.w) s.heap x.1 x.2.1 from key_of I.hok r2')
    exact ⟨ok, ik, nk, k _ _ k1, k2, k3, k4⟩
  refine call_dict_pairsH (knd := KDT X) (ps := xs) P (I.ok.hd hc) (by show X.A.units + 1 + 1 < cLine; omega) ⟨⟨o, n, ho, hcl, hd, hdat⟩, ?_, fun j k v e => ?_⟩ ⟨(by rw [List.length_map]), fun i key v e => ?_⟩ (fun h' k x hx => kis h' (fun b o z => k b o (Nat.ne_of_lt (Heap.lt_size z)) List.not_mem_nil z) x hx) (by rw [List.length_map, hl]; exact hz) fun h' tk dd kp => ?_
  · rw [List.size_toArray, List.length_map, List.length_map, hl]
  · rw [List.getElem?_map] at e
    cases ex : xs[j]? with
    | none => rw [ex] at e; cases e
    | some x =>
      rw [ex] at e
      cases Option.some.inj e
      obtain ⟨p, e1, e2⟩ := hx j x ex
      have e3 : ps.getD j 0 = p := by rw [List.getD, e1]; rfl
      dsimp only
      rw [e3]
      exact ⟨by rw [List.getElem?_toArray, List.getElem?_map, e1]; rfl, e2⟩
  · have e' : (xs.map fun x => (Value.ref x.2.1, x.2.2))[i]? = some (key, v) := e
    rw [List.getElem?_map] at e'
    cases ex : xs[i]? with
    | none => rw [ex] at e'; cases e'
    | some x =>
      rw [ex] at e'
      cases Option.some.inj e'
      exact ⟨x.1, x.2.1, rfl, rfl⟩
  · have hm : (s.heap.objs.size == sysModules) = false := beq_eq_false_iff_ne.mpr (Nat.ne_of_gt I.big)
    rw [stored_all xs [] (by rw [List.nil_append, ← kt_keys kt]; exact nd), List.nil_append] at dd
    obtain ⟨od, es, ep, d1, d2, d3, d4, _, d6⟩ := dd
    have nw : H s.heap.objs.size = none := I.hok.fresh (Nat.le_refl _)
    refine ⟨.ref s.heap.objs.size, upd H s.heap.objs.size (.dT kvs), I.laid (t' := tk) (fun b o z => kp b o List.not_mem_nil z) (Nat.le_refl _) ⟨?_, hm, xs, kt.keeps fun b ys z => by rw [upd_ne (ne_of_none z nw)]; exact z, od, es, ep, d1, d2, d3, d4, d6⟩, rfl, q _ nw⟩
    rw [Paired.length kt, hl]; exact hz
end
end AL
set_option Elab.async false
set_option linter.all false
set_option maxRecDepth 100000
/-! Loops over a list or a tuple alike; isinstance(x, (list, tuple)); a statement that is not reached. -/
namespace AL
open PySem PySem.Spec PyProof.Rows L2
def SqB (K : PySem.W.Frag) (H : Hp) (a : Addr) (xs : List V) : Bool → Prop
  | true => SqL K H a xs
  | false => SqT K H a xs
def ItB (K : PySem.W.Frag) (a : Addr) : Bool → It
  | true => Itl K a
  | false => Itt K a
def iSeq (K : PySem.W.Frag) (tl : TE) : TI := fun σ H R => tl σ H fun x H1 => ∃ a k, x = .ref a ∧ (∃ xs, SqB K H1 a xs k) ∧ R (ItB K a k) H1
theorem pi_seq {X : Cx} {tg l : Expr} {tl : TE} (hl : PE X l tl) : PI X tg l (iSeq X.K tl) := by
  refine ⟨fun pins s σ H R I h => thn (hl.run pins s σ H _ I h) fun v t ⟨x, H1, J, r, a, k, e, ⟨xs, hs⟩, q⟩ => ?_⟩
  subst e
  cases r
  have fp : ∀ b ∈ [t.heap.objs.size], FpOk X pins H1 b := fun b hb => by
    rw [List.mem_singleton] at hb
    rw [hb]
    exact J.fpOk (Nat.le_refl _) (J.hok.fresh (Nat.le_refl _))
  have kp : ∀ o : Obj, Inv X pins σ H1 { t with heap := t.heap.push o, toks := t.toks } := fun o => J.kept (t' := t.toks) fun b u z => Heap.get?_push_of_some _ z
  cases k with
  | true =>
    obtain ⟨its, _, p, _⟩ := J.list hs
    exact wpAny_pyIter_list p.isList ⟨_, _, _, _, H1, rfl, kp _, turn_list a _, ⟨_, Heap.get?_push_size _ rfl, rfl, rfl⟩, fp, q⟩
  | false =>
    obtain ⟨its, _, p, _⟩ := J.tuple hs
    exact wpAny_pyIter_tuple (show t.heap.IsTuple a its.toArray from p) ⟨_, _, _, _, H1, rfl, kp _, turn_tuple a _, ⟨_, Heap.get?_push_size _ rfl, rfl, rfl⟩, fp, q⟩
theorem for_seq {K : PySem.W.Frag} {k : Bool} {a : Addr} {xs : List V} {g : TG} {tb : TS} {D : Ends} {σ : L2.St} {H : Hp} (Pv : Nat → L2.St → Hp → Prop) (h0 : Pv 0 σ H) (hl : ∀ i σ H, i ≤ xs.length → Pv i σ H → SqB K H a xs k)
    (hs : ∀ i x σ H, xs[i]? = some x → Pv i σ H → g x σ H fun σ2 H2 => tb { D with nx := Pv (i + 1), ct := Pv (i + 1), bk := D.nx } σ2 H2) (hd : ∀ σ H, Pv xs.length σ H → D.nx σ H) :
    ∃ W : Nat → Nat → L2.St → Hp → Prop, (∃ m, W 0 m σ H) ∧ ∀ i m σ H, W i m σ H →
      ((ItB K a k).stop i H ∧ D.nx σ H) ∨ ((ItB K a k).go i H ∧ ∃ N : L2.St → Hp → Prop, (∀ σ' H', N σ' H' → ∃ m', m' < m ∧ W (i + 1) m' σ' H') ∧ ∀ x H', (ItB K a k).yld i H x H' → g x σ H' fun σ2 H2 => tb { D with nx := N, ct := N, bk := D.nx } σ2 H2) := by
  cases k with
  | true => exact for_list Pv h0 hl hs hd
  | false => exact for_tup Pv h0 hl hs hd
theorem lc_seq {K : PySem.W.Frag} {k : Bool} {a : Addr} {xs : List V} {g : TG} {tt : TT} {te : TE} {vs : List Nat} {σ : L2.St} {H1 : Hp} {D : Addr} {Qd : Hp → Prop} (Pv : Nat → Hp → Prop) (h0 : Pv 0 (upd H1 D (.lst []))) (hl : ∀ i H, i ≤ xs.length → Pv i H → SqB K H a xs k)
    (hs : ∀ i x H, xs[i]? = some x → Pv i H → g x (wipe σ vs) H fun σ2 H2 => wipe σ2 vs = wipe σ vs ∧ tt σ2 H2 fun b H3 =>
      if b = true then te σ2 H3 fun y H4 => ∃ acc, H4 D = some (.lst acc) ∧ acc.length < sizeLine ∧ Pv (i + 1) (upd H4 D (.lst (acc ++ [y]))) else Pv (i + 1) H3) (hd : ∀ H, Pv xs.length H → Qd H) :
    ∃ W : Nat → Nat → Hp → Prop, (∃ m, W 0 m (upd H1 D (.lst []))) ∧ ∀ i m H, W i m H →
      ((ItB K a k).stop i H ∧ Qd H) ∨ ((ItB K a k).go i H ∧ ∃ Nx : Hp → Prop, (∀ H', Nx H' → ∃ m', m' < m ∧ W (i + 1) m' H') ∧ ∀ x H', (ItB K a k).yld i H x H' → g x (wipe σ vs) H' fun σ2 H2 => wipe σ2 vs = wipe σ vs ∧ tt σ2 H2 fun b H3 =>
        if b = true then te σ2 H3 fun y H4 => ∃ acc, H4 D = some (.lst acc) ∧ acc.length < sizeLine ∧ Nx (upd H4 D (.lst (acc ++ [y]))) else Nx H3) := by
  cases k with
  | true => exact lc_list Pv h0 hl hs hd
  | false => exact lc_tup Pv h0 hl hs hd
theorem ps_never {X : Cx} {st : Stmt} : PS X st (fun _ _ _ => False) := ⟨fun _ _ _ _ _ _ h => h.elim⟩
end AL
set_option Elab.async false
set_option maxRecDepth 100000
set_option exponentiation.threshold 70000
/-! Polynomials in the heap. -/
namespace AL
open PySem PySem.Spec PyProof.Rows L2
def KeyAt (H : Hp) (k : Addr) (e : Ex) : Prop := H k = some (.tup ((ki e).map V.int))
def EntAt (H : Hp) (b : Addr) (e : Ex × Rat) : Prop := ∃ k r, H b = some (.tup [.ref k, .ref r]) ∧ KeyAt H k e.1 ∧ RQ H r e.2
/-- a term as it may be passed -/
def TermV (K : PySem.W.Frag) (H : Hp) (b : Addr) (e : Ex × Rat) : Prop := ∃ (k : Addr) (v : V) (p : Int) (q : Nat), H b = some (.tup [.ref k, v]) ∧ KeyAt H k e.1 ∧ RatV K H v (some (p, q)) ∧ Mid p q ∧ mkRat p q = e.2
abbrev DRow (H : Hp) (k : List Int × Addr) (e : Ex × Rat) : Prop := k.1 = ki e.1 ∧ RQ H k.2 e.2
def DicM (H : Hp) (a : Addr) (m : PM) : Prop := ∃ ks : List (List Int × Addr), H a = some (.dT (ks.map entI)) ∧ Paired (DRow H) ks m
theorem paired_mono {α β : Type} {R S : α → β → Prop} {as : List α} {bs : List β} (h : Paired R as bs) (k : ∀ a b, R a b → S a b) : Paired S as bs := by
  induction h with
  | nil => exact .nil
  | cons h _ ih => exact .cons (k _ _ h) ih
theorem EntAt.same {H H' : Hp} {b : Addr} {e : Ex × Rat} (h : EntAt H b e) (s : Same H H') : EntAt H' b e := let ⟨k, r, h1, h2, h3⟩ := h; ⟨k, r, s _ _ h1, s _ _ h2, s _ _ h3⟩
theorem TermV.same {K : PySem.W.Frag} {H H' : Hp} {b : Addr} {e : Ex × Rat} (h : TermV K H b e) (s : Same H H') : TermV K H' b e := let ⟨k, v, p, q, h1, h2, h3, h4⟩ := h; ⟨k, v, p, q, s _ _ h1, s _ _ h2, ratV_same h3 s, h4⟩
theorem EntAt.term {K : PySem.W.Frag} {H : Hp} {b : Addr} {e : Ex × Rat} (h : EntAt H b e) (m : Mid e.2.num e.2.den) : TermV K H b e :=
  let ⟨k, r, h1, h2, h3⟩ := h; ⟨k, .ref r, e.2.num, e.2.den, h1, h2, .pair h3 (low_rat _).1, m, Rat.mkRat_self _⟩
theorem DicM.same {H H' : Hp} {a : Addr} {m : PM} (h : DicM H a m) (s : Same H H') : DicM H' a m := let ⟨ks, h1, h2⟩ := h; ⟨ks, s _ _ h1, paired_mono h2 fun _ _ z => ⟨z.1, s _ _ z.2⟩⟩
theorem DicM.tup {H H' : Hp} {a : Addr} {m : PM} (h : DicM H a m) (ha : H' a = H a) (s : ∀ b ys, H b = some (.tup ys) → H' b = some (.tup ys)) : DicM H' a m := let ⟨ks, h1, h2⟩ := h; ⟨ks, by rw [ha]; exact h1, paired_mono h2 fun _ _ z => ⟨z.1, s _ _ z.2⟩⟩
theorem DicM.nil {H : Hp} {a : Addr} (h : H a = some (.dT [])) : DicM H a [] := ⟨[], h, .nil⟩
abbrev keyL (e : Ex) : List L2.Key := (ki e).map Sum.inl
theorem keyL_inj {a b : Ex} (h : keyL a = keyL b) : a = b := ki_inj (inl_inj _ _ h)
theorem keyAt_L {H : Hp} {k : Addr} {e : Ex} (h : KeyAt H k e) : H k = some (.tup ((keyL e).map kV)) := by rw [kV_ints]; exact h
theorem row_get {H : Hp} {e : Ex} : ∀ {ks : List (List Int × Addr)} {m : PM}, Paired (DRow H) ks m → (valV (ks.map entI) (keyL e) = none ∧ getM m e = none) ∨ ∃ r x, valV (ks.map entI) (keyL e) = some (.ref r) ∧ getM m e = some x ∧ RQ H r x
  | _, _, .nil => .inl ⟨rfl, rfl⟩
  | _, _, .cons (a := k) (b := p) (l₁ := ks) (l₂ := m) h t => by
    by_cases z : p.1 = e
    · refine .inr ⟨k.2, p.2, ?_, ?_, h.2⟩
      · rw [List.map_cons, valV_pos (show (entI k).1 = keyL e by show k.1.map Sum.inl = keyL e; rw [h.1, z])]
      · unfold getM; rw [List.find?_cons, decide_eq_true z]; rfl
    · have nz : ¬ (entI k).1 = keyL e := fun w => z (keyL_inj (by rw [← w]; show keyL p.1 = k.1.map Sum.inl; rw [h.1]))
      have g : getM (p :: m) e = getM m e := by unfold getM; rw [List.find?_cons, decide_eq_false z]
      rw [List.map_cons, valV_neg nz, g]
      exact row_get t
/-- d.get(key, zero) -/
theorem dic_get {H : Hp} {a k z : Addr} {m : PM} {e : Ex} (D : DicM H a m) (hk : KeyAt H k e) (hz : RQ H z 0) : ∃ o r, DGet H a (.ref k) o ∧ o.getD (.ref z) = .ref r ∧ RQ H r ((getM m e).getD 0) := by
  obtain ⟨ks, h1, h2⟩ := D
  rcases row_get (e := e) h2 with ⟨v, g⟩ | ⟨r, x, v, g, q⟩
  · exact ⟨_, z, .t h1 (keyAt_L hk), by rw [v]; rfl, by rw [g]; exact hz⟩
  · exact ⟨_, r, .t h1 (keyAt_L hk), by rw [v]; rfl, by rw [g]; exact q⟩
/-- d[key] -/
theorem dic_at {H : Hp} {a k : Addr} {m : PM} {e : Ex} {x : Rat} (D : DicM H a m) (hk : KeyAt H k e) (h : getM m e = some x) : ∃ r, DGet H a (.ref k) (some (.ref r)) ∧ RQ H r x := by
  obtain ⟨ks, h1, h2⟩ := D
  rcases row_get (e := e) h2 with ⟨v, g⟩ | ⟨r, y, v, g, q⟩
  · rw [h] at g; cases g
  · rw [h] at g; cases g
    exact ⟨r, by rw [← v]; exact .t h1 (keyAt_L hk), q⟩
theorem row_put {H : Hp} {e : Ex} {r : Addr} {v : Rat} (hr : RQ H r v) {ks : List (List Int × Addr)} {m : PM} (h : Paired (DRow H) ks m) : ∃ ls : List (List Int × Addr), putK (ks.map entI) (keyL e) (.ref r) = ls.map entI ∧ Paired (DRow H) ls (putM m e v) := by
  have any : (ks.map entI).any (fun kv => decide (kv.1 = keyL e)) = hasM m e := by
    rw [valV_any, has_get]
    rcases row_get (e := e) h with ⟨w, g⟩ | ⟨r, x, w, g, q⟩
    · rw [w, g]; rfl
    · rw [w, g]; rfl
  unfold putK putM
  rw [any]
  by_cases z : hasM m e = true
  · rw [if_pos z, if_pos z]
    refine ⟨ks.map fun k => if k.1 = ki e then (k.1, r) else k, ?_, ?_⟩
    · rw [List.map_map, List.map_map]
      refine List.map_congr_left fun k _ => ?_
      show (if (entI k).1 = keyL e then ((entI k).1, V.ref r) else entI k) = entI (if k.1 = ki e then (k.1, r) else k)
      by_cases w : k.1 = ki e
      · rw [if_pos w, if_pos (show k.1.map Sum.inl = keyL e by rw [w])]
      · rw [if_neg w, if_neg (fun u => w (inl_inj _ _ u))]
    · clear z any
      induction h with
      | nil => exact .nil
      | @cons k p ks m hd _ ih =>
        rw [List.map_cons, List.map_cons]
        refine .cons ?_ ih
        by_cases w : p.1 = e
        · rw [if_pos w, if_pos (by rw [hd.1, w])]
          exact ⟨hd.1, hr⟩
        · rw [if_neg w, if_neg (fun u => w (ki_inj (by rw [← hd.1, u])))]
          exact hd
  · rw [if_neg z, if_neg z]
    refine ⟨ks ++ [(ki e, r)], by rw [List.map_append]; rfl, ?_⟩
    clear z any
    induction h with
    | nil => exact .cons ⟨rfl, hr⟩ .nil
    | cons hd _ ih => exact .cons hd ih
theorem DicM.len {H : Hp} {a : Addr} {m : PM} (D : DicM H a m) : ∃ kvs, H a = some (.dT kvs) ∧ kvs.length = m.length := let ⟨ks, h1, h2⟩ := D; ⟨_, h1, by rw [List.length_map]; exact Paired.length h2⟩
/-- d[key] = ratio -/
theorem dic_put {H : Hp} {a k r : Addr} {m : PM} {e : Ex} {v : Rat} (D : DicM H a m) (hk : KeyAt H k e) (hr : RQ H r v) (few : m.length < sizeLine) : ∃ o, DPut H a (.ref k) (.ref r) (upd H a o) ∧ DicM (upd H a o) a (putM m e v) := by
  obtain ⟨ks, h1, h2⟩ := D
  obtain ⟨ls, e1, e2⟩ := row_put (e := e) hr h2
  refine ⟨.dT (putK (ks.map entI) (keyL e) (.ref r)), .t h1 (keyAt_L hk) (by rw [List.length_map, Paired.length h2]; exact few), ls, by rw [upd_same, e1], paired_mono e2 fun k p z => ⟨z.1, ?_⟩⟩
  have ne : k.2 ≠ a := fun w => by have := z.2; rw [w] at this; rw [show H a = _ from this] at h1; cases h1
  exact Eq.trans (upd_ne ne) z.2
/-- in its order, nothing 0 -/
structure Can (n E D B : Nat) (m : PM) : Prop where
  asc : Asc m
  nz : NZ m
  pb : PB n E D B m
/-- a Poly -/
def PolyAt (CP : Addr) (H : Hp) (x : Addr) (n : Nat) (m : PM) : Prop := ∃ dx T ts, H x = some (.ins CP dx [("size", .int (n : Int)), ("terms", .ref T)]) ∧ H T = some (.tup (ts.map V.ref)) ∧ Paired (EntAt H) ts m
theorem PolyAt.same {CP : Addr} {H H' : Hp} {x : Addr} {n : Nat} {m : PM} (h : PolyAt CP H x n m) (s : Same H H') : PolyAt CP H' x n m := let ⟨dx, T, ts, h1, h2, h3⟩ := h; ⟨dx, T, ts, s _ _ h1, s _ _ h2, paired_mono h3 fun _ _ z => z.same s⟩
/-- what sorted tells -/
theorem sorted_pm {H : Hp} {ks : List (List Int × Addr)} {m : PM} {ps : List (Addr × List Int × Addr)} (h : Paired (DRow H) ks m) (pm : (ps.map (·.2)).Perm ks) : ∃ m' : PM, m'.Perm m ∧ Paired (DRow H) (ps.map (·.2)) m' := by
  generalize ps.map (·.2) = ls at pm
  induction pm generalizing m with
  | nil => cases h; exact ⟨[], .nil, .nil⟩
  | cons x p ih =>
    cases h with
    | cons hd tl =>
      obtain ⟨m', p1, p2⟩ := ih tl
      exact ⟨_ :: m', p1.cons _, .cons hd p2⟩
  | swap x y l =>
    cases h with
    | cons hd tl =>
      cases tl with
      | cons hd2 tl2 => exact ⟨_, List.Perm.swap _ _ _, .cons hd2 (.cons hd tl2)⟩
  | trans p1 p2 i1 i2 =>
    obtain ⟨m', q1, q2⟩ := i2 h
    obtain ⟨m'', q3, q4⟩ := i1 q2
    exact ⟨m'', q3.trans q1, q4⟩
theorem asc_of {H : Hp} {n E D B : Nat} {ls : List (List Int × Addr)} {m : PM} (h : Paired (DRow H) ls m) (o : ls.Pairwise fun e f => TS.code 128 e.1 ≤ TS.code 128 f.1) (nd : (m.map (·.1)).Nodup) (b : PB n E D B m) (hE : E ≤ 80) : Asc m := by
  induction h with
  | nil => exact .nil
  | @cons k p ks m hd tl ih =>
    obtain ⟨o1, o2⟩ := List.pairwise_cons.mp o
    rw [List.map_cons, List.nodup_cons] at nd
    refine List.pairwise_cons.mpr ⟨fun q hq => ?_, ih o2 nd.2 (b.sub fun _ z => List.mem_cons_of_mem _ z)⟩
    obtain ⟨i, hi⟩ := List.mem_iff_getElem?.mp hq
    obtain ⟨k2, e1, e2⟩ := DX.pget tl hi
    have le := o1 k2 (List.mem_of_getElem? e1)
    rw [hd.1, e2.1] at le
    have b1 := b p (List.mem_cons_self ..)
    have b2 := b q (List.mem_cons_of_mem _ hq)
    have ne : cd p.1 ≠ cd q.1 := fun z => nd.1 (List.mem_map.mpr ⟨q, hq, (ki_inj (code_inj (by rw [len_ki, len_ki, b1.1, b2.1]) (bd_ki fun k hk => Nat.le_trans (b1.2.1 k hk) hE) (bd_ki fun k hk => Nat.le_trans (b2.2.1 k hk) hE) z)).symm⟩)
    have le' : cd p.1 ≤ cd q.1 := le
    omega
end AL
namespace AL
open PySem PySem.Spec PyProof.Rows L2
theorem prd_get {α β : Type} {R : α → β → Prop} : ∀ {as : List α} {bs : List β} {i : Nat} {a : α}, Paired R as bs → as[i]? = some a → ∃ b, bs[i]? = some b ∧ R a b
  | _, _, _, _, .nil, h => by simp at h
  | _, _, 0, _, .cons (b := b) r _, h => by
    cases Option.some.inj h
    exact ⟨b, rfl, r⟩
  | _, _, i + 1, _, .cons _ t, h => prd_get (i := i) t (by simpa using h)
theorem prd_len {α β : Type} {R : α → β → Prop} {as : List α} {bs : List β} (h : Paired R as bs) : as.length = bs.length := Paired.length h
theorem prd_snoc {α β : Type} {R : α → β → Prop} {as : List α} {bs : List β} {a : α} {b : β} (h : Paired R as bs) (r : R a b) : Paired R (as ++ [a]) (bs ++ [b]) := by
  induction h with
  | nil => exact .cons r .nil
  | cons q _ ih => exact .cons q ih
theorem map_ref {ts : List Addr} {i : Nat} {x : V} (h : (ts.map V.ref)[i]? = some x) : ∃ b, ts[i]? = some b ∧ x = .ref b := by
  rw [List.getElem?_map] at h
  cases e : ts[i]? with
  | none => rw [e] at h; cases h
  | some b => rw [e] at h; exact ⟨b, rfl, (Option.some.inj h).symm⟩
theorem sz_zero {D B : Nat} (h : 0 < D) : Sz D B 0 := ⟨h, 0, Nat.zero_le _, by simp⟩
theorem PB.getD {n E D B : Nat} {m : PM} (h : PB n E D B m) (h0 : 0 < D) (e : Ex) : Sz D B ((getM m e).getD 0) := by
  cases z : getM m e with
  | none => exact sz_zero h0
  | some x => exact (h _ (get_mem z)).2.2
theorem get_of {m : PM} {e : Ex} {x : Rat} (nd : (m.map (·.1)).Nodup) (h : (e, x) ∈ m) : getM m e = some x := by
  induction m with
  | nil => cases h
  | cons p r ih =>
    rw [List.map_cons, List.nodup_cons] at nd
    unfold getM
    rw [List.find?_cons]
    by_cases w : p.1 = e
    · rw [decide_eq_true w]
      rcases List.mem_cons.mp h with z | z
      · rw [← z]; rfl
      · exact absurd (List.mem_map.mpr ⟨_, z, w.symm⟩) nd.1
    · rw [decide_eq_false w]
      rcases List.mem_cons.mp h with z | z
      · exact absurd (by rw [← z]) w
      · exact ih nd.2 z
/-- the ratio at a key, as keys -/
def MV (m : PM) (y : List Int) : List L2.Key := [Sum.inl ((getM m (y.map Int.toNat)).getD 0).num, Sum.inl (((getM m (y.map Int.toNat)).getD 0).den : Int)]
theorem ki_nat : ∀ e : Ex, (ki e).map Int.toNat = e
  | [] => rfl
  | k :: r => by
    show (k : Int).toNat :: (ki r).map Int.toNat = k :: r
    rw [ki_nat r, Int.toNat_natCast]
theorem rows_M {H : Hp} {n E D B : Nat} {ks : List (List Int × Addr)} {m : PM} (h : Paired (DRow H) ks m) (nd : (m.map (·.1)).Nodup) (pb : PB n E D B m) (hE : E ≤ 80) : ∀ k ∈ ks, H k.2 = some (.tup ((MV m k.1).map kV)) ∧ k.1.length = n ∧ TS.Bd 128 k.1 := by
  intro k hk
  obtain ⟨i, hi⟩ := List.mem_iff_getElem?.mp hk
  obtain ⟨p, e1, e2, e3⟩ := prd_get h hi
  have hp := List.mem_of_getElem? e1
  obtain ⟨b1, b2, b3⟩ := pb p hp
  refine ⟨?_, by rw [e2, len_ki, b1], by rw [e2]; exact bd_ki fun k hk => Nat.le_trans (b2 k hk) hE⟩
  unfold MV
  rw [e2, ki_nat, get_of nd hp]
  exact e3
theorem join_pb {n E D B : Nat} {l : PM} (pb : PB n E D B l) (i : Nat) (hi : i ≤ l.length) : PB n E D (B * i) (joinM [] (l.take i)) := by
  have z := PB.join (m := []) (B := 0) (l := l.take i) (fun p hp => nomatch hp) (pb.sub fun p hp => List.mem_of_mem_take hp)
  rw [List.length_take, Nat.min_eq_left hi, Nat.zero_add] at z
  exact z
theorem low6 {x : Nat} (h : x < 2 ^ 5999) : x < 2 ^ 6000 := Nat.lt_trans h (Nat.pow_lt_pow_right (by decide) (by decide))
theorem nz_take_true {m : PM} {i : Nat} {p : Ex × Rat} (h : m[i]? = some p) (hp : p.2 ≠ 0) : nzM (m.take (i + 1)) = nzM (m.take i) ++ [p] := by
  unfold nzM
  rw [List.take_add_one, h, List.filter_append]
  simp [hp]
theorem nz_take_false {m : PM} {i : Nat} {p : Ex × Rat} (h : m[i]? = some p) (hp : p.2 = 0) : nzM (m.take (i + 1)) = nzM (m.take i) := by
  unfold nzM
  rw [List.take_add_one, h, List.filter_append]
  simp [hp]
theorem num_zero {x : Rat} : x.num = 0 ↔ x = 0 := Rat.num_eq_zero
theorem nz_NZ (m : PM) : NZ (nzM m) := fun _ hp => of_decide_eq_true (List.mem_filter.mp hp).2
theorem nz_asc {m : PM} (h : Asc m) : Asc (nzM m) := List.Pairwise.sublist List.filter_sublist h
theorem nz_len (m : PM) : (nzM m).length ≤ m.length := List.length_filter_le _ _
end AL
namespace AL
open PySem PySem.Spec PyProof.Rows L2
theorem EntAt.tups {H H' : Hp} {b : Addr} {e : Ex × Rat} (h : EntAt H b e) (s : ∀ c ys, H c = some (.tup ys) → H' c = some (.tup ys)) : EntAt H' b e := let ⟨k, r, h1, h2, h3⟩ := h; ⟨k, r, s _ _ h1, s _ _ h2, s _ _ h3⟩
theorem upd_tups {H : Hp} {a : Addr} {o p : HO} (h : H a = some p) (np : ∀ ys, p ≠ .tup ys) : ∀ c ys, H c = some (.tup ys) → upd H a o c = some (.tup ys) := fun c ys z => by
  rw [upd_ne (fun w => by rw [w, h] at z; exact np ys (Option.some.inj z))]
  exact z
theorem perm_can {H : Hp} {n E D B : Nat} {m m' : PM} {ls : List (List Int × Addr)} (pm : m'.Perm m) (h : Paired (DRow H) ls m') (o : ls.Pairwise fun e f => TS.code 128 e.1 ≤ TS.code 128 f.1) (nd : (m.map (·.1)).Nodup) (b : PB n E D B m) (hE : E ≤ 80) :
    Can n E D B (nzM m') ∧ Eqp (nzM m') m ∧ (nzM m').length ≤ m.length := by
  have nd' : (m'.map (·.1)).Nodup := (List.Perm.nodup_iff (pm.map _)).mpr nd
  have b' : PB n E D B m' := b.sub fun p hp => pm.mem_iff.mp hp
  exact ⟨⟨nz_asc (asc_of h o nd' b' hE), nz_NZ _, b'.nz⟩, (nz_eqp m').trans fun φ => lin_perm φ pm, by rw [← pm.length_eq]; exact nz_len m'⟩
end AL
set_option Elab.async false
set_option linter.all false
set_option maxRecDepth 100000
set_option maxHeartbeats 2000000
/-! any(l), l a list of ints. -/
namespace AL
open PySem PySem.Spec PyProof.Rows L2
section
variable {X : Cx}
theorem truth_ints {prog : Program} {w : World} {A : Around} {ks : List Int} {its : List Value} (e : IntsAre its ks) :
    TruthOf prog w A (fun i v => its.toArray[i]? = some v) (fun i => decide (ks.getD i 0 ≠ 0)) := fun i v s Q E hv hq => by
  have hv' : its[i]? = some v := by simpa using hv
  obtain ⟨t, rfl⟩ := IntsAre.int_at e i v hv'
  refine PySem.P.truthy_int ?_
  have hq' : Q (decide (ks.getD i 0 ≠ 0)) s := hq
  have b : ∀ k : Int, (k != 0) = decide (k ≠ 0) := fun k => by
    by_cases z : k = 0
    · rw [z]; rfl
    · rw [decide_eq_true z]; exact bne_iff_ne.mpr z
  rw [b]
  exact hq'
theorem any_rangeI : ∀ ks : List Int, (List.range ks.length).any (fun i => decide (ks.getD i 0 ≠ 0)) = ks.any fun k => decide (k ≠ 0)
  | [] => rfl
  | b :: bs => by
    rw [List.length_cons, List.range_succ_eq_map, List.any_cons, List.any_map, List.any_cons, ← any_rangeI bs]
    all_goals rfl
def rAnyI (K : PySem.W.Frag) : List V → Hp → VK → Prop := fun vs H Q => ∃ (a : Addr) (ks : List Int), vs = [V.ref a] ∧ SqL K H a (ks.map V.int) ∧ Q (.bl (ks.any fun k => decide (k ≠ 0))) H
theorem cr_anyI (hc : X.calm = true) : CallR X (.builtin "any") (rAnyI X.K) := by
  intro pins s σ H vs us Q I r h
  obtain ⟨a, ks, rfl, hs, q⟩ := h
  obtain ⟨its, rv, hl, _⟩ := I.list hs
  rw [Vals.ref1 r]
  have hb : IntsAre its ks := by simpa using Vals.ints rv
  have ln := IntsAre.length hb
  refine call_any_walk (iter_any hl.isList fun s₂ e2 st hne => ?_)
  subst e2
  refine ⟨_, _, _, _, _, _, _, rfl, Walks.list (A := X.A.in1) (I.ok.hd hc) _ a hne its.toArray, st, truth_ints hb, fun h' tk hk => ?_⟩
  refine ⟨.bl _, H, I.kept fun b o eo => hk b o (fun hmem => ?_) (Heap.get?_push_of_some _ eo), ?_, q⟩
  · rcases List.mem_cons.mp hmem with e1 | hmem
    · exact absurd (e1 ▸ Heap.lt_size eo) (Nat.lt_irrefl _)
    · cases hmem
  · show Value.bool _ = Value.bool _
    rw [← any_rangeI, List.size_toArray, ln]
end
end AL
set_option Elab.async false
set_option linter.all false
set_option maxRecDepth 100000
set_option maxHeartbeats 2000000
/-! zip(a, b), each of them a list or a tuple. -/
namespace AL
open PySem PySem.Spec PyProof.Rows L2
def itB (h : Heap) (it a : Addr) (i : Nat) : Bool → Prop
  | true => h.IsListIter it a i
  | false => h.IsTupleIter it a i
def sqB (h : Heap) (a : Addr) (its : Array Value) : Bool → Prop
  | true => h.IsList a its
  | false => h.IsTuple a its
theorem drawsB {prog : Program} {w : World} {A : Around} (hh : A.handled = none) (k : Bool) (it a : Addr) (ne : a ≠ it) (its : Array Value) : Draws prog w A it [it, a] its.size (fun i v => its[i]? = some v) (fun i h => itB h it a i k ∧ sqB h a its k) := by
  cases k with
  | true => exact Draws.list hh it a ne its
  | false => exact Draws.tuple hh it a ne its
theorem itB_obj {h : Heap} {it a : Addr} {i : Nat} {k : Bool} (z : itB h it a i k) : ∃ o, h.get? it = some o ∧ ∀ v, o.data ≠ .cell v := by
  cases k with
  | true => obtain ⟨o, e1, _, e2⟩ := z; exact ⟨o, e1, fun v q => by rw [e2] at q; cases q⟩
  | false => obtain ⟨o, e1, _, e2⟩ := z; exact ⟨o, e1, fun v q => by rw [e2] at q; cases q⟩
theorem itB_at {h h' : Heap} {it a : Addr} {i : Nat} {k : Bool} (z : itB h it a i k) (e : ∀ o, h.get? it = some o → h'.get? it = some o) : itB h' it a i k := by
  cases k with
  | true => exact Heap.IsListIter.at z e
  | false => exact Heap.IsTupleIter.at z e
theorem SqB.raw {X : Cx} {pins : List (Addr × Obj)} {σ : L2.St} {H : Hp} {s : Shared} {a : Addr} {xs : List V} {k : Bool} (I : Inv X pins σ H s) (h : SqB X.K H a xs k) : ∃ its : List Value, Vals xs its ∧ sqB s.heap a its.toArray k ∧ a < s.heap.objs.size := by
  cases k with
  | true =>
    obtain ⟨its, rv, p, _⟩ := I.list h
    exact ⟨its, rv, p.isList, p.lt⟩
  | false =>
    obtain ⟨its, rv, p, _⟩ := I.tuple h
    obtain ⟨o, g, _⟩ := id p
    exact ⟨its, rv, p, Heap.lt_size g⟩
theorem SqB.inj {X : Cx} {pins : List (Addr × Obj)} {σ : L2.St} {H : Hp} {s : Shared} {a : Addr} {xs ys : List V} {k : Bool} (I : Inv X pins σ H s) (h : SqB X.K H a xs k) (g : SqB X.K H a ys k) : xs = ys := by
  cases k with
  | true => exact I.list_inj h g
  | false => exact I.tuple_inj h g
def ItzB (K : PySem.W.Frag) (a b : Addr) (k l : Bool) : It :=
  ⟨fun i H => ∃ (xs ys : List V) (x y : V), SqB K H a xs k ∧ SqB K H b ys l ∧ xs[i]? = some x ∧ ys[i]? = some y,
    fun i H v H' => ∃ T x y, v = .ref T ∧ H T = none ∧ H' = upd H T (.tup [x, y]) ∧ (∀ xs, SqB K H a xs k → xs[i]? = some x) ∧ ∀ ys, SqB K H b ys l → ys[i]? = some y,
    fun i H => ∃ xs ys : List V, SqB K H a xs k ∧ SqB K H b ys l ∧ i ≤ xs.length ∧ i ≤ ys.length ∧ (xs.length = i ∨ ys.length = i)⟩
theorem turn_zipB {P : Program} {w : World} {K : PySem.W.Frag} {elts : List Expr} {kk : Nat} {tpos : Pos} {a b z TI TO i1 i2 : Addr} {k l : Bool} (S : ZipSep2 z TI TO i1 i2 [i1, a] [i2, b]) (n1 : a ≠ i1) (n2 : b ≠ i2) :
    Turn P w K (.Tuple elts kk tpos) (ItzB K a b k l) [z, TI, TO, i1, i2] z (fun i h => IsZip h z TI TO .none ∧ IsTupOf2 h TI (.ref i1) (.ref i2) ∧ (∃ x y, IsTupOf2 h TO x y) ∧ itB h i1 a i k ∧ itB h i2 b i l) where
  mem := by simp
  obj := fun i h st c hc => by
    obtain ⟨hz, hTI, ⟨x, y, hTO⟩, g1, g2⟩ := st
    have m : c = z ∨ c = TI ∨ c = TO ∨ c = i1 ∨ c = i2 := by simpa using hc
    rcases m with q | q | q | q | q
    · rw [q]; exact ⟨_, hz, fun v q => nomatch q⟩
    · rw [q]; exact ⟨_, hTI, fun v q => nomatch q⟩
    · rw [q]; exact ⟨_, hTO, fun v q => nomatch q⟩
    · rw [q]; exact itB_obj g1
    · rw [q]; exact itB_obj g2
  keep := fun i h h' st kp => by
    obtain ⟨hz, hTI, ⟨x, y, hTO⟩, g1, g2⟩ := st
    exact ⟨kp z (by simp) _ hz, kp TI (by simp) _ hTI, ⟨x, y, kp TO (by simp) _ hTO⟩, itB_at g1 fun o q => kp i1 (by simp) o q, itB_at g2 fun o q => kp i2 (by simp) o q⟩
  item := by
    intro X hP hw hK hc i pins s σ H E I hf st hg
    subst hP hw hK
    obtain ⟨hz, hTI, ⟨x0, y0, hTO⟩, g1, g2⟩ := st
    obtain ⟨xs, ys, x, y, hqx, hqy, hx, hy⟩ := hg
    obtain ⟨its, rv, p, _⟩ := hqx.raw I
    obtain ⟨jts, rw2, p2, _⟩ := hqy.raw I
    obtain ⟨u, hu, ru⟩ := rv.get hx
    obtain ⟨v, hv, ru2⟩ := rw2.get hy
    have hzl : z < s.heap.objs.size := Heap.lt_size hz
    have lu : i < its.toArray.size := by have := (List.getElem?_eq_some_iff.mp hu).1; simpa using this
    have lv : i < jts.toArray.size := by have := (List.getElem?_eq_some_iff.mp hv).1; simpa using this
    refine wpAny_pyNext_zipD2_item S (drawsB (prog := X.prog) (w := X.w) (A := X.A.in1) (I.ok.hd hc) k i1 a n1 its.toArray) (drawsB (prog := X.prog) (w := X.w) (A := X.A.in1) (I.ok.hd hc) l i2 b n2 jts.toArray) hz hTI hTO ⟨g1, p⟩ ⟨g2, p2⟩ lu lv fun u1 v1 h' tk e1 e2 z' TO' st1 st2 hT hsz hk => ?_
    have eu : u1 = u := by
      have w : its.toArray[i]? = some u := by simpa using hu
      exact (Option.some.inj (w.symm.trans e1)).symm
    have ev : v1 = v := by
      have w : jts.toArray[i]? = some v := by simpa using hv
      exact (Option.some.inj (w.symm.trans e2)).symm
    subst eu ev
    refine ⟨_, rfl, wpAny_letOwnedTupleGo_zip (s := { s with heap := h', toks := tk }) z' fun h'' z'' sb => ?_⟩
    have hT2 : h''.get? s.heap.objs.size = some { cls := .type "tuple", data := .seq #[u1, v1] } := (sb.2 _ (Nat.ne_of_gt hzl)).trans hT
    have new : ObjOk X.prog X.w (upd H s.heap.objs.size (.tup [x, y])) h'' s.heap.objs.size (.tup [x, y]) :=
      ⟨by show 2 ≤ sizeLine; decide, [u1, v1], .cons ru (.cons ru2 .nil), ⟨_, hT2, rfl, _, rfl⟩⟩
    have I1 : Inv X pins σ (upd H s.heap.objs.size (.tup [x, y])) { s with heap := h'', toks := tk } :=
      I.turnedNew (t' := tk) (ch := [z, TI, TO, i1, i2]) (fun c o hb q => (sb.2 c (fun w => hb (by simp [w]))).trans (hk c o (fun w => hb (by simp [w])) (fun w => hb (by simp [w])) (fun w => hb (by simp [w])) (fun w => hb (by simp [w])) q)) hf (Nat.le_refl _) new
    refine ⟨.ref s.heap.objs.size, _, I1, rfl, ⟨_, x, y, rfl, I.hok.fresh (Nat.le_refl _), rfl, fun q hq => by rw [hq.inj I hqx]; exact hx, fun q hq => by rw [hq.inj I hqy]; exact hy⟩, ⟨z'', ?_, ⟨u1, v1, ?_⟩, ?_, ?_⟩, fun c hcm => ?_⟩
    · exact (sb.2 _ S.TIz).trans (hk _ _ S.TIz S.TITO S.TIi1 S.TIi2 hTI)
    · exact (sb.2 _ S.TOz).trans TO'
    · exact itB_at st1.1 fun o q => (sb.2 _ (fun w => S.zf1 (by rw [← w]; simp))).trans q
    · exact itB_at st2.1 fun o q => (sb.2 _ (fun w => S.zf2 (by rw [← w]; simp))).trans q
    · have lt : c < s.heap.objs.size := by
        have m : c = z ∨ c = TI ∨ c = TO ∨ c = i1 ∨ c = i2 := by simpa using hcm
        rcases m with q | q | q | q | q
        · rw [q]; exact hzl
        · rw [q]; exact Heap.lt_size hTI
        · rw [q]; exact Heap.lt_size hTO
        · rw [q]; obtain ⟨_, w, _⟩ := itB_obj g1; exact Heap.lt_size w
        · rw [q]; obtain ⟨_, w, _⟩ := itB_obj g2; exact Heap.lt_size w
      rw [upd_ne (Nat.ne_of_lt lt)]
      exact (hf c hcm).1
  done := by
    intro X hP hw hK hc i pins s σ H E I hf st hg
    subst hP hw hK
    obtain ⟨hz, hTI, ⟨x0, y0, hTO⟩, g1, g2⟩ := st
    obtain ⟨xs, ys, hqx, hqy, le1, le2, hend⟩ := hg
    obtain ⟨its, rv, p, _⟩ := hqx.raw I
    obtain ⟨jts, rw2, p2, _⟩ := hqy.raw I
    have l1 := rv.length
    have l2 := rw2.length
    refine wpAny_pyNext_zipD2_end S (drawsB (prog := X.prog) (w := X.w) (A := X.A.in1) (I.ok.hd hc) k i1 a n1 its.toArray) (drawsB (prog := X.prog) (w := X.w) (A := X.A.in1) (I.ok.hd hc) l i2 b n2 jts.toArray) hz hTI hTO ⟨g1, p⟩ ⟨g2, p2⟩ (by simp; omega) (by simp; omega) (by simp; omega) fun h' tk hk => ⟨rfl, ?_⟩
    exact I.turnedL (t' := tk) (ch := [z, TI, TO, i1, i2]) (fun c o hb q => hk c o (fun w => hb (by simp [w])) (fun w => hb (by simp [w])) (fun w => hb (by simp [w])) (fun w => hb (by simp [w])) q) hf
  self := fun A i s Q E st h => wpAny_pyIter_zip st.1 h
theorem beginsB (k : Bool) (a : Addr) (its : Array Value) : ∃ o, Begins (.ref a) o (fun h => sqB h a its k) ∧ ∀ (h : Heap) (it : Addr), h.get? it = some o → itB h it a 0 k := by
  cases k with
  | true => exact ⟨_, begins_list a its, fun h it e => ⟨_, e, rfl, rfl⟩⟩
  | false => exact ⟨_, begins_tuple a its, fun h it e => ⟨_, e, rfl, rfl⟩⟩
def iZipB (K : PySem.W.Frag) (ta : TA) : TI := fun σ H R => ta σ H fun vs H1 => ∃ a b k l xs ys, vs = [.ref a, .ref b] ∧ SqB K H1 a xs k ∧ SqB K H1 b ys l ∧ R (ItzB K a b k l) H1
theorem pi_zipB {X : Cx} {e e2 : Expr} {ta : TA} {p pos tpos : Pos} {elts : List Expr} {kk : Nat} (hg : Gl X "zip") (hm : X.mg "zip" = none) (ha : PA X [e, e2] ta)
    (hs : starEach [e, e2] X.env = (false, eval e X.env) :: starEach [e2] X.env := by rfl) (hpl : (backTo pos (starEach [e2] X.env)).any (·.1) = false := by rfl) :
    PI X (.Tuple elts kk tpos) (.Call (.Name "zip" p) [e, e2] [] pos) (iZipB X.K ta) := by
  refine ⟨fun pins s σ H R I h => ?_⟩
  refine Call_ (ld_blt I hg hm PyProof.Rows.boot_zip (PyProof.Rows.callWith_type1 (thn (ha.run pos pins s σ H _ I h) fun us s1 ⟨vs, H1, I1, r1, q1⟩ => ?_) hs hpl))
  obtain ⟨a, b, k, l, xs, ys, ex, hqx, hqy, q⟩ := q1
  subst ex
  cases r1 with
  | cons r rr =>
  cases rr with
  | cons r' rr =>
  cases rr
  cases r
  cases r'
  obtain ⟨its, rv, p1, la⟩ := hqx.raw I1
  obtain ⟨jts, rw2, p2, lb⟩ := hqy.raw I1
  obtain ⟨o1, B1, s1i⟩ := beginsB k a its.toArray
  obtain ⟨o2, B2, s2i⟩ := beginsB l b jts.toArray
  refine zip_begins2 B1 B2 p1 p2 fun h' hz hTI hTO hi1 hi2 hsz hk => wpAny_pyIter_zip hz ?_
  have I2 : Inv X pins σ H1 { s1 with heap := h' } := I1.kept (t' := s1.toks) hk
  have S := zip_sep2 (N := s1.heap.objs.size) (fp1 := [a]) (fp2 := [b]) (fun c hc => by rw [List.mem_singleton.mp hc]; exact la) (fun c hc => by rw [List.mem_singleton.mp hc]; exact lb)
  have fresh5 : ∀ c, c ∈ [s1.heap.objs.size + 4, s1.heap.objs.size + 2, s1.heap.objs.size + 3, s1.heap.objs.size, s1.heap.objs.size + 1] → FpOk X pins H1 c := fun c hcm => by
    have m : c = s1.heap.objs.size + 4 ∨ c = s1.heap.objs.size + 2 ∨ c = s1.heap.objs.size + 3 ∨ c = s1.heap.objs.size ∨ c = s1.heap.objs.size + 1 := by simpa using hcm
    have le : s1.heap.objs.size ≤ c := by
      rcases m with z | z | z | z | z <;> rw [z]
      · exact Nat.le_add_right _ _
      · exact Nat.le_add_right _ _
      · exact Nat.le_add_right _ _
      · exact Nat.le_refl _
      · exact Nat.le_add_right _ _
    exact I1.fpOk le (I1.hok.fresh le)
  exact ⟨s1.heap.objs.size + 4, [s1.heap.objs.size + 4, s1.heap.objs.size + 2, s1.heap.objs.size + 3, s1.heap.objs.size, s1.heap.objs.size + 1], _, _, H1, rfl, I2, turn_zipB S (Nat.ne_of_lt la) (Nat.ne_of_lt (Nat.lt_succ_of_lt lb)), ⟨hz, hTI, ⟨_, _, hTO⟩, s1i _ _ hi1, s2i _ _ hi2⟩, fresh5, q⟩
theorem walk_zipB {K : PySem.W.Frag} {a b : Addr} {k l : Bool} {xs ys : List V} {n : Nat} (hn : n = min xs.length ys.length) : Walk (ItzB K a b k l) n (fun H => SqB K H a xs k ∧ SqB K H b ys l) (YPair (fun i => xs[i]?) (fun i => ys[i]?)) := by
  subst hn
  refine ⟨fun i _ hi q => ?_, fun _ q => ⟨xs, ys, q.1, q.2, by omega, by omega, by omega⟩, fun i H v H' _ q y => ?_⟩
  · exact ⟨xs, ys, xs[i], ys[i], q.1, q.2, by simp [show i < xs.length by omega], by simp [show i < ys.length by omega]⟩
  · obtain ⟨T, x, z, g1, g2, g3, g4, g5⟩ := y
    exact ⟨T, x, z, g1, g2, g3, g4 xs q.1, g5 ys q.2⟩
end AL
set_option Elab.async false
set_option linter.all false
set_option maxRecDepth 100000
set_option maxHeartbeats 4000000
/-! zip(a, b, c), each of them a list or a tuple. -/
namespace AL
open PySem PySem.Spec PyProof.Rows L2
def Itz3 (K : PySem.W.Frag) (a b c : Addr) (k l m : Bool) : It :=
  ⟨fun i H => ∃ (xs ys zs : List V) (x y u : V), SqB K H a xs k ∧ SqB K H b ys l ∧ SqB K H c zs m ∧ xs[i]? = some x ∧ ys[i]? = some y ∧ zs[i]? = some u,
    fun i H v H' => ∃ T x y u, v = .ref T ∧ H T = none ∧ H' = upd H T (.tup [x, y, u]) ∧ (∀ xs, SqB K H a xs k → xs[i]? = some x) ∧ (∀ ys, SqB K H b ys l → ys[i]? = some y) ∧ ∀ zs, SqB K H c zs m → zs[i]? = some u,
    fun i H => ∃ xs ys zs : List V, SqB K H a xs k ∧ SqB K H b ys l ∧ SqB K H c zs m ∧ i ≤ xs.length ∧ i ≤ ys.length ∧ i ≤ zs.length ∧ (xs.length = i ∨ ys.length = i ∨ zs.length = i)⟩
theorem turn_zip3 {P : Program} {w : World} {K : PySem.W.Frag} {elts : List Expr} {kk : Nat} {tpos : Pos} {a b c z TI TO i1 i2 i3 : Addr} {k l m : Bool} (S : ZipSep3 z TI TO i1 i2 i3 [i1, a] [i2, b] [i3, c]) (n1 : a ≠ i1) (n2 : b ≠ i2) (n3 : c ≠ i3) :
    Turn P w K (.Tuple elts kk tpos) (Itz3 K a b c k l m) [z, TI, TO, i1, i2, i3] z (fun i h => IsZip h z TI TO .none ∧ IsTupOf3 h TI (.ref i1) (.ref i2) (.ref i3) ∧ (∃ x y u, IsTupOf3 h TO x y u) ∧ itB h i1 a i k ∧ itB h i2 b i l ∧ itB h i3 c i m) where
  mem := by simp
  obj := fun i h st q hq => by
    obtain ⟨hz, hTI, ⟨x, y, u, hTO⟩, g1, g2, g3⟩ := st
    have mm : q = z ∨ q = TI ∨ q = TO ∨ q = i1 ∨ q = i2 ∨ q = i3 := by simpa using hq
    rcases mm with e | e | e | e | e | e
    · rw [e]; exact ⟨_, hz, fun v q => nomatch q⟩
    · rw [e]; exact ⟨_, hTI, fun v q => nomatch q⟩
    · rw [e]; exact ⟨_, hTO, fun v q => nomatch q⟩
    · rw [e]; exact itB_obj g1
    · rw [e]; exact itB_obj g2
    · rw [e]; exact itB_obj g3
  keep := fun i h h' st kp => by
    obtain ⟨hz, hTI, ⟨x, y, u, hTO⟩, g1, g2, g3⟩ := st
    exact ⟨kp z (by simp) _ hz, kp TI (by simp) _ hTI, ⟨x, y, u, kp TO (by simp) _ hTO⟩, itB_at g1 fun o q => kp i1 (by simp) o q, itB_at g2 fun o q => kp i2 (by simp) o q, itB_at g3 fun o q => kp i3 (by simp) o q⟩
  item := by
    intro X hP hw hK hc i pins s σ H E I hf st hg
    subst hP hw hK
    obtain ⟨hz, hTI, ⟨x0, y0, u0, hTO⟩, g1, g2, g3⟩ := st
    obtain ⟨xs, ys, zs, x, y, u, hqx, hqy, hqz, hx, hy, hu0⟩ := hg
    obtain ⟨its, rv, p, _⟩ := hqx.raw I
    obtain ⟨jts, rw2, p2, _⟩ := hqy.raw I
    obtain ⟨kts, rw3, p3, _⟩ := hqz.raw I
    obtain ⟨vu, hu, ru⟩ := rv.get hx
    obtain ⟨vv, hv, ru2⟩ := rw2.get hy
    obtain ⟨vw, hw3, ru3⟩ := rw3.get hu0
    have hzl : z < s.heap.objs.size := Heap.lt_size hz
    have lu : i < its.toArray.size := by have := (List.getElem?_eq_some_iff.mp hu).1; simpa using this
    have lv : i < jts.toArray.size := by have := (List.getElem?_eq_some_iff.mp hv).1; simpa using this
    have lw : i < kts.toArray.size := by have := (List.getElem?_eq_some_iff.mp hw3).1; simpa using this
    refine wpAny_pyNext_zipD3_item S (drawsB (prog := X.prog) (w := X.w) (A := X.A.in1) (I.ok.hd hc) k i1 a n1 its.toArray) (drawsB (prog := X.prog) (w := X.w) (A := X.A.in1) (I.ok.hd hc) l i2 b n2 jts.toArray) (drawsB (prog := X.prog) (w := X.w) (A := X.A.in1) (I.ok.hd hc) m i3 c n3 kts.toArray) hz hTI hTO ⟨g1, p⟩ ⟨g2, p2⟩ ⟨g3, p3⟩ lu lv lw fun u1 v1 w1 h' tk e1 e2 e3 z' TO' st1 st2 st3 hT hsz hk => ?_
    have eu : u1 = vu := by
      have w : its.toArray[i]? = some vu := by simpa using hu
      exact (Option.some.inj (w.symm.trans e1)).symm
    have ev : v1 = vv := by
      have w : jts.toArray[i]? = some vv := by simpa using hv
      exact (Option.some.inj (w.symm.trans e2)).symm
    have ew : w1 = vw := by
      have w : kts.toArray[i]? = some vw := by simpa using hw3
      exact (Option.some.inj (w.symm.trans e3)).symm
    subst eu ev ew
    refine ⟨_, rfl, wpAny_letOwnedTupleGo_zip (s := { s with heap := h', toks := tk }) z' fun h'' z'' sb => ?_⟩
    have hT2 : h''.get? s.heap.objs.size = some { cls := .type "tuple", data := .seq #[u1, v1, w1] } := (sb.2 _ (Nat.ne_of_gt hzl)).trans hT
    have new : ObjOk X.prog X.w (upd H s.heap.objs.size (.tup [x, y, u])) h'' s.heap.objs.size (.tup [x, y, u]) :=
      ⟨by show 3 ≤ sizeLine; decide, [u1, v1, w1], .cons ru (.cons ru2 (.cons ru3 .nil)), ⟨_, hT2, rfl, _, rfl⟩⟩
    have I1 : Inv X pins σ (upd H s.heap.objs.size (.tup [x, y, u])) { s with heap := h'', toks := tk } :=
      I.turnedNew (t' := tk) (ch := [z, TI, TO, i1, i2, i3]) (fun q o hb qq => (sb.2 q (fun w => hb (by simp [w]))).trans (hk q o (fun w => hb (by simp [w])) (fun w => hb (by simp [w])) (fun w => hb (by simp [w])) (fun w => hb (by simp [w])) (fun w => hb (by simp [w])) qq)) hf (Nat.le_refl _) new
    refine ⟨.ref s.heap.objs.size, _, I1, rfl, ⟨_, x, y, u, rfl, I.hok.fresh (Nat.le_refl _), rfl, fun q hq => by rw [hq.inj I hqx]; exact hx, fun q hq => by rw [hq.inj I hqy]; exact hy, fun q hq => by rw [hq.inj I hqz]; exact hu0⟩, ⟨z'', ?_, ⟨u1, v1, w1, ?_⟩, ?_, ?_, ?_⟩, fun q hcm => ?_⟩
    · exact (sb.2 _ S.TIz).trans (hk _ _ S.TIz S.TITO S.TIi1 S.TIi2 S.TIi3 hTI)
    · exact (sb.2 _ S.TOz).trans TO'
    · exact itB_at st1.1 fun o q => (sb.2 _ (fun w => S.zf1 (by rw [← w]; simp))).trans q
    · exact itB_at st2.1 fun o q => (sb.2 _ (fun w => S.zf2 (by rw [← w]; simp))).trans q
    · exact itB_at st3.1 fun o q => (sb.2 _ (fun w => S.zf3 (by rw [← w]; simp))).trans q
    · have lt : q < s.heap.objs.size := by
        have mm : q = z ∨ q = TI ∨ q = TO ∨ q = i1 ∨ q = i2 ∨ q = i3 := by simpa using hcm
        rcases mm with e | e | e | e | e | e
        · rw [e]; exact hzl
        · rw [e]; exact Heap.lt_size hTI
        · rw [e]; exact Heap.lt_size hTO
        · rw [e]; obtain ⟨_, w, _⟩ := itB_obj g1; exact Heap.lt_size w
        · rw [e]; obtain ⟨_, w, _⟩ := itB_obj g2; exact Heap.lt_size w
        · rw [e]; obtain ⟨_, w, _⟩ := itB_obj g3; exact Heap.lt_size w
      rw [upd_ne (Nat.ne_of_lt lt)]
      exact (hf q hcm).1
  done := by
    intro X hP hw hK hc i pins s σ H E I hf st hg
    subst hP hw hK
    obtain ⟨hz, hTI, ⟨x0, y0, u0, hTO⟩, g1, g2, g3⟩ := st
    obtain ⟨xs, ys, zs, hqx, hqy, hqz, le1, le2, le3, hend⟩ := hg
    obtain ⟨its, rv, p, _⟩ := hqx.raw I
    obtain ⟨jts, rw2, p2, _⟩ := hqy.raw I
    obtain ⟨kts, rw3, p3, _⟩ := hqz.raw I
    have l1 := rv.length
    have l2 := rw2.length
    have l3 := rw3.length
    refine wpAny_pyNext_zipD3_end S (drawsB (prog := X.prog) (w := X.w) (A := X.A.in1) (I.ok.hd hc) k i1 a n1 its.toArray) (drawsB (prog := X.prog) (w := X.w) (A := X.A.in1) (I.ok.hd hc) l i2 b n2 jts.toArray) (drawsB (prog := X.prog) (w := X.w) (A := X.A.in1) (I.ok.hd hc) m i3 c n3 kts.toArray) hz hTI hTO ⟨g1, p⟩ ⟨g2, p2⟩ ⟨g3, p3⟩ (by simp; omega) (by simp; omega) (by simp; omega) (by simp; omega) fun h' tk hk => ⟨rfl, ?_⟩
    exact I.turnedL (t' := tk) (ch := [z, TI, TO, i1, i2, i3]) (fun q o hb qq => hk q o (fun w => hb (by simp [w])) (fun w => hb (by simp [w])) (fun w => hb (by simp [w])) (fun w => hb (by simp [w])) (fun w => hb (by simp [w])) qq) hf
  self := fun A i s Q E st h => wpAny_pyIter_zip st.1 h
def iZip3 (K : PySem.W.Frag) (ta : TA) : TI := fun σ H R => ta σ H fun vs H1 => ∃ a b c k l m xs ys zs, vs = [.ref a, .ref b, .ref c] ∧ SqB K H1 a xs k ∧ SqB K H1 b ys l ∧ SqB K H1 c zs m ∧ R (Itz3 K a b c k l m) H1
theorem pi_zip3 {X : Cx} {e e2 e3 : Expr} {ta : TA} {p pos tpos : Pos} {elts : List Expr} {kk : Nat} (hg : Gl X "zip") (hm : X.mg "zip" = none) (ha : PA X [e, e2, e3] ta)
    (hs : starEach [e, e2, e3] X.env = (false, eval e X.env) :: starEach [e2, e3] X.env := by rfl) (hpl : (backTo pos (starEach [e2, e3] X.env)).any (·.1) = false := by rfl) :
    PI X (.Tuple elts kk tpos) (.Call (.Name "zip" p) [e, e2, e3] [] pos) (iZip3 X.K ta) := by
  refine ⟨fun pins s σ H R I h => ?_⟩
  refine Call_ (ld_blt I hg hm PyProof.Rows.boot_zip (PyProof.Rows.callWith_type1 (thn (ha.run pos pins s σ H _ I h) fun us s1 ⟨vs, H1, I1, r1, q1⟩ => ?_) hs hpl))
  obtain ⟨a, b, c, k, l, m, xs, ys, zs, ex, hqx, hqy, hqz, q⟩ := q1
  subst ex
  cases r1 with
  | cons r rr =>
  cases rr with
  | cons r' rr =>
  cases rr with
  | cons r'' rr =>
  cases rr
  cases r
  cases r'
  cases r''
  obtain ⟨its, rv, p1, la⟩ := hqx.raw I1
  obtain ⟨jts, rw2, p2, lb⟩ := hqy.raw I1
  obtain ⟨kts, rw3, p3, lc⟩ := hqz.raw I1
  obtain ⟨o1, B1, s1i⟩ := beginsB k a its.toArray
  obtain ⟨o2, B2, s2i⟩ := beginsB l b jts.toArray
  obtain ⟨o3, B3, s3i⟩ := beginsB m c kts.toArray
  refine zip_begins3 B1 B2 B3 p1 p2 p3 fun h' hz hTI hTO hi1 hi2 hi3 hsz hk => wpAny_pyIter_zip hz ?_
  have I2 : Inv X pins σ H1 { s1 with heap := h' } := I1.kept (t' := s1.toks) hk
  have S := zip_sep3 (N := s1.heap.objs.size) (fp1 := [a]) (fp2 := [b]) (fp3 := [c]) (fun q hc => by rw [List.mem_singleton.mp hc]; exact la) (fun q hc => by rw [List.mem_singleton.mp hc]; exact lb) (fun q hc => by rw [List.mem_singleton.mp hc]; exact lc)
  have fresh5 : ∀ q, q ∈ [s1.heap.objs.size + 5, s1.heap.objs.size + 3, s1.heap.objs.size + 4, s1.heap.objs.size, s1.heap.objs.size + 1, s1.heap.objs.size + 2] → FpOk X pins H1 q := fun q hcm => by
    have mm : q = s1.heap.objs.size + 5 ∨ q = s1.heap.objs.size + 3 ∨ q = s1.heap.objs.size + 4 ∨ q = s1.heap.objs.size ∨ q = s1.heap.objs.size + 1 ∨ q = s1.heap.objs.size + 2 := by simpa using hcm
    have le : s1.heap.objs.size ≤ q := by
      rcases mm with z | z | z | z | z | z <;> rw [z]
      · exact Nat.le_add_right _ _
      · exact Nat.le_add_right _ _
      · exact Nat.le_add_right _ _
      · exact Nat.le_refl _
      · exact Nat.le_add_right _ _
      · exact Nat.le_add_right _ _
    exact I1.fpOk le (I1.hok.fresh le)
  exact ⟨s1.heap.objs.size + 5, [s1.heap.objs.size + 5, s1.heap.objs.size + 3, s1.heap.objs.size + 4, s1.heap.objs.size, s1.heap.objs.size + 1, s1.heap.objs.size + 2], _, _, H1, rfl, I2, turn_zip3 S (Nat.ne_of_lt la) (Nat.ne_of_lt (Nat.lt_succ_of_lt lb)) (Nat.ne_of_lt (Nat.lt_succ_of_lt (Nat.lt_succ_of_lt lc))), ⟨hz, hTI, ⟨_, _, _, hTO⟩, s1i _ _ hi1, s2i _ _ hi2, s3i _ _ hi3⟩, fresh5, q⟩
theorem walk_zip3 {K : PySem.W.Frag} {a b c : Addr} {k l m : Bool} {xs ys zs : List V} {n : Nat} (hn : n = min (min xs.length ys.length) zs.length) : Walk (Itz3 K a b c k l m) n (fun H => SqB K H a xs k ∧ SqB K H b ys l ∧ SqB K H c zs m) (fun i H v H' => ∃ T x y u, v = .ref T ∧ H T = none ∧ H' = upd H T (.tup [x, y, u]) ∧ xs[i]? = some x ∧ ys[i]? = some y ∧ zs[i]? = some u) := by
  subst hn
  refine ⟨fun i _ hi q => ?_, fun _ q => ⟨xs, ys, zs, q.1, q.2.1, q.2.2, by omega, by omega, by omega, by omega⟩, fun i H v H' _ q y => ?_⟩
  · exact ⟨xs, ys, zs, xs[i], ys[i], zs[i], q.1, q.2.1, q.2.2, by simp [show i < xs.length by omega], by simp [show i < ys.length by omega], by simp [show i < zs.length by omega]⟩
  · obtain ⟨T, x, z, u, g1, g2, g3, g4, g5, g6⟩ := y
    exact ⟨T, x, z, u, g1, g2, g3, g4 xs q.1, g5 ys q.2.1, g6 zs q.2.2⟩
end AL
set_option Elab.async false
set_option linter.all false
set_option maxRecDepth 100000
/-! rows of integers, their spans over the ratios, reduced rows: the mathematics -/
namespace AL
abbrev Rw := List Int
def vl (x : Rw) : Nat → Int := fun j => x.getD j 0
/-- the place of the first item that is not 0 -/
def piv : Rw → Nat
  | [] => 0
  | x :: r => if x = 0 then piv r + 1 else 0
def comb (m : Int) (x : Rw) (t : Int) (y : Rw) : Rw := List.zipWith (fun a b => m * a + t * b) x y
def gcdR (x : Rw) : Nat := x.foldl (fun s v => Nat.gcd s v.natAbs) 0
def sgR (x : Rw) : Int := if vl x (piv x) < 0 then -((gcdR x : Nat) : Int) else ((gcdR x : Nat) : Int)
def prim (x : Rw) : Rw := x.map fun v => v.fdiv (sgR x)
def woG (x : Rw) (p : Nat) (h : Rw) : Nat := Nat.gcd (vl x p).natAbs (vl h p).natAbs
def wo (x : Rw) (p : Nat) (h : Rw) : Rw := if vl x p = 0 then x else comb ((vl h p).fdiv (woG x p h)) x (-((vl x p).fdiv (woG x p h))) h
def clr (F : List Rw) (x : Rw) : Rw := F.foldl (fun x h => wo x (piv h) h) x
def upR (p : Rw) (h : Rw) : Rw := if vl h (piv p) = 0 then h else prim (wo h (piv p) p)
def allZ (x : Rw) : Prop := ∀ v ∈ x, v = 0
instance (x : Rw) : Decidable (allZ x) := by unfold allZ; infer_instance
def stepS (F : List Rw) (r : Rw) : List Rw := if allZ (clr F r) then F else F.map (upR (prim (clr F r))) ++ [prim (clr F r)]
def spn (rows : List Rw) : List Rw := rows.foldl stepS []
theorem vl_get {x : Rw} {j : Nat} {v : Int} (h : x[j]? = some v) : vl x j = v := by unfold vl; rw [List.getD_eq_getElem?_getD, h]; rfl
theorem vl_out {x : Rw} {j : Nat} (h : x.length ≤ j) : vl x j = 0 := by unfold vl; rw [List.getD_eq_getElem?_getD, List.getElem?_eq_none h]; rfl
theorem vl_at {x : Rw} {j : Nat} (h : j < x.length) : x[j]? = some (vl x j) := by
  unfold vl; rw [List.getD_eq_getElem?_getD, List.getElem?_eq_getElem h]; rfl
theorem vl_mem {x : Rw} {j : Nat} (h : j < x.length) : vl x j ∈ x := List.mem_of_getElem? (vl_at h)
theorem vl_ext {x y : Rw} (h : x.length = y.length) (e : ∀ j, vl x j = vl y j) : x = y := by
  refine List.ext_getElem h fun j h1 h2 => ?_
  have := e j
  have a := vl_at h1
  have b := vl_at h2
  rw [List.getElem?_eq_getElem h1] at a
  rw [List.getElem?_eq_getElem h2] at b
  have a' := Option.some.inj a
  have b' := Option.some.inj b
  omega
theorem vl_map {x : Rw} {f : Int → Int} (h0 : f 0 = 0) (j : Nat) : vl (x.map f) j = f (vl x j) := by
  by_cases h : j < x.length
  · exact vl_get (by rw [List.getElem?_map, vl_at h]; rfl)
  · rw [vl_out (by rw [List.length_map]; omega), vl_out (by omega), h0]
theorem pos_r {a b : Int} (ha : 0 < a) (h : 0 < a * b) : 0 < b := by
  rcases Int.lt_trichotomy b 0 with w | w | w
  · have := Int.mul_neg_of_pos_of_neg ha w; omega
  · rw [w, Int.mul_zero] at h; omega
  · exact w
theorem comb_len {m t : Int} {x y : Rw} (h : x.length = y.length) : (comb m x t y).length = x.length := by unfold comb; rw [List.length_zipWith, h, Nat.min_self]
theorem comb_vl {m t : Int} {x y : Rw} (h : x.length = y.length) (j : Nat) : vl (comb m x t y) j = m * vl x j + t * vl y j := by
  by_cases hj : j < x.length
  · exact vl_get (by unfold comb; rw [List.getElem?_zipWith, vl_at hj, vl_at (by omega : j < y.length)])
  · rw [vl_out (by rw [comb_len h]; omega), vl_out (by omega : x.length ≤ j), vl_out (by omega : y.length ≤ j)]; simp
theorem piv_spec : ∀ {x : Rw}, ¬ allZ x → piv x < x.length ∧ vl x (piv x) ≠ 0 ∧ ∀ j, j < piv x → vl x j = 0
  | [], h => absurd (fun v hv => nomatch hv) h
  | a :: r, h => by
    unfold piv
    by_cases z : a = 0
    · rw [if_pos z]
      have hr : ¬ allZ r := fun w => h fun v hv => by
        rcases List.mem_cons.mp hv with e | e
        · rw [e, z]
        · exact w v e
      obtain ⟨h1, h2, h3⟩ := piv_spec hr
      refine ⟨by rw [List.length_cons]; omega, ?_, fun j hj => ?_⟩
      · show vl (a :: r) (piv r + 1) ≠ 0
        exact h2
      · cases j with
        | zero => exact z
        | succ j => exact h3 j (by omega)
    · rw [if_neg z]
      exact ⟨by simp, z, fun j hj => by omega⟩
theorem piv_zero : ∀ {x : Rw}, allZ x → piv x = x.length
  | [], _ => rfl
  | a :: r, h => by
    unfold piv
    rw [if_pos (h a (List.mem_cons_self ..)), piv_zero fun v hv => h v (List.mem_cons_of_mem _ hv)]; rfl
theorem not_allZ {x : Rw} {j : Nat} (h : vl x j ≠ 0) : ¬ allZ x := fun z => by
  by_cases hj : j < x.length
  · exact h (z _ (vl_mem hj))
  · exact h (vl_out (by omega))
theorem allZ_vl {x : Rw} (h : allZ x) (j : Nat) : vl x j = 0 := by
  by_cases hj : j < x.length
  · exact h _ (vl_mem hj)
  · exact vl_out (by omega)
theorem piv_is {x : Rw} {p : Nat} (h : vl x p ≠ 0) (z : ∀ j, j < p → vl x j = 0) : piv x = p := by
  obtain ⟨_, h2, h3⟩ := piv_spec (not_allZ h)
  rcases Nat.lt_trichotomy (piv x) p with w | w | w
  · exact absurd (z _ w) h2
  · exact w
  · exact absurd (h3 p w) h
theorem gcdR_fold : ∀ (x : Rw) (s : Nat), x.foldl (fun s v => Nat.gcd s v.natAbs) s ∣ s ∧ ∀ v ∈ x, x.foldl (fun s v => Nat.gcd s v.natAbs) s ∣ v.natAbs
  | [], s => ⟨Nat.dvd_refl _, fun v hv => nomatch hv⟩
  | a :: r, s => by
    obtain ⟨h1, h2⟩ := gcdR_fold r (Nat.gcd s a.natAbs)
    refine ⟨Nat.dvd_trans h1 (Nat.gcd_dvd_left _ _), fun v hv => ?_⟩
    rcases List.mem_cons.mp hv with rfl | hv
    · exact Nat.dvd_trans h1 (Nat.gcd_dvd_right _ _)
    · exact h2 v hv
theorem gcdR_dvd {x : Rw} {v : Int} (h : v ∈ x) : gcdR x ∣ v.natAbs := (gcdR_fold x 0).2 v h
theorem gcdR_pos {x : Rw} (h : ¬ allZ x) : 0 < gcdR x := by
  obtain ⟨h1, h2, _⟩ := piv_spec h
  have d := gcdR_dvd (vl_mem h1)
  refine Nat.pos_of_ne_zero fun z => ?_
  rw [z] at d
  have := Nat.eq_zero_of_zero_dvd d
  omega
theorem sgR_abs (x : Rw) : (sgR x).natAbs = gcdR x := by unfold sgR; split <;> omega
theorem sgR_ne {x : Rw} (h : ¬ allZ x) : sgR x ≠ 0 := fun z => by
  have a := sgR_abs x
  have := gcdR_pos h
  rw [z] at a
  simp at a; omega
theorem sgR_dvd {x : Rw} {v : Int} (h : v ∈ x) : sgR x ∣ v := by
  have d := gcdR_dvd h
  rw [← sgR_abs] at d
  exact Int.natAbs_dvd_natAbs.mp d
theorem fdiv_ex {g v : Int} (g0 : g ≠ 0) (h : g ∣ v) : g * v.fdiv g = v := by
  obtain ⟨k, rfl⟩ := h
  rw [Int.mul_comm g k, Int.mul_fdiv_cancel _ g0, Int.mul_comm]
theorem prim_len (x : Rw) : (prim x).length = x.length := List.length_map _
theorem prim_vl {x : Rw} (h : ¬ allZ x) (j : Nat) : sgR x * vl (prim x) j = vl x j := by
  by_cases hj : j < x.length
  · have e : vl (prim x) j = (vl x j).fdiv (sgR x) := vl_get (by unfold prim; rw [List.getElem?_map, vl_at hj]; rfl)
    rw [e, fdiv_ex (sgR_ne h) (sgR_dvd (vl_mem hj))]
  · rw [vl_out (by rw [prim_len]; omega), vl_out (by omega : x.length ≤ j), Int.mul_zero]
theorem prim_piv {x : Rw} (h : ¬ allZ x) : piv (prim x) = piv x := by
  obtain ⟨_, h2, h3⟩ := piv_spec h
  refine piv_is (fun z => h2 ?_) fun j hj => ?_
  · rw [← prim_vl h, z, Int.mul_zero]
  · have := prim_vl h j
    rw [h3 j hj] at this
    exact (Int.mul_eq_zero.mp this).resolve_left (sgR_ne h)
theorem prim_pos {x : Rw} (h : ¬ allZ x) : 0 < vl (prim x) (piv x) := by
  obtain ⟨_, h2, h3⟩ := piv_spec h
  have e := prim_vl h (piv x)
  have g := gcdR_pos h
  by_cases w : vl x (piv x) < 0
  · have s : sgR x < 0 := by unfold sgR; rw [if_pos w]; omega
    rw [← e] at w
    rcases Int.lt_trichotomy (vl (prim x) (piv x)) 0 with z | z | z
    · have := Int.mul_pos_of_neg_of_neg s z; omega
    · rw [z] at w; simp at w
    · exact z
  · have s : 0 < sgR x := by unfold sgR; rw [if_neg w]; omega
    have p : 0 < vl x (piv x) := by omega
    rw [← e] at p
    exact pos_r s p
theorem prim_nz {x : Rw} (h : ¬ allZ x) : ¬ allZ (prim x) := not_allZ (j := piv x) (by have := prim_pos h; omega)
/-- m times x and t times h -/
theorem wo_lin {x h : Rw} {p : Nat} (hl : x.length = h.length) (hp : 0 < vl h p) : ∃ m t : Int, 0 < m ∧ (wo x p h).length = x.length ∧ (∀ j, vl (wo x p h) j = m * vl x j + t * vl h j) ∧ vl (wo x p h) p = 0 := by
  unfold wo
  by_cases z : vl x p = 0
  · rw [if_pos z]
    exact ⟨1, 0, by decide, rfl, fun j => by simp, z⟩
  · rw [if_neg z]
    have gp : 0 < woG x p h := Nat.gcd_pos_of_pos_right _ (by omega)
    have d1 : ((woG x p h : Nat) : Int) ∣ vl h p := Int.ofNat_dvd_left.mpr (Nat.gcd_dvd_right _ _)
    have d2 : ((woG x p h : Nat) : Int) ∣ vl x p := Int.ofNat_dvd_left.mpr (Nat.gcd_dvd_left _ _)
    have g0 : ((woG x p h : Nat) : Int) ≠ 0 := by omega
    have e1 := fdiv_ex g0 d1
    have e2 := fdiv_ex g0 d2
    refine ⟨_, _, ?_, comb_len hl, comb_vl hl, ?_⟩
    · rw [← e1] at hp
      exact pos_r (by omega) hp
    · rw [comb_vl hl]
      generalize (vl h p).fdiv (woG x p h) = a at *
      generalize (vl x p).fdiv (woG x p h) = b at *
      rw [← e1, ← e2]
      have : a * (↑(woG x p h) * b) = b * (↑(woG x p h) * a) := by rw [Int.mul_left_comm, Int.mul_comm a b, ← Int.mul_left_comm]
      rw [this, Int.neg_mul]; omega
/-- spans -/
inductive Spn (S : (Nat → Int) → Prop) : (Nat → Int) → Prop
  | mem {x} : S x → Spn S x
  | zero : Spn S fun _ => 0
  | lin {x y} (m t : Int) : Spn S x → Spn S y → Spn S fun j => m * x j + t * y j
  | div {x} {s : Int} : s ≠ 0 → (Spn S fun j => s * x j) → Spn S x
def inR (F : List Rw) : (Nat → Int) → Prop := fun φ => ∃ f ∈ F, φ = vl f
theorem Spn.trans {S T : (Nat → Int) → Prop} {x : Nat → Int} (h : Spn S x) (k : ∀ y, S y → Spn T y) : Spn T x := by
  induction h with
  | mem h => exact k _ h
  | zero => exact .zero
  | lin m t _ _ i1 i2 => exact .lin m t i1 i2
  | div s0 _ i => exact .div s0 i
theorem Spn.of {S : (Nat → Int) → Prop} {x y : Nat → Int} (h : Spn S x) (e : ∀ j, y j = x j) : Spn S y := by
  have : y = x := funext e
  rw [this]; exact h
/-- what is closed like a span -/
structure Cls0 (R : (Nat → Int) → Prop) : Prop where
  zero : R fun _ => 0
  lin : ∀ {x y} (m t : Int), R x → R y → R fun j => m * x j + t * y j
  div : ∀ {x} {s : Int}, s ≠ 0 → (R fun j => s * x j) → R x
theorem Spn.clo {S R : (Nat → Int) → Prop} (c : Cls0 R) {x : Nat → Int} (h : Spn S x) (k : ∀ y, S y → R y) : R x := by
  induction h with
  | mem h => exact k _ h
  | zero => exact c.zero
  | lin m t _ _ i1 i2 => exact c.lin m t i1 i2
  | div s0 _ i => exact c.div s0 i
/-- reduced rows, in any order -/
structure Rref (W : Nat) (F : List Rw) : Prop where
  len : ∀ f ∈ F, f.length = W
  pos : ∀ f ∈ F, 0 < vl f (piv f)
  off : F.Pairwise fun f h => vl f (piv h) = 0 ∧ vl h (piv f) = 0
theorem clr_zero {W : Nat} : ∀ {F : List Rw} {x : Rw}, (∀ f ∈ F, f.length = W) → (∀ f ∈ F, 0 < vl f (piv f)) → x.length = W → ∀ {p : Nat}, vl x p = 0 → (∀ f ∈ F, vl f p = 0) → vl (clr F x) p = 0
  | [], _, _, _, _, _, h, _ => h
  | f :: F, x, hl, hp, lx, p, h, z => by
    obtain ⟨m, t, _, l, e, _⟩ := wo_lin (x := x) (h := f) (lx.trans (hl f (List.mem_cons_self ..)).symm) (hp f (List.mem_cons_self ..))
    refine clr_zero (F := F) (fun g hg => hl g (List.mem_cons_of_mem _ hg)) (fun g hg => hp g (List.mem_cons_of_mem _ hg)) (l.trans lx) ?_ fun g hg => z g (List.mem_cons_of_mem _ hg)
    rw [e, h, z f (List.mem_cons_self ..)]; simp
theorem clr_spec {W : Nat} : ∀ {F : List Rw} {x : Rw}, Rref W F → x.length = W → (clr F x).length = W ∧ (∀ f ∈ F, vl (clr F x) (piv f) = 0) ∧ (∀ T : (Nat → Int) → Prop, (∀ f ∈ F, Spn T (vl f)) → (Spn T (vl x) ↔ Spn T (vl (clr F x))))
  | [], x, _, lx => ⟨lx, (fun f hf => nomatch hf), fun T _ => Iff.rfl⟩
  | f :: F, x, R, lx => by
    have hf := List.mem_cons_self (a := f) (l := F)
    obtain ⟨m, t, m0, l, e, z⟩ := wo_lin (x := x) (h := f) (p := piv f) (lx.trans (R.len f hf).symm) (R.pos f hf)
    have o := List.pairwise_cons.mp R.off
    have R' : Rref W F := ⟨fun g hg => R.len g (List.mem_cons_of_mem _ hg), fun g hg => R.pos g (List.mem_cons_of_mem _ hg), o.2⟩
    obtain ⟨h1, h2, h3⟩ := clr_spec (F := F) (x := wo x (piv f) f) R' (l.trans lx)
    refine ⟨h1, fun g hg => ?_, fun T k => ?_⟩
    · rcases List.mem_cons.mp hg with rfl | hg
      · exact clr_zero R'.len R'.pos (l.trans lx) z fun h hh => (o.1 h hh).2
      · exact h2 g hg
    · refine Iff.trans ?_ (h3 T fun g hg => k g (List.mem_cons_of_mem _ hg))
      have kf := k f hf
      constructor
      · intro s
        exact (Spn.lin m t s kf).of e
      · intro s
        have w := Spn.lin 1 (-t) s kf
        refine Spn.div (s := m) (by omega) (w.of fun j => ?_)
        rw [e]
        rw [Int.one_mul, Int.neg_mul]; omega
theorem Spn.prim {T : (Nat → Int) → Prop} {x : Rw} (h : ¬ allZ x) : Spn T (vl (prim x)) ↔ Spn T (vl x) := by
  have e := prim_vl h
  constructor
  · intro s
    exact (Spn.lin (sgR x) 0 s s).of fun j => by rw [Int.zero_mul, Int.add_zero, e]
  · intro s
    exact .div (sgR_ne h) (s.of e)
theorem wo_nz {x p : Rw} (hl : x.length = p.length) (hp : 0 < vl p (piv p)) (hx : 0 < vl x (piv x)) (pz : vl p (piv x) = 0) : ¬ allZ (wo x (piv p) p) := by
  obtain ⟨m, t, m0, _, e, _⟩ := wo_lin (x := x) (h := p) hl hp
  refine not_allZ (j := piv x) ?_
  rw [e, pz, Int.mul_zero, Int.add_zero]
  exact fun z => (Int.mul_eq_zero.mp z).elim (by omega) (by omega)
/-- one of the rows, a new one behind -/
theorem upR_spec {W : Nat} {h p : Rw} (lh : h.length = W) (lp : p.length = W) (hh : 0 < vl h (piv h)) (hp : 0 < vl p (piv p)) (pz : vl p (piv h) = 0) :
    (upR p h).length = W ∧ piv (upR p h) = piv h ∧ 0 < vl (upR p h) (piv h) ∧ vl (upR p h) (piv p) = 0 ∧ (∀ j, vl h j = 0 → vl p j = 0 → vl (upR p h) j = 0) ∧ ∀ T : (Nat → Int) → Prop, Spn T (vl p) → (Spn T (vl h) ↔ Spn T (vl (upR p h))) := by
  unfold upR
  by_cases z : vl h (piv p) = 0
  · rw [if_pos z]
    exact ⟨lh, rfl, hh, z, fun j e _ => e, fun T _ => Iff.rfl⟩
  rw [if_neg z]
  obtain ⟨m, t, m0, l, e, ez⟩ := wo_lin (x := h) (h := p) (p := piv p) (lh.trans lp.symm) hp
  have nz := wo_nz (lh.trans lp.symm) hp hh pz
  have lt : piv h < piv p := by
    rcases Nat.lt_trichotomy (piv h) (piv p) with w | w | w
    · exact w
    · rw [w] at pz; omega
    · exact absurd ((piv_spec (not_allZ (j := piv h) (by omega))).2.2 _ w) z
  have pj : ∀ j, j ≤ piv h → vl p j = 0 := fun j hj => (piv_spec (not_allZ (j := piv p) (by omega))).2.2 j (by omega)
  have hj := (piv_spec (x := h) (not_allZ (j := piv h) (by omega))).2.2
  have pw : piv (wo h (piv p) p) = piv h := piv_is (by
    rw [e, pz, Int.mul_zero, Int.add_zero]
    exact fun w => (Int.mul_eq_zero.mp w).elim (by omega) (by omega)) fun j w => by rw [e, hj j w, pj j (by omega)]; simp
  have pv := prim_vl nz
  have back : ∀ j, vl (wo h (piv p) p) j = 0 → vl (prim (wo h (piv p) p)) j = 0 := fun j w => by
    have := pv j
    rw [w] at this
    exact (Int.mul_eq_zero.mp this).resolve_left (sgR_ne nz)
  refine ⟨by rw [prim_len, l, lh], by rw [prim_piv nz, pw], ?_, back _ ez, fun j h1 h2 => back j (by rw [e, h1, h2]; simp), fun T sp => ?_⟩
  · have := prim_pos nz
    rw [pw] at this; exact this
  · refine Iff.trans ?_ (Spn.prim nz).symm
    constructor
    · intro s; exact (Spn.lin m t s sp).of e
    · intro s
      refine Spn.div (s := m) (by omega) ((Spn.lin 1 (-t) s sp).of fun j => ?_)
      rw [e, Int.one_mul, Int.neg_mul]; omega
theorem step_spec {W : Nat} {F : List Rw} {r : Rw} (R : Rref W F) (lr : r.length = W) : Rref W (stepS F r) ∧ ∀ T : (Nat → Int) → Prop, ((∀ f ∈ F, Spn T (vl f)) ∧ Spn T (vl r)) ↔ ∀ f ∈ stepS F r, Spn T (vl f) := by
  obtain ⟨c1, c2, c3⟩ := clr_spec R lr
  unfold stepS
  by_cases z : allZ (clr F r)
  · rw [if_pos z]
    refine ⟨R, fun T => ⟨fun h => h.1, fun h => ⟨h, ?_⟩⟩⟩
    exact (c3 T h).mpr (Spn.zero.of (allZ_vl z))
  rw [if_neg z]
  have lp : (prim (clr F r)).length = W := (prim_len _).trans c1
  have pp : 0 < vl (prim (clr F r)) (piv (prim (clr F r))) := by rw [prim_piv z]; exact prim_pos z
  have pz : ∀ f ∈ F, vl (prim (clr F r)) (piv f) = 0 := fun f hf => by
    have e := prim_vl z (piv f)
    rw [c2 f hf] at e
    exact (Int.mul_eq_zero.mp e).resolve_left (sgR_ne z)
  have sp : ∀ T : (Nat → Int) → Prop, Spn T (vl (prim (clr F r))) ↔ Spn T (vl (clr F r)) := fun T => Spn.prim z
  generalize prim (clr F r) = p at lp pp pz sp
  have U : ∀ f ∈ F, _ := fun f hf => upR_spec (R.len f hf) lp (R.pos f hf) pp (pz f hf)
  refine ⟨⟨fun g hg => ?_, fun g hg => ?_, ?_⟩, fun T => ⟨fun h g hg => ?_, fun h => ?_⟩⟩
  · rcases List.mem_append.mp hg with hg | hg
    · obtain ⟨f, hf, rfl⟩ := List.mem_map.mp hg
      exact (U f hf).1
    · rw [List.mem_singleton.mp hg]; exact lp
  · rcases List.mem_append.mp hg with hg | hg
    · obtain ⟨f, hf, rfl⟩ := List.mem_map.mp hg
      rw [(U f hf).2.1]; exact (U f hf).2.2.1
    · rw [List.mem_singleton.mp hg]; exact pp
  · rw [List.pairwise_append]
    refine ⟨?_, List.pairwise_singleton .., fun g hg q hq => ?_⟩
    · rw [List.pairwise_map]
      refine List.Pairwise.imp_of_mem (fun {f h} hf hh o => ?_) R.off
      rw [(U f hf).2.1, (U h hh).2.1]
      exact ⟨(U f hf).2.2.2.2.1 _ o.1 (pz h hh), (U h hh).2.2.2.2.1 _ o.2 (pz f hf)⟩
    · obtain ⟨f, hf, rfl⟩ := List.mem_map.mp hg
      rw [List.mem_singleton.mp hq, (U f hf).2.1]
      exact ⟨(U f hf).2.2.2.1, pz f hf⟩
  · have hp : Spn T (vl p) := (sp T).mpr ((c3 T h.1).mp h.2)
    rcases List.mem_append.mp hg with hg | hg
    · obtain ⟨f, hf, rfl⟩ := List.mem_map.mp hg
      exact ((U f hf).2.2.2.2.2 T hp).mp (h.1 f hf)
    · rw [List.mem_singleton.mp hg]; exact hp
  · have hp : Spn T (vl p) := h p (List.mem_append_right _ (List.mem_singleton.mpr rfl))
    have hF : ∀ f ∈ F, Spn T (vl f) := fun f hf => ((U f hf).2.2.2.2.2 T hp).mpr (h _ (List.mem_append_left _ (List.mem_map.mpr ⟨f, hf, rfl⟩)))
    exact ⟨hF, (c3 T hF).mpr ((sp T).mp hp)⟩
theorem spn_go {W : Nat} : ∀ {rows F : List Rw}, Rref W F → (∀ r ∈ rows, r.length = W) → Rref W (rows.foldl stepS F) ∧ ∀ T : (Nat → Int) → Prop, ((∀ f ∈ F, Spn T (vl f)) ∧ ∀ r ∈ rows, Spn T (vl r)) ↔ ∀ f ∈ rows.foldl stepS F, Spn T (vl f)
  | [], F, R, _ => ⟨R, fun T => ⟨fun h => h.1, fun h => ⟨h, fun r hr => nomatch hr⟩⟩⟩
  | r :: rows, F, R, hl => by
    obtain ⟨R1, s1⟩ := step_spec R (hl r (List.mem_cons_self ..))
    obtain ⟨R2, s2⟩ := spn_go (rows := rows) R1 fun q hq => hl q (List.mem_cons_of_mem _ hq)
    refine ⟨R2, fun T => Iff.trans ?_ (s2 T)⟩
    rw [← s1 T, and_assoc]
    exact and_congr_right fun _ => ⟨fun h => ⟨h r (List.mem_cons_self ..), fun q hq => h q (List.mem_cons_of_mem _ hq)⟩, fun h q hq => by
      rcases List.mem_cons.mp hq with rfl | hq
      · exact h.1
      · exact h.2 q hq⟩
theorem rref_nil (W : Nat) : Rref W [] := ⟨(fun f hf => nomatch hf), (fun f hf => nomatch hf), .nil⟩
/-- span_of tells reduced rows of the same span -/
theorem spn_spec {W : Nat} {rows : List Rw} (hl : ∀ r ∈ rows, r.length = W) : Rref W (spn rows) ∧ (∀ r ∈ rows, Spn (inR (spn rows)) (vl r)) ∧ ∀ f ∈ spn rows, Spn (inR rows) (vl f) := by
  obtain ⟨R, s⟩ := spn_go (rref_nil W) hl
  refine ⟨R, ?_, ?_⟩
  · exact ((s (inR (spn rows))).mpr fun f hf => .mem ⟨f, hf, rfl⟩).2
  · exact (s (inR rows)).mp ⟨(fun f hf => nomatch hf), fun r hr => .mem ⟨r, hr, rfl⟩⟩
/-- sums of multiples of rows -/
def sumF (as : List Int) (F : List Rw) (j : Nat) : Int := (List.zipWith (fun a f => a * vl f j) as F).sum
theorem sumF_lin : ∀ {as bs : List Int} {F : List Rw} (m t : Int) (j : Nat), as.length = F.length → bs.length = F.length → sumF (List.zipWith (fun a b => m * a + t * b) as bs) F j = m * sumF as F j + t * sumF bs F j
  | [], [], [], m, t, j, _, _ => by unfold sumF; simp
  | a :: as, b :: bs, f :: F, m, t, j, h1, h2 => by
    have ih := sumF_lin (as := as) (bs := bs) (F := F) m t j (by simpa using h1) (by simpa using h2)
    unfold sumF at ih ⊢
    simp only [List.zipWith_cons_cons, List.sum_cons, ih]
    rw [Int.mul_add, Int.mul_add, Int.add_mul, Int.mul_assoc, Int.mul_assoc]
    omega
  | [], _ :: _, [], _, _, _, _, h => nomatch h
  | _ :: _, _, [], _, _, _, h, _ => nomatch h
  | [], _, _ :: _, _, _, _, h, _ => nomatch h
  | _ :: _, [], _ :: _, _, _, _, _, h => nomatch h
theorem sumF_zero : ∀ (F : List Rw) (j : Nat), sumF (F.map fun _ => 0) F j = 0
  | [], _ => rfl
  | f :: F, j => by
    have ih := sumF_zero F j
    unfold sumF at ih ⊢
    simp only [List.map_cons, List.zipWith_cons_cons, List.sum_cons, ih]; simp
theorem sumF_one : ∀ {F : List Rw} {f : Rw}, f ∈ F → ∃ as : List Int, as.length = F.length ∧ ∀ j, vl f j = sumF as F j
  | g :: F, f, h => by
    rcases List.mem_cons.mp h with rfl | h
    · refine ⟨1 :: F.map fun _ => 0, by simp, fun j => ?_⟩
      have := sumF_zero F j
      unfold sumF at this ⊢
      simp only [List.zipWith_cons_cons, List.sum_cons, this]; simp
    · obtain ⟨as, l, e⟩ := sumF_one h
      refine ⟨0 :: as, by simp [l], fun j => ?_⟩
      rw [e j]
      unfold sumF
      simp
/-- a multiple of what lies in the span is a sum of multiples of the rows -/
theorem span_sum {F : List Rw} {x : Nat → Int} (h : Spn (inR F) x) : ∃ (m : Int) (as : List Int), m ≠ 0 ∧ as.length = F.length ∧ ∀ j, m * x j = sumF as F j := by
  refine Spn.clo (R := fun x => ∃ (m : Int) (as : List Int), m ≠ 0 ∧ as.length = F.length ∧ ∀ j, m * x j = sumF as F j) ⟨?_, ?_, ?_⟩ h ?_
  · exact ⟨1, F.map fun _ => 0, by decide, by simp, fun j => by rw [sumF_zero, Int.mul_zero]⟩
  · rintro x y p q ⟨m, as, m0, la, ea⟩ ⟨n, bs, n0, lb, eb⟩
    refine ⟨m * n, List.zipWith (fun a b => (p * n) * a + (q * m) * b) as bs, Int.mul_ne_zero m0 n0, by rw [List.length_zipWith, la, lb, Nat.min_self], fun j => ?_⟩
    rw [sumF_lin _ _ _ la lb, ← ea, ← eb]
    grind
  · rintro x s s0 ⟨m, as, m0, la, ea⟩
    refine ⟨m * s, as, Int.mul_ne_zero m0 s0, la, fun j => ?_⟩
    rw [← ea, Int.mul_assoc]
  · rintro y ⟨f, hf, rfl⟩
    obtain ⟨as, l, e⟩ := sumF_one hf
    exact ⟨1, as, by decide, l, fun j => by rw [Int.one_mul]; exact e j⟩
/-- at a pivot only its own row tells -/
theorem sumF_at : ∀ {F : List Rw} {as : List Int} {i : Nat} {f : Rw} {a : Int} {p : Nat}, as.length = F.length → F[i]? = some f → as[i]? = some a → (∀ k g, F[k]? = some g → k ≠ i → vl g p = 0) → sumF as F p = a * vl f p
  | [], _, _, _, _, _, _, h, _, _ => by simp at h
  | g :: F, [], _, _, _, _, h, _, _, _ => nomatch h
  | g :: F, b :: as, 0, f, a, p, hl, hf, ha, z => by
    cases Option.some.inj hf
    cases Option.some.inj ha
    have r : ∀ {F : List Rw} {as : List Int}, (∀ g ∈ F, vl g p = 0) → sumF as F p = 0 := fun {F} => by
      induction F with
      | nil => intro as _; unfold sumF; cases as <;> rfl
      | cons h F ih =>
        intro as k
        cases as with
        | nil => rfl
        | cons c as =>
          have := ih (as := as) fun g hg => k g (List.mem_cons_of_mem _ hg)
          unfold sumF at this ⊢
          rw [List.zipWith_cons_cons, List.sum_cons, this, k h (List.mem_cons_self ..)]; simp
    have w := r (F := F) (as := as) fun h hh => by
      obtain ⟨k, hk⟩ := List.mem_iff_getElem?.mp hh
      exact z (k + 1) h (by simpa using hk) (by omega)
    unfold sumF at w ⊢
    rw [List.zipWith_cons_cons, List.sum_cons, w, Int.add_zero]
  | g :: F, b :: as, i + 1, f, a, p, hl, hf, ha, z => by
    have ih := sumF_at (F := F) (as := as) (i := i) (f := f) (a := a) (p := p) (by simpa using hl) (by simpa using hf) (by simpa using ha) fun k h hk ne => z (k + 1) h (by simpa using hk) (by omega)
    have w := z 0 g rfl (by omega)
    unfold sumF at ih ⊢
    rw [List.zipWith_cons_cons, List.sum_cons, ih, w]; simp
theorem rref_off {W : Nat} {F : List Rw} (R : Rref W F) {i k : Nat} {f g : Rw} (hi : F[i]? = some f) (hk : F[k]? = some g) (ne : k ≠ i) : vl g (piv f) = 0 := by
  obtain ⟨li, ei⟩ := List.getElem?_eq_some_iff.mp hi
  obtain ⟨lk, ek⟩ := List.getElem?_eq_some_iff.mp hk
  have o := List.pairwise_iff_getElem.mp R.off
  rcases Nat.lt_or_gt_of_ne ne with w | w
  · have := o k i lk li w
    rw [ei, ek] at this; exact this.1
  · have := o i k li lk w
    rw [ei, ek] at this; exact this.2
/-- what is 0 at all pivots but one is a multiple of this one's row -/
theorem span_one {W : Nat} {F : List Rw} (R : Rref W F) {x : Nat → Int} (h : Spn (inR F) x) {i : Nat} {f : Rw} (hi : F[i]? = some f) (z : ∀ k g, F[k]? = some g → k ≠ i → x (piv g) = 0) : ∀ j, vl f (piv f) * x j = x (piv f) * vl f j := by
  obtain ⟨m, as, m0, la, e⟩ := span_sum h
  have ai : ∀ {k : Nat} {g : Rw}, F[k]? = some g → ∃ a, as[k]? = some a ∧ m * x (piv g) = a * vl g (piv g) := fun {k g} hk => by
    have lk : k < as.length := by have := (List.getElem?_eq_some_iff.mp hk).1; omega
    refine ⟨as[k], List.getElem?_eq_getElem lk, ?_⟩
    rw [e]
    exact sumF_at la hk (List.getElem?_eq_getElem lk) fun k' g' hk' ne => rref_off R hk hk' ne
  obtain ⟨a, ha, ea⟩ := ai hi
  have zero : ∀ {k : Nat} {g : Rw} {b : Int}, F[k]? = some g → as[k]? = some b → k ≠ i → b = 0 := fun {k g b} hk hb ne => by
    obtain ⟨b', hb', eb⟩ := ai hk
    rw [hb] at hb'
    cases Option.some.inj hb'
    rw [z k g hk ne, Int.mul_zero] at eb
    have p := R.pos g (List.mem_of_getElem? hk)
    exact (Int.mul_eq_zero.mp eb.symm).resolve_right (by omega)
  intro j
  have sj : sumF as F j = a * vl f j := by
    have go : ∀ {F : List Rw} {as : List Int} {i : Nat}, as.length = F.length → F[i]? = some f → as[i]? = some a → (∀ k b, as[k]? = some b → k ≠ i → b = 0) → sumF as F j = a * vl f j := fun {F} => by
      induction F with
      | nil => intro as i _ h; simp at h
      | cons g F ih =>
        intro as i hl hf ha z
        cases as with
        | nil => cases hl
        | cons b as =>
          cases i with
          | zero =>
            cases Option.some.inj hf
            cases Option.some.inj ha
            have r : ∀ {as : List Int} {F : List Rw}, (∀ b ∈ as, b = 0) → sumF as F j = 0 := fun {as} => by
              induction as with
              | nil => intro F _; unfold sumF; cases F <;> rfl
              | cons c as ih2 =>
                intro F k
                cases F with
                | nil => rfl
                | cons h F =>
                  have := ih2 (F := F) fun g hg => k g (List.mem_cons_of_mem _ hg)
                  unfold sumF at this ⊢
                  rw [List.zipWith_cons_cons, List.sum_cons, this, k c (List.mem_cons_self ..)]; simp
            have w := r (as := as) (F := F) fun b hb => by
              obtain ⟨k, hk⟩ := List.mem_iff_getElem?.mp hb
              exact z (k + 1) b (by simpa using hk) (by omega)
            unfold sumF at w ⊢
            rw [List.zipWith_cons_cons, List.sum_cons, w, Int.add_zero]
          | succ i =>
            have := ih (as := as) (i := i) (by simpa using hl) (by simpa using hf) (by simpa using ha) fun k b hk ne => z (k + 1) b (by simpa using hk) (by omega)
            have w := z 0 b rfl (by omega)
            unfold sumF at this ⊢
            rw [List.zipWith_cons_cons, List.sum_cons, this, w]; simp
    refine go la hi ha fun k b hk ne => ?_
    have lk : k < F.length := by have := (List.getElem?_eq_some_iff.mp hk).1; omega
    exact zero (List.getElem?_eq_getElem lk) hk ne
  have e1 := e j
  rw [sj] at e1
  -- m x j = a f j, m x p = a f p
  have : m * (vl f (piv f) * x j) = m * (x (piv f) * vl f j) := by
    have u1 : m * (vl f (piv f) * x j) = vl f (piv f) * (m * x j) := by grind
    have u2 : m * (x (piv f) * vl f j) = (m * x (piv f)) * vl f j := by grind
    rw [u1, u2, e1, ea]; grind
  exact Int.eq_of_mul_eq_mul_left m0 this
theorem span_none {W : Nat} {F : List Rw} (R : Rref W F) {x : Nat → Int} (h : Spn (inR F) x) (z : ∀ g ∈ F, x (piv g) = 0) : ∀ j, x j = 0 := by
  intro j
  cases F with
  | nil =>
    obtain ⟨m, as, m0, la, e⟩ := span_sum h
    have := e j
    have w : sumF as [] j = 0 := by unfold sumF; cases as <;> rfl
    rw [w] at this
    exact (Int.mul_eq_zero.mp this).resolve_left m0
  | cons f F =>
    have := span_one R h (i := 0) (f := f) rfl (fun k g hk _ => z g (List.mem_of_getElem? hk)) j
    rw [z f (List.mem_cons_self ..), Int.zero_mul] at this
    have p := R.pos f (List.mem_cons_self ..)
    exact (Int.mul_eq_zero.mp this).resolve_left (by omega)
end AL
namespace AL
/-! ### sizes -/
def Bb (b : Nat) (x : Rw) : Prop := ∀ j, (vl x j).natAbs < 2 ^ b
theorem fdiv_le {g v : Int} (g0 : g ≠ 0) (h : g ∣ v) : (v.fdiv g).natAbs ≤ v.natAbs := by
  have e := fdiv_ex g0 h
  generalize v.fdiv g = q at e
  rw [← e, Int.natAbs_mul]
  exact Nat.le_mul_of_pos_left _ (by omega)
theorem Bb.mono {b c : Nat} {x : Rw} (h : Bb b x) (le : b ≤ c) : Bb c x := fun j => Nat.lt_of_lt_of_le (h j) (Nat.pow_le_pow_right (by decide) le)
theorem woG_ne {x h : Rw} {p : Nat} (hp : 0 < vl h p) : ((woG x p h : Nat) : Int) ≠ 0 ∧ ((woG x p h : Nat) : Int) ∣ vl h p ∧ ((woG x p h : Nat) : Int) ∣ vl x p := by
  have gp : 0 < woG x p h := Nat.gcd_pos_of_pos_right _ (by omega)
  exact ⟨by omega, Int.ofNat_dvd_left.mpr (Nat.gcd_dvd_right _ _), Int.ofNat_dvd_left.mpr (Nat.gcd_dvd_left _ _)⟩
theorem wo_bb {x h : Rw} {p a b : Nat} (hl : x.length = h.length) (hp : 0 < vl h p) (bx : Bb a x) (bh : Bb b h) : Bb (a + b + 1) (wo x p h) := by
  unfold wo
  by_cases z : vl x p = 0
  · rw [if_pos z]; exact bx.mono (by omega)
  rw [if_neg z]
  obtain ⟨g0, d1, d2⟩ := woG_ne (x := x) hp
  intro j
  rw [comb_vl hl]
  have m1 := fdiv_le g0 d1
  have m2 := fdiv_le g0 d2
  have h1 : ((vl h p).fdiv (woG x p h) * vl x j).natAbs ≤ (2 ^ b - 1) * (2 ^ a - 1) := by
    rw [Int.natAbs_mul]
    exact Nat.mul_le_mul (by have := bh p; omega) (by have := bx j; omega)
  have h2 : (-((vl x p).fdiv (woG x p h)) * vl h j).natAbs ≤ (2 ^ a - 1) * (2 ^ b - 1) := by
    rw [Int.natAbs_mul, Int.natAbs_neg]
    exact Nat.mul_le_mul (by have := bx p; omega) (by have := bh j; omega)
  have tri := Int.natAbs_add_le ((vl h p).fdiv (woG x p h) * vl x j) (-((vl x p).fdiv (woG x p h)) * vl h j)
  have pa := Nat.two_pow_pos a
  have pb := Nat.two_pow_pos b
  have e : 2 ^ (a + b + 1) = 2 * (2 ^ a * 2 ^ b) := by rw [Nat.pow_succ, Nat.pow_add, Nat.mul_comm]
  have le1 : (2 ^ b - 1) * (2 ^ a - 1) ≤ (2 ^ b - 1) * 2 ^ a := Nat.mul_le_mul_left _ (by omega)
  have le2 : (2 ^ a - 1) * (2 ^ b - 1) ≤ (2 ^ b - 1) * 2 ^ a := by rw [Nat.mul_comm]; exact le1
  have le3 : (2 ^ b - 1) * 2 ^ a = 2 ^ a * 2 ^ b - 2 ^ a := by rw [Nat.sub_mul, Nat.one_mul, Nat.mul_comm]
  have le4 : 2 ^ a ≤ 2 ^ a * 2 ^ b := Nat.le_mul_of_pos_right _ pb
  rw [e]
  omega
theorem prim_bb {x : Rw} {b : Nat} (h : ¬ allZ x) (bx : Bb b x) : Bb b (prim x) := fun j => by
  have e := prim_vl h j
  have g := sgR_ne h
  have : (vl (prim x) j).natAbs ≤ (vl x j).natAbs := by
    rw [← e, Int.natAbs_mul]
    exact Nat.le_mul_of_pos_left _ (by omega)
  have := bx j
  omega
theorem clr_bb {W m : Nat} : ∀ {F : List Rw} {x : Rw} {b : Nat}, (∀ f ∈ F, f.length = W) → (∀ f ∈ F, 0 < vl f (piv f)) → (∀ f ∈ F, Bb m f) → x.length = W → Bb b x → Bb (b + F.length * (m + 1)) (clr F x)
  | [], x, b, _, _, _, _, bx => by simpa [clr] using bx
  | f :: F, x, b, hl, hp, hb, lx, bx => by
    have hf := List.mem_cons_self (a := f) (l := F)
    obtain ⟨_, _, _, l, _, _⟩ := wo_lin (x := x) (h := f) (p := piv f) (lx.trans (hl f hf).symm) (hp f hf)
    have w := clr_bb (F := F) (x := wo x (piv f) f) (b := b + m + 1) (fun g hg => hl g (List.mem_cons_of_mem _ hg)) (fun g hg => hp g (List.mem_cons_of_mem _ hg)) (fun g hg => hb g (List.mem_cons_of_mem _ hg)) (l.trans lx) (wo_bb (lx.trans (hl f hf).symm) (hp f hf) bx (hb f hf))
    refine w.mono ?_
    rw [List.length_cons, Nat.succ_mul]; omega
def szN (b : Nat) : Nat → Nat
  | 0 => 0
  | k + 1 => (k + 1) * (szN b k + 1) + b
theorem szN_le (b k : Nat) : szN b k ≤ szN b (k + 1) := by
  show szN b k ≤ (k + 1) * (szN b k + 1) + b
  have : 1 * (szN b k + 1) ≤ (k + 1) * (szN b k + 1) := Nat.mul_le_mul_right _ (by omega)
  omega
theorem szN_mono (b : Nat) {k l : Nat} (h : k ≤ l) : szN b k ≤ szN b l := by
  induction h with
  | refl => exact Nat.le_refl _
  | step _ ih => exact Nat.le_trans ih (szN_le b _)
theorem b_szN (b k : Nat) : b ≤ szN b (k + 1) := by show b ≤ (k + 1) * (szN b k + 1) + b; omega
theorem step_bb {W b k : Nat} {F : List Rw} {r : Rw} (R : Rref W F) (lr : r.length = W) (lF : F.length ≤ k) (bF : ∀ f ∈ F, Bb (szN b k) f) (br : Bb b r) : (stepS F r).length ≤ k + 1 ∧ ∀ f ∈ stepS F r, Bb (szN b (k + 1)) f := by
  obtain ⟨c1, c2, c3⟩ := clr_spec R lr
  have cb := clr_bb R.len R.pos bF lr br
  have cb' : Bb (b + k * (szN b k + 1)) (clr F r) := cb.mono (Nat.add_le_add_left (Nat.mul_le_mul_right _ lF) _)
  unfold stepS
  by_cases z : allZ (clr F r)
  · rw [if_pos z]
    exact ⟨by omega, fun f hf => (bF f hf).mono (szN_le b k)⟩
  rw [if_neg z]
  refine ⟨by rw [List.length_append, List.length_map]; simp; omega, fun g hg => ?_⟩
  have pb := prim_bb z cb'
  have lp : (prim (clr F r)).length = W := (prim_len _).trans c1
  have pp : 0 < vl (prim (clr F r)) (piv (prim (clr F r))) := by rw [prim_piv z]; exact prim_pos z
  have pz : ∀ f ∈ F, vl (prim (clr F r)) (piv f) = 0 := fun f hf => by
    have e := prim_vl z (piv f)
    rw [c2 f hf] at e
    exact (Int.mul_eq_zero.mp e).resolve_left (sgR_ne z)
  have e2 : szN b (k + 1) = szN b k + (b + k * (szN b k + 1)) + 1 := by
    show (k + 1) * (szN b k + 1) + b = _
    rw [Nat.succ_mul]; omega
  rcases List.mem_append.mp hg with hg | hg
  · obtain ⟨f, hf, rfl⟩ := List.mem_map.mp hg
    unfold upR
    by_cases y : vl f (piv (prim (clr F r))) = 0
    · rw [if_pos y]; exact (bF f hf).mono (szN_le b k)
    · rw [if_neg y]
      refine prim_bb (wo_nz ((R.len f hf).trans lp.symm) pp (R.pos f hf) (pz f hf)) ?_
      have w := wo_bb (p := piv (prim (clr F r))) ((R.len f hf).trans lp.symm) pp (bF f hf) pb
      rw [e2]; exact w
  · rw [List.mem_singleton.mp hg, e2]
    exact pb.mono (by omega)
theorem spn_bb {W b : Nat} : ∀ {rows F : List Rw} {k : Nat}, Rref W F → F.length ≤ k → (∀ f ∈ F, Bb (szN b k) f) → (∀ r ∈ rows, r.length = W) → (∀ r ∈ rows, Bb b r) → (rows.foldl stepS F).length ≤ k + rows.length ∧ ∀ f ∈ rows.foldl stepS F, Bb (szN b (k + rows.length)) f
  | [], F, k, _, lF, bF, _, _ => ⟨by simpa using lF, by simpa using bF⟩
  | r :: rows, F, k, R, lF, bF, hl, hb => by
    obtain ⟨s1, s2⟩ := step_bb R (hl r (List.mem_cons_self ..)) lF bF (hb r (List.mem_cons_self ..))
    have w := spn_bb (rows := rows) (k := k + 1) (step_spec R (hl r (List.mem_cons_self ..))).1 s1 s2 (fun q hq => hl q (List.mem_cons_of_mem _ hq)) fun q hq => hb q (List.mem_cons_of_mem _ hq)
    rw [List.length_cons, show k + (rows.length + 1) = k + 1 + rows.length by omega]
    exact w
theorem spn_size {W b : Nat} {rows : List Rw} (hl : ∀ r ∈ rows, r.length = W) (hb : ∀ r ∈ rows, Bb b r) : (spn rows).length ≤ rows.length ∧ ∀ f ∈ spn rows, Bb (szN b rows.length) f := by
  have := spn_bb (rows := rows) (F := []) (k := 0) (rref_nil W) (Nat.le_refl _) (fun f hf => nomatch hf) hl hb
  rw [Nat.zero_add] at this
  exact this
theorem any_allZ (x : Rw) : (x.any fun k => decide (k ≠ 0)) = decide (¬ allZ x) := by
  rw [Bool.eq_iff_iff, List.any_eq_true, decide_eq_true_iff]
  constructor
  · rintro ⟨v, hv, e⟩ z
    exact of_decide_eq_true e (z v hv)
  · intro h
    obtain ⟨h1, h2, _⟩ := piv_spec h
    exact ⟨_, vl_mem h1, decide_eq_true h2⟩
theorem gcdR_take {x : Rw} {i : Nat} {v : Int} (h : x[i]? = some v) : gcdR (x.take (i + 1)) = Nat.gcd (gcdR (x.take i)) v.natAbs := by
  unfold gcdR
  rw [List.take_add_one, h, List.foldl_append]; rfl
end AL
set_option Elab.async false
set_option linter.all false
set_option maxRecDepth 100000
/-! determinants: by the first row, over lists of places; spans and minors -/
namespace AL
abbrev Fn := Nat → Int
/-- a first row, expanded -/
def exq (r : Fn) : (List Nat → Int) → List Nat → Int
  | _, [] => 0
  | F, p :: P => r p * F P - exq r (fun Q => F (p :: Q)) P
def det : List Fn → List Nat → Int
  | [], [] => 1
  | [], _ :: _ => 0
  | r :: R, P => exq r (det R) P
theorem exq_congr {r : Fn} : ∀ {P : List Nat} {F G : List Nat → Int}, (∀ Q, Q.length + 1 = P.length → (∀ q ∈ Q, q ∈ P) → F Q = G Q) → exq r F P = exq r G P
  | [], _, _, _ => rfl
  | p :: P, F, G, h => by
    show r p * F P - exq r _ P = r p * G P - exq r _ P
    rw [h P rfl fun q hq => List.mem_cons_of_mem _ hq, exq_congr (P := P) (F := fun Q => F (p :: Q)) (G := fun Q => G (p :: Q)) fun Q l k => h (p :: Q) (by rw [List.length_cons, List.length_cons, l]) fun q hq => by
      rcases List.mem_cons.mp hq with e | e
      · rw [e]; exact List.mem_cons_self ..
      · exact List.mem_cons_of_mem _ (k q e)]
theorem exq_lin (r : Fn) (a b : Int) : ∀ (P : List Nat) (F G : List Nat → Int), exq r (fun Q => a * F Q + b * G Q) P = a * exq r F P + b * exq r G P
  | [], _, _ => by show (0 : Int) = a * 0 + b * 0; omega
  | p :: P, F, G => by
    show r p * (a * F P + b * G P) - exq r (fun Q => a * F (p :: Q) + b * G (p :: Q)) P = a * (r p * F P - exq r (fun Q => F (p :: Q)) P) + b * (r p * G P - exq r (fun Q => G (p :: Q)) P)
    rw [exq_lin r a b P]
    grind
theorem exq_zero (r : Fn) : ∀ P : List Nat, exq r (fun _ => 0) P = 0
  | [] => rfl
  | p :: P => by show r p * 0 - exq r (fun _ => 0) P = 0; rw [exq_zero r P]; omega
theorem exq_rlin (r s : Fn) (a b : Int) : ∀ (P : List Nat) (F : List Nat → Int), exq (fun j => a * r j + b * s j) F P = a * exq r F P + b * exq s F P
  | [], _ => by show (0 : Int) = a * 0 + b * 0; omega
  | p :: P, F => by
    show (a * r p + b * s p) * F P - exq (fun j => a * r j + b * s j) (fun Q => F (p :: Q)) P = a * (r p * F P - exq r (fun Q => F (p :: Q)) P) + b * (s p * F P - exq s (fun Q => F (p :: Q)) P)
    rw [exq_rlin r s a b P]
    grind
theorem exq_swap (x y : Fn) : ∀ (P : List Nat) (F : List Nat → Int), exq x (fun Q => exq y F Q) P = - exq y (fun Q => exq x F Q) P
  | [], _ => rfl
  | p :: P, F => by
    have ih := exq_swap x y P (fun Q => F (p :: Q))
    have e1 : exq x (fun Q => exq y F (p :: Q)) P = y p * exq x F P + (-1) * exq x (fun Q => exq y (fun Q => F (p :: Q)) Q) P := by
      rw [← exq_lin]
      exact exq_congr fun Q _ _ => by show y p * F Q - _ = _; grind
    have e2 : exq y (fun Q => exq x F (p :: Q)) P = x p * exq y F P + (-1) * exq y (fun Q => exq x (fun Q => F (p :: Q)) Q) P := by
      rw [← exq_lin]
      exact exq_congr fun Q _ _ => by show x p * F Q - _ = _; grind
    show x p * exq y F P - exq x (fun Q => exq y F (p :: Q)) P = -(y p * exq x F P - exq y (fun Q => exq x F (p :: Q)) P)
    rw [e1, e2, ih]
    grind
theorem det_swap (x y : Fn) (B : List Fn) : ∀ (A : List Fn) (P : List Nat), det (A ++ x :: y :: B) P = - det (A ++ y :: x :: B) P
  | [], P => exq_swap x y P (det B)
  | a :: A, P => by
    show exq a (det (A ++ x :: y :: B)) P = - exq a (det (A ++ y :: x :: B)) P
    rw [exq_congr (G := fun Q => (-1) * det (A ++ y :: x :: B) Q + 0 * det (A ++ y :: x :: B) Q) fun Q _ _ => by rw [det_swap x y B A Q]; grind, exq_lin]
    have : exq a (fun Q => det (A ++ y :: x :: B) Q) P = exq a (det (A ++ y :: x :: B)) P := rfl
    grind
theorem det_lin (x y : Fn) (m t : Int) (B : List Fn) : ∀ (A : List Fn) (P : List Nat), det (A ++ (fun j => m * x j + t * y j) :: B) P = m * det (A ++ x :: B) P + t * det (A ++ y :: B) P
  | [], P => exq_rlin x y m t P (det B)
  | a :: A, P => by
    show exq a (det (A ++ (fun j => m * x j + t * y j) :: B)) P = m * exq a (det (A ++ x :: B)) P + t * exq a (det (A ++ y :: B)) P
    rw [exq_congr (G := fun Q => m * det (A ++ x :: B) Q + t * det (A ++ y :: B) Q) fun Q _ _ => det_lin x y m t B A Q]
    exact exq_lin a m t P _ _
theorem exq_rzero : ∀ (P : List Nat) (F : List Nat → Int), exq (fun _ => 0) F P = 0
  | [], _ => rfl
  | p :: P, F => by show 0 * F P - exq (fun _ => 0) _ P = 0; rw [exq_rzero P]; omega
theorem det_zero (B : List Fn) : ∀ (A : List Fn) (P : List Nat), det (A ++ (fun _ => 0) :: B) P = 0
  | [], P => exq_rzero P (det B)
  | a :: A, P => by
    show exq a (det (A ++ (fun _ => 0) :: B)) P = 0
    rw [exq_congr (G := fun _ => 0) fun Q _ _ => det_zero B A Q, exq_zero]
theorem det_two (x : Fn) (C : List Fn) : ∀ (B A : List Fn) (P : List Nat), det (A ++ x :: (B ++ x :: C)) P = 0
  | [], A, P => by
    have h := det_swap x x C A P
    show det (A ++ x :: x :: C) P = 0
    omega
  | b :: B, A, P => by
    have h := det_swap x b (B ++ x :: C) A P
    have ih := det_two x C B (A ++ [b]) P
    rw [List.append_assoc] at ih
    show det (A ++ x :: b :: (B ++ x :: C)) P = 0
    rw [h]
    have : det (A ++ b :: x :: (B ++ x :: C)) P = 0 := ih
    omega
/-- a row that stands twice -/
theorem det_dup {R : List Fn} (h : ¬ R.Nodup) (P : List Nat) : det R P = 0 := by
  have : ∃ A x B C, R = A ++ x :: (B ++ x :: C) := by
    clear P
    induction R with
    | nil => exact absurd List.nodup_nil h
    | cons r R ih =>
      by_cases m : r ∈ R
      · obtain ⟨B, C, e⟩ := List.append_of_mem m
        exact ⟨[], r, B, C, by rw [e]; rfl⟩
      · obtain ⟨A, x, B, C, e⟩ := ih fun n => h (List.nodup_cons.mpr ⟨m, n⟩)
        exact ⟨r :: A, x, B, C, by rw [e]; rfl⟩
  obtain ⟨A, x, B, C, rfl⟩ := this
  exact det_two x C B A P
/-- what is 0 with a row in a place is so for its span -/
theorem det_cls (A B : List Fn) (P : List Nat) : Cls0 fun x => det (A ++ x :: B) P = 0 :=
  ⟨det_zero B A P, fun {x y} m t hx hy => by rw [det_lin, hx, hy]; omega, fun {x s} s0 h => by
    have e := det_lin x x s 0 B A P
    rw [show (fun j => s * x j + 0 * x j) = fun j => s * x j from funext fun j => by omega, h] at e
    have : s * det (A ++ x :: B) P = 0 := by omega
    exact (Int.mul_eq_zero.mp this).resolve_left s0⟩
theorem nodup_sub {α : Type} [DecidableEq α] : ∀ {G F : List α}, G.Nodup → (∀ g ∈ G, g ∈ F) → G.length ≤ F.length
  | [], _, _, _ => Nat.zero_le _
  | g :: G, F, n, h => by
    obtain ⟨n1, n2⟩ := List.nodup_cons.mp n
    have ih := nodup_sub (F := F.erase g) n2 fun x hx => (List.mem_erase_of_ne (fun e => n1 (by rw [← e]; exact hx))).mpr (h x (List.mem_cons_of_mem _ hx))
    rw [List.length_erase_of_mem (h g (List.mem_cons_self ..))] at ih
    have : 0 < F.length := List.length_pos_of_mem (h g (List.mem_cons_self ..))
    rw [List.length_cons]; omega
noncomputable local instance : DecidableEq Fn := fun _ _ => Classical.propDecidable _
/-- more rows of a span than it has generators: their minors are 0 -/
theorem det_many {F : List Fn} (P : List Nat) : ∀ {X G : List Fn}, (∀ g ∈ G, g ∈ F) → (∀ x ∈ X, Spn (fun y => y ∈ F) x) → F.length < G.length + X.length → det (G ++ X) P = 0
  | [], G, hg, _, l => by
    rw [List.append_nil]
    refine det_dup (fun n => ?_) P
    have := nodup_sub n hg
    simp at l; omega
  | x :: X, G, hg, hx, l => by
    refine Spn.clo (det_cls G X P) (hx x (List.mem_cons_self ..)) fun y hy => ?_
    have ih := det_many (F := F) P (X := X) (G := G ++ [y]) (fun g hh => by
      rcases List.mem_append.mp hh with e | e
      · exact hg g e
      · rw [List.mem_singleton.mp e]; exact hy) (fun z hz => hx z (List.mem_cons_of_mem _ hz)) (by rw [List.length_append, List.length_singleton]; rw [List.length_cons] at l; omega)
    rw [List.append_assoc] at ih
    exact ih
theorem det_last_zero : ∀ {R : List Fn} {x : Fn} {P : List Nat}, (∀ p ∈ P, x p = 0) → det (R ++ [x]) P = 0
  | [], x, P, h => by
    show exq x (det []) P = 0
    have go : ∀ (P : List Nat) (F : List Nat → Int), (∀ p ∈ P, x p = 0) → exq x F P = 0 := fun P => by
      induction P with
      | nil => exact fun _ _ => rfl
      | cons p P ih =>
        intro F h
        show x p * F P - exq x _ P = 0
        rw [h p (List.mem_cons_self ..), ih _ fun q hq => h q (List.mem_cons_of_mem _ hq)]; omega
    exact go P _ h
  | r :: R, x, P, h => by
    show exq r (det (R ++ [x])) P = 0
    rw [exq_congr (G := fun _ => 0) fun Q _ k => det_last_zero fun p hp => h p (k p hp), exq_zero]
theorem exq_snoc (r : Fn) (q : Nat) : ∀ (P : List Nat) (F : List Nat → Int), ∃ e : Int, exq r F (P ++ [q]) = exq r (fun Q => F (Q ++ [q])) P + e * F P
  | [], F => ⟨r q, by show r q * F [] - 0 = 0 + r q * F []; omega⟩
  | p :: P, F => by
    obtain ⟨e, h⟩ := exq_snoc r q P (fun Q => F (p :: Q))
    refine ⟨-e, ?_⟩
    show r p * F (P ++ [q]) - exq r (fun Q => F (p :: Q)) (P ++ [q]) = (r p * F (P ++ [q]) - exq r (fun Q => F (p :: (Q ++ [q]))) P) + -e * F (p :: P)
    rw [h]; grind
/-- a last row that is 0 at all places but the last -/
theorem det_block : ∀ {R : List Fn} {x : Fn} {P : List Nat} {q : Nat}, (∀ p ∈ P, x p = 0) → P.length = R.length → det (R ++ [x]) (P ++ [q]) = det R P * x q
  | [], x, [], q, _, _ => by show x q * 1 - 0 = 1 * x q; omega
  | [], x, p :: P, q, _, l => by simp at l
  | r :: R, x, P, q, h, l => by
    show exq r (det (R ++ [x])) (P ++ [q]) = exq r (det R) P * x q
    obtain ⟨e, w⟩ := exq_snoc r q P (det (R ++ [x]))
    rw [w, det_last_zero h, exq_congr (G := fun Q => x q * det R Q + 0 * det R Q) fun Q lq k => by
      rw [det_block (fun p hp => h p (k p hp)) (by rw [List.length_cons] at l; omega)]; grind, exq_lin]
    have : exq r (fun Q => det R Q) P = exq r (det R) P := rfl
    grind
/-- the sum of minors is bounded -/
theorem exq_bd {r : Fn} {B C : Nat} : ∀ {P : List Nat} {F : List Nat → Int}, (∀ p ∈ P, (r p).natAbs ≤ B) → (∀ Q, Q.length + 1 = P.length → (∀ q ∈ Q, q ∈ P) → (F Q).natAbs ≤ C) → (exq r F P).natAbs ≤ P.length * (B * C)
  | [], _, _, _ => Nat.zero_le _
  | p :: P, F, hr, hF => by
    have ih := exq_bd (r := r) (B := B) (C := C) (P := P) (F := fun Q => F (p :: Q)) (fun q hq => hr q (List.mem_cons_of_mem _ hq)) fun Q l k => hF (p :: Q) (by rw [List.length_cons, List.length_cons, l]) fun q hq => by
      rcases List.mem_cons.mp hq with e | e
      · rw [e]; exact List.mem_cons_self ..
      · exact List.mem_cons_of_mem _ (k q e)
    have h1 := Nat.mul_le_mul (hr p (List.mem_cons_self ..)) (hF P rfl fun q hq => List.mem_cons_of_mem _ hq)
    rw [← Int.natAbs_mul] at h1
    show (r p * F P - exq r (fun Q => F (p :: Q)) P).natAbs ≤ (P.length + 1) * (B * C)
    rw [Nat.succ_mul]
    omega
def facB (B : Nat) : Nat → Nat
  | 0 => 1
  | n + 1 => (n + 1) * (B * facB B n)
theorem det_bd {B : Nat} : ∀ {R : List Fn} {P : List Nat}, (∀ r ∈ R, ∀ p ∈ P, (r p).natAbs ≤ B) → (det R P).natAbs ≤ facB B R.length
  | [], [], _ => (show (1 : Int).natAbs ≤ 1 by decide)
  | [], _ :: _, _ => by show (0 : Int).natAbs ≤ 1; decide
  | r :: R, P, h => by
    show (exq r (det R) P).natAbs ≤ _
    by_cases l : P.length = R.length + 1
    · have w := exq_bd (r := r) (B := B) (C := facB B R.length) (P := P) (F := det R) (h r (List.mem_cons_self ..)) fun Q _ k => det_bd fun s hs p hp => h s (List.mem_cons_of_mem _ hs) p (k p hp)
      rw [l] at w
      exact w
    · have z : ∀ (R : List Fn) (Q : List Nat), Q.length ≠ R.length → det R Q = 0 := fun R => by
        induction R with
        | nil =>
          intro Q h
          cases Q with
          | nil => exact absurd rfl h
          | cons _ _ => rfl
        | cons s R ih =>
          intro Q h
          show exq s (det R) Q = 0
          rw [exq_congr (G := fun _ => 0) fun Q' l' _ => ih Q' (by rw [List.length_cons] at h; omega), exq_zero]
      rw [exq_congr (G := fun _ => 0) fun Q lq _ => z R Q (by omega), exq_zero]
      exact Nat.zero_le _

/-- whole sums -/
inductive Lat (S : Fn → Prop) : Fn → Prop
  | mem {x} : S x → Lat S x
  | zero : Lat S fun _ => 0
  | lin {x y} (m t : Int) : Lat S x → Lat S y → Lat S fun j => m * x j + t * y j
theorem Lat.trans {S T : Fn → Prop} {x : Fn} (h : Lat S x) (k : ∀ y, S y → Lat T y) : Lat T x := by
  induction h with
  | mem h => exact k _ h
  | zero => exact .zero
  | lin m t _ _ i1 i2 => exact .lin m t i1 i2
theorem Lat.of {S : Fn → Prop} {x y : Fn} (h : Lat S x) (e : ∀ j, y j = x j) : Lat S y := by
  have : y = x := funext e
  rw [this]; exact h
theorem Lat.spn {S : Fn → Prop} {x : Fn} (h : Lat S x) : Spn S x := by
  induction h with
  | mem h => exact .mem h
  | zero => exact .zero
  | lin m t _ _ i1 i2 => exact .lin m t i1 i2
theorem exq_last (r : Fn) (q : Nat) : ∀ (P : List Nat), ∃ e : Int, ∀ F : List Nat → Int, exq r F (P ++ [q]) = exq r (fun Q => F (Q ++ [q])) P + (-1) ^ P.length * r q * F P
  | [] => ⟨0, fun F => by show r q * F [] - 0 = 0 + 1 * r q * F []; rw [Int.one_mul]; omega⟩
  | p :: P => by
    obtain ⟨_, h⟩ := exq_last r q P
    refine ⟨0, fun F => ?_⟩
    show r p * F (P ++ [q]) - exq r (fun Q => F (p :: Q)) (P ++ [q]) = (r p * F (P ++ [q]) - exq r (fun Q => F (p :: (Q ++ [q]))) P) + (-1) ^ (P.length + 1) * r q * F (p :: P)
    rw [h, Int.pow_succ]; grind
theorem exq_lat {S : Fn → Prop} (r : Fn) : ∀ (P : List Nat) (G : List Nat → Fn), (∀ Q, Lat S (G Q)) → Lat S fun c => exq r (fun Q => G Q c) P
  | [], _, _ => .zero
  | p :: P, G, h => by
    have ih := exq_lat r P (fun Q => G (p :: Q)) fun Q => h _
    refine (Lat.lin (r p) (-1) (h P) ih).of fun c => ?_
    show r p * G P c - exq r (fun Q => G (p :: Q) c) P = _
    omega
/-- expanded along the last row and place -/
theorem det_col (x : Fn) : ∀ (R : List Fn) (P : List Nat), Lat (fun y => y ∈ R) fun c => det (R ++ [x]) (P ++ [c]) - det R P * x c
  | [], [] => Lat.zero.of fun c => by show (x c * 1 - 0) - 1 * x c = 0; omega
  | [], p :: P => by
    refine Lat.zero.of fun c => ?_
    have h : ∀ (P : List Nat) (F : List Nat → Int), (∀ Q, F Q = det [] Q) → 2 ≤ P.length → exq x F P = 0 := fun P => by
      induction P with
      | nil => exact fun _ _ _ => rfl
      | cons p P ih =>
        intro F hF l
        show x p * F P - exq x (fun Q => F (p :: Q)) P = 0
        have z : exq x (fun Q => F (p :: Q)) P = 0 := by rw [exq_congr (G := fun _ => 0) fun Q _ _ => by rw [hF]; rfl, exq_zero]
        rw [z, hF]
        cases P with
        | nil => simp at l
        | cons q P => show x p * 0 - 0 = 0; omega
    show exq x (det []) (p :: P ++ [c]) - 0 * x c = 0
    rw [h _ _ (fun _ => rfl) (by simp)]; omega
  | r :: R, P => by
    have ih := det_col x R
    have up : ∀ {y : Fn}, Lat (fun y => y ∈ R) y → Lat (fun y => y ∈ r :: R) y := fun h => h.trans fun y hy => .mem (List.mem_cons_of_mem _ hy)
    have g := exq_lat (S := fun y => y ∈ r :: R) r P (fun Q c => det (R ++ [x]) (Q ++ [c]) - det R Q * x c) fun Q => up (ih Q)
    refine (Lat.lin 1 ((-1) ^ P.length * det (R ++ [x]) P) g (.mem (List.mem_cons_self ..))).of fun c => ?_
    show exq r (det (R ++ [x])) (P ++ [c]) - exq r (det R) P * x c = _
    obtain ⟨_, w⟩ := exq_last r c P
    rw [w]
    have e : exq r (fun Q => det (R ++ [x]) (Q ++ [c]) - det R Q * x c) P = exq r (fun Q => det (R ++ [x]) (Q ++ [c])) P - exq r (det R) P * x c := by
      rw [exq_congr (G := fun Q => 1 * det (R ++ [x]) (Q ++ [c]) + (-(x c)) * det R Q) fun Q _ _ => by grind, exq_lin]
      have : exq r (fun Q => det R Q) P = exq r (det R) P := rfl
      rw [this]; grind
    rw [e]; grind
end AL
set_option Elab.async false
set_option linter.all false
set_option maxRecDepth 100000
/-! rank by whole steps with exact quotients -/
namespace AL
abbrev vR (F : List Rw) : List Fn := F.map vl
theorem inR_mem {F : List Rw} {x : Fn} : (x ∈ vR F) ↔ inR F x := by
  unfold inR
  rw [List.mem_map]
  exact ⟨fun ⟨f, h, e⟩ => ⟨f, h, e.symm⟩, fun ⟨f, h, e⟩ => ⟨f, h, e.symm⟩⟩
theorem spn_in {F : List Rw} {x : Fn} : Spn (fun y => y ∈ vR F) x ↔ Spn (inR F) x :=
  ⟨fun h => h.trans fun _ hy => .mem (inR_mem.mp hy), fun h => h.trans fun _ hy => .mem (inR_mem.mpr hy)⟩
/-- so many rows are independent, and all others hang on them -/
structure RankIs (rows : List Rw) (s : Nat) : Prop where
  ex : ∃ (B : List Rw) (P : List Nat), B.length = s ∧ P.length = s ∧ (∀ b ∈ B, Spn (inR rows) (vl b)) ∧ det (vR B) P ≠ 0 ∧ ∀ r ∈ rows, Spn (inR B) (vl r)
/-- a minor that is not 0 says how many generators there are at least -/
theorem minor_le {F B : List Rw} {P : List Nat} (h : ∀ b ∈ B, Spn (inR F) (vl b)) (d : det (vR B) P ≠ 0) : B.length ≤ F.length := by
  refine Classical.byContradiction fun c => d ?_
  refine det_many (F := vR F) (X := vR B) (G := []) P (fun g hg => nomatch hg) (fun x hx => ?_) (by simp; omega)
  obtain ⟨b, hb, rfl⟩ := List.mem_map.mp hx
  exact spn_in.mpr (h b hb)
theorem RankIs.le {rows F : List Rw} {s : Nat} (h : RankIs rows s) (k : ∀ r ∈ rows, Spn (inR F) (vl r)) : s ≤ F.length := by
  obtain ⟨B, P, l, _, h1, h2, _⟩ := h.ex
  rw [← l]
  refine minor_le (fun b hb => ?_) h2
  refine (h1 b hb).trans ?_
  rintro y ⟨r, hr, rfl⟩
  exact k r hr
theorem RankIs.le_of {rows more : List Rw} {s t : Nat} (h : RankIs rows s) (h' : RankIs more t) (k : ∀ r ∈ rows, Spn (inR more) (vl r)) : s ≤ t := by
  obtain ⟨B', P', l', _, _, _, h3'⟩ := h'.ex
  rw [← l']
  refine h.le fun r hr => (k r hr).trans ?_
  rintro y ⟨q, hq, rfl⟩
  exact h3' q hq
/-- the same rank: the smaller span is the whole one -/
theorem RankIs.all {rows more : List Rw} {s : Nat} (h : RankIs rows s) (h' : RankIs more s) (k : ∀ r ∈ rows, Spn (inR more) (vl r)) : ∀ r ∈ more, Spn (inR rows) (vl r) := by
  obtain ⟨B, P, l, lP, h1, h2, _⟩ := h.ex
  obtain ⟨B', P', l', _, h1', _, h3'⟩ := h'.ex
  intro r hr
  -- the minor of B and r at P and any place is 0
  have z : ∀ q, det (vR B ++ [vl r]) (P ++ [q]) = 0 := fun q => by
    refine det_many (F := vR B') (X := vR B ++ [vl r]) (G := []) (P ++ [q]) (fun g hg => nomatch hg) (fun x hx => ?_) (by simp; omega)
    rcases List.mem_append.mp hx with hx | hx
    · obtain ⟨b, hb, rfl⟩ := List.mem_map.mp hx
      refine spn_in.mpr (((h1 b hb).trans ?_))
      rintro y ⟨q, hq, rfl⟩
      refine (k q hq).trans ?_
      rintro y ⟨q, hq, rfl⟩
      exact h3' q hq
    · rw [List.mem_singleton.mp hx]
      exact spn_in.mpr (h3' r hr)
  -- expanded along the last row: d r is a sum of the rows of B
  have c := (det_col (vl r) (vR B) P).spn
  refine Spn.trans (S := inR B) (Spn.div (s := -det (vR B) P) (by omega) ((spn_in.mp c).of fun q => ?_)) ?_
  · rw [z q]; grind
  · rintro y ⟨b, hb, rfl⟩
    exact h1 b hb

/-! ### the whole steps of the rank -/
/-- behind s pivots, ahead of the column k: d is the last pivot -/
structure Bar (W s k : Nat) (rows left : List Rw) (d : Int) (R : List Rw) (P : List Nat) : Prop where
  pm : R.Perm rows
  ll : left.length = R.length
  lw : ∀ r ∈ left, r.length = W
  sn : s ≤ R.length
  lP : P.length = s
  Pk : ∀ p ∈ P, p < k
  dd : d = det (vR (R.take s)) P
  d0 : d ≠ 0
  sp : ∀ j, s ≤ j → j < R.length → Spn (inR (R.take s)) fun c => vl (left.getD j []) c - d * vl (R.getD j []) c
  z : ∀ j, s ≤ j → j < R.length → ∀ c, c < k → vl (left.getD j []) c = 0
theorem bar_start {W : Nat} {rows : List Rw} (h : ∀ r ∈ rows, r.length = W) : Bar W 0 0 rows rows 1 rows [] :=
  ⟨.refl _, rfl, h, Nat.zero_le _, rfl, (fun p hp => nomatch hp), rfl, by decide, fun j _ _ => Spn.zero.of fun c => by omega, fun j _ _ c hc => by omega⟩
theorem bar_skip {W s k : Nat} {rows left R : List Rw} {d : Int} {P : List Nat} (b : Bar W s k rows left d R P) (h : ∀ j, s ≤ j → j < R.length → vl (left.getD j []) k = 0) : Bar W s (k + 1) rows left d R P :=
  ⟨b.pm, b.ll, b.lw, b.sn, b.lP, fun p hp => Nat.lt_succ_of_lt (b.Pk p hp), b.dd, b.d0, b.sp, fun j h1 h2 c hc => by
    rcases Nat.lt_or_eq_of_le (Nat.le_of_lt_succ hc) with w | w
    · exact b.z j h1 h2 c w
    · rw [w]; exact h j h1 h2⟩
/-- what stands there are minors -/
theorem bar_minor {W s k : Nat} {rows left R : List Rw} {d : Int} {P : List Nat} (b : Bar W s k rows left d R P) {j : Nat} (h1 : s ≤ j) (h2 : j < R.length) (c : Nat) : vl (left.getD j []) c = det (vR (R.take s) ++ [vl (R.getD j [])]) (P ++ [c]) := by
  have lT : (vR (R.take s)).length = s := by rw [List.length_map, List.length_take, Nat.min_eq_left b.sn]
  have e1 := det_block (R := vR (R.take s)) (x := vl (left.getD j [])) (P := P) (q := c) (fun p hp => b.z j h1 h2 p (b.Pk p hp)) (by rw [b.lP, lT])
  rw [← b.dd] at e1
  have e2 : det (vR (R.take s) ++ [fun c => 1 * (vl (left.getD j []) c - d * vl (R.getD j []) c) + d * vl (R.getD j []) c]) (P ++ [c]) = 1 * 0 + d * det (vR (R.take s) ++ [vl (R.getD j [])]) (P ++ [c]) := by
    rw [det_lin (fun c => vl (left.getD j []) c - d * vl (R.getD j []) c) (vl (R.getD j [])) 1 d [] (vR (R.take s)) (P ++ [c])]
    congr 2
    refine Spn.clo (det_cls (vR (R.take s)) [] (P ++ [c])) (b.sp j h1 h2) ?_
    rintro y ⟨f, hf, rfl⟩
    exact det_dup (fun n => by
      have := (List.nodup_append.mp n).2.2 (vl f) (List.mem_map.mpr ⟨f, hf, rfl⟩) (vl f) (List.mem_singleton.mpr rfl)
      exact this rfl) _
  rw [show (fun c => 1 * (vl (left.getD j []) c - d * vl (R.getD j []) c) + d * vl (R.getD j []) c) = vl (left.getD j []) from funext fun c => by omega, e1] at e2
  exact Int.eq_of_mul_eq_mul_left b.d0 (by omega)
theorem take_swap {α : Type} {R : List α} {s f : Nat} (hs : s < R.length) (hf : s ≤ f) (hl : f < R.length) : ((R.set s R[f]).set f R[s]).take s = R.take s := by
  refine List.ext_getElem (by simp) fun j h1 h2 => ?_
  have : j < s := by simp at h1; omega
  rw [List.getElem_take, List.getElem_take, List.getElem_set, List.getElem_set, if_neg (by omega), if_neg (by omega)]
theorem getD_swap {R : List Rw} {s f j : Nat} (hs : s < R.length) (hl : f < R.length) (hj : j < R.length) : ((R.set s R[f]).set f R[s]).getD j [] = R.getD (if j = f then s else if j = s then f else j) [] := by
  rw [List.getD_eq_getElem?_getD, List.getD_eq_getElem?_getD]
  by_cases e1 : j = f
  · subst e1
    rw [if_pos rfl, List.getElem?_set_self (by rw [List.length_set]; omega), List.getElem?_eq_getElem hs]
  · rw [if_neg e1, List.getElem?_set_ne (fun z => e1 z.symm)]
    by_cases e2 : j = s
    · subst e2
      rw [if_pos rfl, List.getElem?_set_self (by omega), List.getElem?_eq_getElem hl]
    · rw [if_neg e2, List.getElem?_set_ne (fun z => e2 z.symm)]
/-- two rows behind change their places -/
theorem bar_swap {W s k : Nat} {rows left R : List Rw} {d : Int} {P : List Nat} (b : Bar W s k rows left d R P) {f : Nat} (hs : s < left.length) (hf : s ≤ f) (hl : f < left.length) : ∃ R', Bar W s k rows ((left.set s left[f]).set f left[s]) d R' P ∧ R'.length = R.length := by
  have ll := b.ll
  have hs' : s < R.length := by omega
  have hl' : f < R.length := by omega
  refine ⟨(R.set s R[f]).set f R[s], ⟨(List.set_set_perm hs' hl').trans b.pm, by simp [ll], fun r hr => ?_, by simp; omega, b.lP, b.Pk, ?_, b.d0, fun j h1 h2 => ?_, fun j h1 h2 c hc => ?_⟩, by simp⟩
  · exact b.lw r ((List.set_set_perm hs hl).mem_iff.mp hr)
  · rw [take_swap hs' hf hl']; exact b.dd
  · rw [List.length_set, List.length_set] at h2
    rw [take_swap hs' hf hl', getD_swap hs hl (by omega), getD_swap hs' hl' h2]
    refine b.sp _ ?_ ?_ <;> split <;> (try split) <;> omega
  · rw [List.length_set, List.length_set] at h2
    rw [getD_swap hs hl (by omega)]
    refine b.z _ ?_ ?_ c hc <;> split <;> (try split) <;> omega
/-- one row behind the lead, less what the lead takes of it -/
def barR (lead r : Rw) (k : Nat) (d : Int) : Rw := List.zipWith (fun one two => (one * vl lead k - two * vl r k).fdiv d) r lead
theorem take_getD {R : List Rw} {s : Nat} (h : s < R.length) : R.take (s + 1) = R.take s ++ [R.getD s []] := by
  rw [List.take_add_one, List.getD_eq_getElem?_getD, List.getElem?_eq_getElem h]; rfl
theorem barR_len {lead r : Rw} {k : Nat} {d : Int} (h : r.length = lead.length) : (barR lead r k d).length = r.length := by unfold barR; rw [List.length_zipWith, h, Nat.min_self]
theorem bar_exact {W s k : Nat} {rows left R : List Rw} {d : Int} {P : List Nat} (b : Bar W s k rows left d R P) (hs : s < R.length) (hk : vl (left.getD s []) k ≠ 0) {j : Nat} (h1 : s < j) (h2 : j < R.length) :
    ∀ c, d * vl (barR (left.getD s []) (left.getD j []) k d) c = vl (left.getD j []) c * vl (left.getD s []) k - vl (left.getD s []) c * vl (left.getD j []) k := by
  have lT : (vR (R.take s)).length = s := by rw [List.length_map, List.length_take, Nat.min_eq_left b.sn]
  have lS : (vR (R.take (s + 1))).length = s + 1 := by rw [List.length_map, List.length_take]; omega
  have dS : det (vR (R.take (s + 1))) (P ++ [k]) = vl (left.getD s []) k := by
    rw [bar_minor b (Nat.le_refl s) hs k, take_getD hs]
    unfold vR
    rw [List.map_append]; rfl
  have lw : ∀ i, i < R.length → (left.getD i []).length = W := fun i hi => by
    have ll := b.ll
    rw [List.getD_eq_getElem?_getD, List.getElem?_eq_getElem (by omega)]
    exact b.lw _ (List.getElem_mem _)
  intro c
  -- the vector y, 0 at the old places and at k
  have yz : ∀ p ∈ P ++ [k], vl (left.getD j []) p * vl (left.getD s []) k - vl (left.getD s []) p * vl (left.getD j []) k = 0 := fun p hp => by
    rcases List.mem_append.mp hp with h | h
    · rw [b.z j (by omega) h2 p (b.Pk p h), b.z s (Nat.le_refl _) hs p (b.Pk p h)]; simp
    · rw [List.mem_singleton.mp h]; grind
  have e1 := det_block (R := vR (R.take (s + 1))) (x := fun c => vl (left.getD j []) c * vl (left.getD s []) k - vl (left.getD s []) c * vl (left.getD j []) k) (P := P ++ [k]) (q := c) yz (by rw [lS, List.length_append, b.lP]; rfl)
  rw [dS] at e1
  have up : ∀ {x : Fn}, Spn (inR (R.take s)) x → Spn (inR (R.take (s + 1))) x := fun h => h.trans fun y ⟨f, hf, e⟩ => .mem ⟨f, by rw [take_getD hs]; exact List.mem_append_left _ hf, e⟩
  have ms : Spn (inR (R.take (s + 1))) (vl (R.getD s [])) := .mem ⟨_, by rw [take_getD hs]; exact List.mem_append_right _ (List.mem_singleton.mpr rfl), rfl⟩
  have leadS : Spn (inR (R.take (s + 1))) (vl (left.getD s [])) := (Spn.lin 1 d (up (b.sp s (Nat.le_refl _) hs)) ms).of fun c => by omega
  have rest : Spn (inR (R.take (s + 1))) fun c => vl (left.getD s []) k * (vl (left.getD j []) c - d * vl (R.getD j []) c) + (-(vl (left.getD j []) k)) * vl (left.getD s []) c := .lin _ _ (up (b.sp j (by omega) h2)) leadS
  have e2 : det (vR (R.take (s + 1)) ++ [fun c => 1 * (vl (left.getD s []) k * (vl (left.getD j []) c - d * vl (R.getD j []) c) + (-(vl (left.getD j []) k)) * vl (left.getD s []) c) + (d * vl (left.getD s []) k) * vl (R.getD j []) c]) (P ++ [k] ++ [c]) = 1 * 0 + (d * vl (left.getD s []) k) * det (vR (R.take (s + 1)) ++ [vl (R.getD j [])]) (P ++ [k] ++ [c]) := by
    rw [det_lin (fun c => vl (left.getD s []) k * (vl (left.getD j []) c - d * vl (R.getD j []) c) + (-(vl (left.getD j []) k)) * vl (left.getD s []) c) (vl (R.getD j [])) 1 (d * vl (left.getD s []) k) [] (vR (R.take (s + 1))) (P ++ [k] ++ [c])]
    congr 2
    refine Spn.clo (det_cls (vR (R.take (s + 1))) [] (P ++ [k] ++ [c])) rest ?_
    rintro y ⟨f, hf, rfl⟩
    exact det_dup (fun n => by
      have := (List.nodup_append.mp n).2.2 (vl f) (List.mem_map.mpr ⟨f, hf, rfl⟩) (vl f) (List.mem_singleton.mpr rfl)
      exact this rfl) _
  rw [show (fun c => 1 * (vl (left.getD s []) k * (vl (left.getD j []) c - d * vl (R.getD j []) c) + (-(vl (left.getD j []) k)) * vl (left.getD s []) c) + (d * vl (left.getD s []) k) * vl (R.getD j []) c) = fun c => vl (left.getD j []) c * vl (left.getD s []) k - vl (left.getD s []) c * vl (left.getD j []) k from funext fun c => by grind, e1] at e2
  have dv : vl (left.getD j []) c * vl (left.getD s []) k - vl (left.getD s []) c * vl (left.getD j []) k = d * det (vR (R.take (s + 1)) ++ [vl (R.getD j [])]) (P ++ [k] ++ [c]) := by
    refine Int.eq_of_mul_eq_mul_left hk ?_
    rw [e2]; grind
  have l1 := lw j h2
  have l2 := lw s hs
  by_cases hc : c < W
  · have e : vl (barR (left.getD s []) (left.getD j []) k d) c = (vl (left.getD j []) c * vl (left.getD s []) k - vl (left.getD s []) c * vl (left.getD j []) k).fdiv d := vl_get (by
      unfold barR
      rw [List.getElem?_zipWith, vl_at (by omega), vl_at (by omega)])
    rw [e, fdiv_ex b.d0 ⟨_, dv⟩]
  · rw [vl_out (by rw [barR_len (by omega)]; omega), vl_out (by omega : (left.getD j []).length ≤ c), vl_out (by omega : (left.getD s []).length ≤ c)]
    simp
theorem bar_step {W s k : Nat} {rows left left' R : List Rw} {d : Int} {P : List Nat} (b : Bar W s k rows left d R P) (hs : s < R.length) (hk : vl (left.getD s []) k ≠ 0) (ll : left'.length = R.length) (h' : ∀ j, j < R.length → left'.getD j [] = if s < j then barR (left.getD s []) (left.getD j []) k d else left.getD j []) : Bar W (s + 1) (k + 1) rows left' (vl (left.getD s []) k) R (P ++ [k]) := by
  have lb := b.ll
  have lw : ∀ i, i < R.length → (left.getD i []).length = W := fun i hi => by
    rw [List.getD_eq_getElem?_getD, List.getElem?_eq_getElem (by omega)]
    exact b.lw _ (List.getElem_mem _)
  have ex := fun {j : Nat} (h1 : s < j) (h2 : j < R.length) => bar_exact b hs hk h1 h2
  refine ⟨b.pm, ll, fun r hr => ?_, hs, by rw [List.length_append, b.lP]; rfl, fun p hp => ?_, ?_, hk, fun j h1 h2 => ?_, fun j h1 h2 c hc => ?_⟩
  · obtain ⟨j, hj⟩ := List.mem_iff_getElem?.mp hr
    have jl := (List.getElem?_eq_some_iff.mp hj).1
    have e := h' j (by omega)
    rw [List.getD_eq_getElem?_getD, hj] at e
    have e' : r = if s < j then barR (left.getD s []) (left.getD j []) k d else left.getD j [] := e
    rw [e']
    split
    · rw [barR_len (by rw [lw j (by omega), lw s hs])]; exact lw j (by omega)
    · exact lw j (by omega)
  · rcases List.mem_append.mp hp with h | h
    · exact Nat.lt_succ_of_lt (b.Pk p h)
    · rw [List.mem_singleton.mp h]; exact Nat.lt_succ_self _
  · rw [bar_minor b (Nat.le_refl s) hs k, take_getD hs]
    unfold vR
    rw [List.map_append]; rfl
  · rw [h' j h2, if_pos (by omega)]
    have up : ∀ {x : Fn}, Spn (inR (R.take s)) x → Spn (inR (R.take (s + 1))) x := fun h => h.trans fun y ⟨f, hf, e⟩ => .mem ⟨f, by rw [take_getD hs]; exact List.mem_append_left _ hf, e⟩
    have ms : Spn (inR (R.take (s + 1))) (vl (R.getD s [])) := .mem ⟨_, by rw [take_getD hs]; exact List.mem_append_right _ (List.mem_singleton.mpr rfl), rfl⟩
    have leadS : Spn (inR (R.take (s + 1))) (vl (left.getD s [])) := (Spn.lin 1 d (up (b.sp s (Nat.le_refl _) hs)) ms).of fun c => by omega
    refine Spn.div b.d0 ((Spn.lin (vl (left.getD s []) k) (-(vl (left.getD j []) k)) (up (b.sp j (by omega) h2)) leadS).of fun c => ?_)
    have e := ex (by omega : s < j) h2 c
    grind
  · rw [h' j h2, if_pos (by omega)]
    have e := ex (by omega : s < j) h2 c
    have : vl (left.getD j []) c * vl (left.getD s []) k - vl (left.getD s []) c * vl (left.getD j []) k = 0 := by
      rcases Nat.lt_or_eq_of_le (Nat.le_of_lt_succ hc) with w | w
      · rw [b.z j (by omega) h2 c w, b.z s (Nat.le_refl _) hs c w]; simp
      · rw [w]; grind
    rw [this] at e
    exact (Int.mul_eq_zero.mp e).resolve_left b.d0
theorem bar_end {W s k : Nat} {rows left R : List Rw} {d : Int} {P : List Nat} (b : Bar W s k rows left d R P) (h : W ≤ k ∨ s = R.length) : RankIs rows s := by
  refine ⟨R.take s, P, by rw [List.length_take, Nat.min_eq_left b.sn], b.lP, fun x hx => .mem ⟨x, b.pm.mem_iff.mp (List.mem_of_mem_take hx), rfl⟩, by rw [← b.dd]; exact b.d0, fun r hr => ?_⟩
  obtain ⟨j, hj⟩ := List.mem_iff_getElem?.mp (b.pm.mem_iff.mpr hr)
  have jl := (List.getElem?_eq_some_iff.mp hj).1
  by_cases c : j < s
  · exact .mem ⟨r, List.mem_of_getElem? (by rw [List.getElem?_take, if_pos c]; exact hj), rfl⟩
  · rcases h with h | h
    · have e : R.getD j [] = r := by rw [List.getD_eq_getElem?_getD, hj]; rfl
      have sp := b.sp j (by omega) jl
      rw [e] at sp
      refine Spn.div (s := -d) (by have := b.d0; omega) (sp.of fun q => ?_)
      have z : vl (left.getD j []) q = 0 := by
        by_cases hq : q < k
        · exact b.z j (by omega) jl q hq
        · have lw : (left.getD j []).length = W := by
            have ll := b.ll
            rw [List.getD_eq_getElem?_getD, List.getElem?_eq_getElem (by omega)]
            exact b.lw _ (List.getElem_mem _)
          exact vl_out (by omega)
      rw [z]; grind
    · omega
/-- the bound of what stands there -/
theorem bar_bd {W s k B : Nat} {rows left R : List Rw} {d : Int} {P : List Nat} (b : Bar W s k rows left d R P) (hB : ∀ r ∈ rows, ∀ v ∈ r, v.natAbs ≤ B) {j : Nat} (h1 : s ≤ j) (h2 : j < R.length) (c : Nat) : (vl (left.getD j []) c).natAbs ≤ facB B (s + 1) := by
  rw [bar_minor b h1 h2 c]
  have vb : ∀ r ∈ R, ∀ p, (vl r p).natAbs ≤ B := fun r hr p => by
    by_cases d : p < r.length
    · exact hB r (b.pm.mem_iff.mp hr) _ (vl_mem d)
    · rw [vl_out (by omega)]; exact Nat.zero_le _
  have w := det_bd (B := B) (R := vR (R.take s) ++ [vl (R.getD j [])]) (P := P ++ [c]) fun x hx p _ => by
    rcases List.mem_append.mp hx with hx | hx
    · obtain ⟨r, hr, rfl⟩ := List.mem_map.mp hx
      exact vb r (List.mem_of_mem_take hr) p
    · rw [List.mem_singleton.mp hx]
      refine vb _ ?_ p
      rw [List.getD_eq_getElem?_getD, List.getElem?_eq_getElem h2]
      exact List.getElem_mem _
  rw [List.length_append, List.length_map, List.length_take, Nat.min_eq_left b.sn] at w
  exact w
end AL
set_option Elab.async false
set_option linter.all false
set_option maxRecDepth 100000
/-! rows with rising pivots, Hermite's form: lattices and sizes -/
namespace AL
/-! ### places that change, or stand twice -/
theorem exq_csw (r : Fn) (p q : Nat) (B : List Nat) : ∀ (A : List Nat) (F : List Nat → Int), (∀ A' B', F (A' ++ p :: q :: B') = - F (A' ++ q :: p :: B')) → exq r F (A ++ p :: q :: B) = - exq r F (A ++ q :: p :: B)
  | [], F, h => by
    have e : exq r (fun Q => F (p :: q :: Q)) B = - exq r (fun Q => F (q :: p :: Q)) B := by
      rw [exq_congr (G := fun Q => (-1) * F (q :: p :: Q) + 0 * F (q :: p :: Q)) fun Q _ _ => by have := h [] Q; simp only [List.nil_append] at this; rw [this]; omega, exq_lin]; omega
    show r p * F (q :: B) - (r q * F (p :: B) - exq r (fun Q => F (p :: q :: Q)) B) = -(r q * F (p :: B) - (r p * F (q :: B) - exq r (fun Q => F (q :: p :: Q)) B))
    rw [e]; omega
  | a :: A, F, h => by
    have ih := exq_csw r p q B A (fun Q => F (a :: Q)) fun A' B' => h (a :: A') B'
    show r a * F (A ++ p :: q :: B) - exq r (fun Q => F (a :: Q)) (A ++ p :: q :: B) = -(r a * F (A ++ q :: p :: B) - exq r (fun Q => F (a :: Q)) (A ++ q :: p :: B))
    rw [ih, h A B]; grind
theorem det_csw (p q : Nat) : ∀ (R : List Fn) (A B : List Nat), det R (A ++ p :: q :: B) = - det R (A ++ q :: p :: B)
  | [], [], _ => rfl
  | [], _ :: _, _ => rfl
  | r :: R, A, B => exq_csw r p q B A (det R) fun A' B' => det_csw p q R A' B'
theorem det_ctwo (R : List Fn) (c : Nat) (C : List Nat) : ∀ (B A : List Nat), det R (A ++ c :: (B ++ c :: C)) = 0
  | [], A => by
    have h := det_csw c c R A C
    show det R (A ++ c :: c :: C) = 0
    omega
  | b :: B, A => by
    have h := det_csw c b R A (B ++ c :: C)
    have ih := det_ctwo R c C B (A ++ [b])
    rw [List.append_assoc] at ih
    show det R (A ++ c :: b :: (B ++ c :: C)) = 0
    rw [h]
    have : det R (A ++ b :: c :: (B ++ c :: C)) = 0 := ih
    omega
theorem exq_at {S : Fn → Prop} {r : Fn} (hr : S r) (P2 : List Nat) : ∀ (P1 : List Nat) (F : List Nat → Int), (∀ A B, Lat S fun c => F (A ++ c :: B)) → Lat S fun c => exq r F (P1 ++ c :: P2)
  | [], F, h => by
    have g := exq_lat (S := S) r P2 (fun Q c => F (c :: Q)) fun Q => h [] Q
    refine (Lat.lin (F P2) (-1) (.mem hr) g).of fun c => ?_
    show r c * F P2 - exq r (fun Q => F (c :: Q)) P2 = _
    grind
  | p :: P1, F, h => by
    have ih := exq_at hr P2 P1 (fun Q => F (p :: Q)) fun A B => h (p :: A) B
    refine (Lat.lin (r p) (-1) (h P1 P2) ih).of fun c => ?_
    show r p * F (P1 ++ c :: P2) - exq r (fun Q => F (p :: Q)) (P1 ++ c :: P2) = _
    omega
theorem det_at : ∀ (R : List Fn) (P1 P2 : List Nat), Lat (fun y => y ∈ R) fun c => det R (P1 ++ c :: P2)
  | [], [], _ => Lat.zero.of fun _ => rfl
  | [], _ :: _, _ => Lat.zero.of fun _ => rfl
  | r :: R, P1, P2 => exq_at (S := fun y => y ∈ r :: R) (List.mem_cons_self ..) P2 P1 (det R) fun A B => (det_at R A B).trans fun y hy => .mem (List.mem_cons_of_mem _ hy)
theorem exq_zcol {r : Fn} {p : Nat} (hr : r p = 0) : ∀ {P : List Nat} {F : List Nat → Int}, (∀ Q, p ∈ Q → F Q = 0) → p ∈ P → exq r F P = 0
  | [], _, _, h => nomatch h
  | q :: P, F, hF, h => by
    show r q * F P - exq r (fun Q => F (q :: Q)) P = 0
    by_cases c : p ∈ P
    · rw [hF P c, exq_zcol hr (P := P) (F := fun Q => F (q :: Q)) (fun Q k => hF _ (List.mem_cons_of_mem _ k)) c]; omega
    · have e : p = q := (List.mem_cons.mp h).resolve_right c
      subst e
      rw [hr, exq_congr (G := fun _ => 0) fun Q _ _ => hF _ (List.mem_cons_self ..), exq_zero]; omega
theorem det_zcol {p : Nat} : ∀ {R : List Fn} {P : List Nat}, (∀ r ∈ R, r p = 0) → p ∈ P → det R P = 0
  | [], _ :: _, _, _ => rfl
  | [], [], _, h => nomatch h
  | r :: R, P, h, hp => exq_zcol (h r (List.mem_cons_self ..)) (fun Q k => det_zcol (fun s hs => h s (List.mem_cons_of_mem _ hs)) k) hp
theorem facB_pos {B : Nat} (h : 1 ≤ B) : ∀ n, 1 ≤ facB B n
  | 0 => Nat.le_refl _
  | n + 1 => by
    have := facB_pos h n
    show 1 ≤ (n + 1) * (B * facB B n)
    exact Nat.mul_pos (by omega) (Nat.mul_pos h this)
theorem facB_step {B : Nat} (h : 1 ≤ B) (n : Nat) : facB B n ≤ facB B (n + 1) := by
  show facB B n ≤ (n + 1) * (B * facB B n)
  have h1 : 1 * facB B n ≤ B * facB B n := Nat.mul_le_mul_right _ h
  have h2 : 1 * (B * facB B n) ≤ (n + 1) * (B * facB B n) := Nat.mul_le_mul_right _ (by omega)
  omega
theorem facB_mono {B : Nat} (h : 1 ≤ B) {m n : Nat} (l : m ≤ n) : facB B m ≤ facB B n := by
  induction l with
  | refl => exact Nat.le_refl _
  | step _ ih => exact Nat.le_trans ih (facB_step h _)
/-! ### rising pivots -/
structure Ech (W : Nat) (F : List Rw) : Prop where
  len : ∀ f ∈ F, f.length = W
  nz : ∀ f ∈ F, vl f (piv f) ≠ 0
  asc : F.Pairwise fun f h => piv f < piv h
theorem Ech.tail {W : Nat} {f : Rw} {F : List Rw} (h : Ech W (f :: F)) : Ech W F := ⟨fun g hg => h.len g (List.mem_cons_of_mem _ hg), fun g hg => h.nz g (List.mem_cons_of_mem _ hg), (List.pairwise_cons.mp h.asc).2⟩
theorem ahead_zero {f : Rw} (h : vl f (piv f) ≠ 0) : ∀ j, j < piv f → vl f j = 0 := (piv_spec (not_allZ h)).2.2
theorem Ech.head {W : Nat} {f : Rw} {F : List Rw} (h : Ech W (f :: F)) : ∀ g ∈ F, ∀ j, j ≤ piv f → vl g j = 0 := fun g hg j hj => by
  have := (List.pairwise_cons.mp h.asc).1 g hg
  exact ahead_zero (h.nz g (List.mem_cons_of_mem _ hg)) j (by omega)
theorem lat_cons {f : Rw} {F : List Rw} {x : Fn} (h : Lat (inR (f :: F)) x) : ∃ a y, Lat (inR F) y ∧ ∀ j, x j = a * vl f j + y j := by
  induction h with
  | @mem x h =>
    obtain ⟨g, hg, rfl⟩ := h
    rcases List.mem_cons.mp hg with rfl | hg
    · exact ⟨1, fun _ => 0, .zero, fun j => by simp⟩
    · exact ⟨0, vl g, .mem ⟨g, hg, rfl⟩, fun j => by omega⟩
  | zero => exact ⟨0, fun _ => 0, .zero, fun j => by simp⟩
  | lin m t _ _ i1 i2 =>
    obtain ⟨a, y, hy, ea⟩ := i1
    obtain ⟨b, z, hz, eb⟩ := i2
    exact ⟨m * a + t * b, _, .lin m t hy hz, fun j => by dsimp only; rw [ea, eb]; grind⟩
theorem spn_cons {f : Rw} {F : List Rw} {x : Fn} (h : Spn (inR (f :: F)) x) : ∃ m a y, m ≠ 0 ∧ Spn (inR F) y ∧ ∀ j, m * x j = a * vl f j + y j := by
  refine Spn.clo (R := fun x => ∃ m a y, m ≠ 0 ∧ Spn (inR F) y ∧ ∀ j, m * x j = a * vl f j + y j) ⟨?_, ?_, ?_⟩ h ?_
  · exact ⟨1, 0, fun _ => 0, by decide, .zero, fun j => by simp⟩
  · rintro x y p q ⟨m, a, u, m0, hu, ea⟩ ⟨n, b, v, n0, hv, eb⟩
    exact ⟨m * n, (p * n) * a + (q * m) * b, _, Int.mul_ne_zero m0 n0, .lin (p * n) (q * m) hu hv, fun j => by
      have h1 := ea j
      have h2 := eb j
      dsimp only
      have e : m * n * (p * x j + q * y j) = (p * n) * (m * x j) + (q * m) * (n * y j) := by grind
      rw [e, h1, h2]; grind⟩
  · rintro x s s0 ⟨m, a, u, m0, hu, ea⟩
    exact ⟨m * s, a, u, Int.mul_ne_zero m0 s0, hu, fun j => by rw [← ea j, Int.mul_assoc]⟩
  · rintro y ⟨g, hg, rfl⟩
    rcases List.mem_cons.mp hg with rfl | hg
    · exact ⟨1, 1, fun _ => 0, by decide, .zero, fun j => by simp⟩
    · exact ⟨1, 0, vl g, by decide, .mem ⟨g, hg, rfl⟩, fun j => by omega⟩
/-- a pivot divides what is 0 at the pivots ahead -/
theorem ech_dvd {W : Nat} : ∀ {F : List Rw} {x : Fn}, Ech W F → Lat (inR F) x → ∀ {f : Rw}, f ∈ F → (∀ g ∈ F, piv g < piv f → x (piv g) = 0) → vl f (piv f) ∣ x (piv f)
  | [], _, _, _, _, h, _ => nomatch h
  | e :: F, x, E, h, f, hf, z => by
    obtain ⟨a, y, hy, ex⟩ := lat_cons h
    have y0 : ∀ j, j ≤ piv e → y j = 0 := fun j hj => by
      have : ∀ y, Lat (inR F) y → y j = 0 := fun y h => by
        induction h with
        | mem h => obtain ⟨g, hg, rfl⟩ := h; exact E.head g hg j hj
        | zero => rfl
        | lin m t _ _ i1 i2 => dsimp only; rw [i1, i2]; omega
      exact this y hy
    rcases List.mem_cons.mp hf with rfl | hf
    · rw [ex, y0 _ (Nat.le_refl _), Int.add_zero]
      exact ⟨a, Int.mul_comm ..⟩
    · have lt := (List.pairwise_cons.mp E.asc).1 f hf
      have xe := z e (List.mem_cons_self ..) lt
      rw [ex, y0 _ (Nat.le_refl _), Int.add_zero] at xe
      have a0 := (Int.mul_eq_zero.mp xe).resolve_right (E.nz e (List.mem_cons_self ..))
      have xy : ∀ j, x j = y j := fun j => by rw [ex, a0]; omega
      rw [xy]
      exact ech_dvd E.tail hy hf fun g hg hl => by rw [← xy]; exact z g (List.mem_cons_of_mem _ hg) hl
theorem spn_z {W : Nat} {e : Rw} {F : List Rw} (E : Ech W (e :: F)) {y : Fn} (h : Spn (inR F) y) {j : Nat} (hj : j ≤ piv e) : y j = 0 := by
  refine Spn.clo (R := fun y => y j = 0) ⟨rfl, fun {x y} m t hx hy => by dsimp only; rw [hx, hy]; omega, fun {x s} s0 h => (Int.mul_eq_zero.mp h).resolve_left s0⟩ h ?_
  rintro y ⟨g, hg, rfl⟩
  exact E.head g hg j hj
/-- the first item of what hangs stands at a pivot -/
theorem ech_lead {W : Nat} : ∀ {F : List Rw} {x : Fn}, Ech W F → Spn (inR F) x → ∀ {p : Nat}, x p ≠ 0 → (∀ j, j < p → x j = 0) → ∃ f ∈ F, piv f = p
  | [], x, _, h, p, hp, _ => by
    have : x p = 0 := Spn.clo (R := fun y => y p = 0) ⟨rfl, fun {x y} m t hx hy => by dsimp only; rw [hx, hy]; omega, fun {x s} s0 h => (Int.mul_eq_zero.mp h).resolve_left s0⟩ h (by rintro y ⟨g, hg, _⟩; exact nomatch hg)
    exact absurd this hp
  | e :: F, x, E, h, p, hp, z => by
    obtain ⟨m, a, y, m0, hy, ex⟩ := spn_cons h
    have en := E.nz e (List.mem_cons_self ..)
    by_cases a0 : a = 0
    · have xy : ∀ j, m * x j = y j := fun j => by rw [ex, a0]; omega
      obtain ⟨f, hf, pf⟩ := ech_lead E.tail hy (p := p) (by rw [← xy]; exact Int.mul_ne_zero m0 hp) fun j hj => by rw [← xy, z j hj, Int.mul_zero]
      exact ⟨f, List.mem_cons_of_mem _ hf, pf⟩
    · refine ⟨e, List.mem_cons_self .., ?_⟩
      have xe : x (piv e) ≠ 0 := fun w => by
        have := ex (piv e)
        rw [w, spn_z E hy (Nat.le_refl _), Int.mul_zero, Int.add_zero] at this
        exact (Int.mul_ne_zero a0 en) this.symm
      rcases Nat.lt_trichotomy (piv e) p with w | w | w
      · exact absurd (z _ w) xe
      · exact w
      · have := ex p
        rw [spn_z E hy (by omega), ahead_zero en p w, Int.mul_zero, Int.add_zero] at this
        exact absurd this (Int.mul_ne_zero m0 hp)
theorem first_nz {x : Fn} (h : ∃ j, x j ≠ 0) : ∃ p, x p ≠ 0 ∧ ∀ i, i < p → x i = 0 := by
  obtain ⟨j, c⟩ := h
  have go : ∀ n, (∃ i, i ≤ n ∧ x i ≠ 0) → ∃ p, x p ≠ 0 ∧ ∀ i, i < p → x i = 0 := fun n => by
    induction n with
    | zero => rintro ⟨i, hi, h⟩; exact ⟨i, h, fun k hk => by omega⟩
    | succ n ih =>
      rintro ⟨i, hi, h⟩
      by_cases w : ∃ i, i ≤ n ∧ x i ≠ 0
      · exact ih w
      · exact ⟨i, h, fun k hk => Classical.byContradiction fun z => w ⟨k, by omega, z⟩⟩
  exact go j ⟨j, Nat.le_refl _, c⟩
theorem ech_zero {W : Nat} {F : List Rw} (E : Ech W F) {x : Fn} (h : Spn (inR F) x) (z : ∀ f ∈ F, x (piv f) = 0) (j : Nat) : x j = 0 := by
  refine Classical.byContradiction fun c => ?_
  have : ∃ p, x p ≠ 0 ∧ ∀ i, i < p → x i = 0 := by
    have go : ∀ n, (∃ i, i ≤ n ∧ x i ≠ 0) → ∃ p, x p ≠ 0 ∧ ∀ i, i < p → x i = 0 := fun n => by
      induction n with
      | zero => rintro ⟨i, hi, h⟩; exact ⟨i, h, fun k hk => by omega⟩
      | succ n ih =>
        rintro ⟨i, hi, h⟩
        by_cases w : ∃ i, i ≤ n ∧ x i ≠ 0
        · exact ih w
        · exact ⟨i, h, fun k hk => Classical.byContradiction fun z => w ⟨k, by omega, z⟩⟩
    exact go j ⟨j, Nat.le_refl _, c⟩
  obtain ⟨p, hp, hz⟩ := this
  obtain ⟨f, hf, rfl⟩ := ech_lead E h hp hz
  exact hp (z f hf)
theorem ech_det {W : Nat} : ∀ {F : List Rw}, Ech W F → det (vR F) (F.map piv) ≠ 0
  | [], _ => by decide
  | f :: F, E => by
    have ih := ech_det E.tail
    have e : det (vR (f :: F)) ((f :: F).map piv) = vl f (piv f) * det (vR F) (F.map piv) - exq (vl f) (fun Q => det (vR F) (piv f :: Q)) (F.map piv) := rfl
    rw [e, exq_congr (G := fun _ => 0) fun Q _ _ => det_zcol (p := piv f) (fun r hr => by
      obtain ⟨g, hg, rfl⟩ := List.mem_map.mp hr
      exact E.head g hg _ (Nat.le_refl _)) (List.mem_cons_self ..), exq_zero, Int.sub_zero]
    exact Int.mul_ne_zero (E.nz f (List.mem_cons_self ..)) ih
/-- a minor of a span that is not 0 comes from one of the generators -/
theorem minor_sub {rows : List Rw} {P : List Nat} {N : Nat} (h : ∀ G : List Fn, (∀ g ∈ G, g ∈ vR rows) → G.length = N → det G P = 0) : ∀ {X G : List Fn}, (∀ g ∈ G, g ∈ vR rows) → (∀ x ∈ X, Spn (fun y => y ∈ vR rows) x) → G.length + X.length = N → det (G ++ X) P = 0
  | [], G, hg, _, l => by rw [List.append_nil]; exact h G hg (by simpa using l)
  | x :: X, G, hg, hx, l => by
    refine Spn.clo (det_cls G X P) (hx x (List.mem_cons_self ..)) fun y hy => ?_
    have ih := minor_sub h (X := X) (G := G ++ [y]) (fun g hh => by
      rcases List.mem_append.mp hh with e | e
      · exact hg g e
      · rw [List.mem_singleton.mp e]; exact hy) (fun z hz => hx z (List.mem_cons_of_mem _ hz)) (by rw [List.length_append, List.length_singleton]; rw [List.length_cons] at l; omega)
    rw [List.append_assoc] at ih
    exact ih
/-- rows with rising pivots for the lattice of some rows with small numbers -/
structure EchOf (W B n : Nat) (rows F : List Rw) : Prop where
  E : Ech W F
  lr : ∀ r ∈ rows, r.length = W
  to : ∀ f ∈ F, Lat (inR rows) (vl f)
  fro : ∀ r ∈ rows, Lat (inR F) (vl r)
  bd : ∀ r ∈ rows, ∀ v ∈ r, v.natAbs ≤ B
  B1 : 1 ≤ B
  ln : F.length ≤ n
theorem EchOf.minor {W B n : Nat} {rows F : List Rw} (h : EchOf W B n rows F) : ∃ G : List Fn, (∀ g ∈ G, g ∈ vR rows) ∧ G.length = F.length ∧ det G (F.map piv) ≠ 0 ∧ ∀ P, (det G P).natAbs ≤ facB B n := by
  have : ∃ G : List Fn, (∀ g ∈ G, g ∈ vR rows) ∧ G.length = F.length ∧ det G (F.map piv) ≠ 0 := Classical.byContradiction fun c => by
    refine ech_det h.E ?_
    refine minor_sub (rows := rows) (N := F.length) (X := vR F) (G := []) (P := F.map piv) (fun G hg l => Classical.byContradiction fun w => c ⟨G, hg, l, w⟩) (fun g hg => nomatch hg) (fun x hx => ?_) (by simp)
    obtain ⟨f, hf, rfl⟩ := List.mem_map.mp hx
    exact spn_in.mpr (h.to f hf).spn
  obtain ⟨G, h1, h2, h3⟩ := this
  refine ⟨G, h1, h2, h3, fun P => Nat.le_trans (det_bd (B := B) fun r hr p _ => ?_) (facB_mono h.B1 (by rw [h2]; exact h.ln))⟩
  obtain ⟨q, hq, rfl⟩ := List.mem_map.mp (h1 r hr)
  by_cases d : p < q.length
  · exact h.bd q hq _ (vl_mem d)
  · rw [vl_out (by omega)]; exact Nat.zero_le _
theorem EchOf.pivot {W B n : Nat} {rows F : List Rw} (h : EchOf W B n rows F) {f : Rw} (hf : f ∈ F) : (vl f (piv f)).natAbs ≤ facB B n := by
  obtain ⟨G, h1, h2, h3, h4⟩ := h.minor
  obtain ⟨F1, F2, e⟩ := List.append_of_mem hf
  have eP : F.map piv = F1.map piv ++ piv f :: F2.map piv := by rw [e, List.map_append]; rfl
  have w : Lat (inR F) fun c => det G (F1.map piv ++ c :: F2.map piv) := by
    refine (det_at G (F1.map piv) (F2.map piv)).trans fun y hy => ?_
    obtain ⟨q, hq, rfl⟩ := List.mem_map.mp (h1 y hy)
    exact h.fro q hq
  have dv := ech_dvd h.E w hf fun g hg lt => by
    have g1 : g ∈ F1 := by
      rw [e] at hg
      rcases List.mem_append.mp hg with m | m
      · exact m
      · have as := h.E.asc
        rw [e] at as
        rcases List.mem_cons.mp m with rfl | m
        · omega
        · have := (List.pairwise_cons.mp (List.pairwise_append.mp as).2.1).1 g m
          omega
    obtain ⟨A, C, eA⟩ := List.append_of_mem g1
    rw [eA, List.map_append, List.append_assoc]
    exact det_ctwo G (piv g) (F2.map piv) (C.map piv) (A.map piv)
  rw [← eP] at dv
  exact Nat.le_trans (Nat.le_of_dvd (by omega) (Int.natAbs_dvd_natAbs.mpr dv)) (h4 _)
/-- what hangs is as small as its items at the pivots -/
theorem EchOf.item {W B n X : Nat} {rows F : List Rw} (h : EchOf W B n rows F) {x : Fn} (hx : Spn (inR F) x) (z : ∀ f ∈ F, (x (piv f)).natAbs ≤ X) (c : Nat) : (x c).natAbs ≤ n * (X * facB B n) := by
  obtain ⟨G, h1, h2, h3, h4⟩ := h.minor
  have d0 : det (x :: G) (c :: F.map piv) = 0 := by
    refine det_many (F := vR F) (X := x :: G) (G := []) _ (fun g hg => nomatch hg) (fun y hy => ?_) (by simp; omega)
    rcases List.mem_cons.mp hy with rfl | hy
    · exact spn_in.mpr hx
    · obtain ⟨q, hq, rfl⟩ := List.mem_map.mp (h1 y hy)
      exact spn_in.mpr (h.fro q hq).spn
  have e : det (x :: G) (c :: F.map piv) = x c * det G (F.map piv) - exq x (fun Q => det G (c :: Q)) (F.map piv) := rfl
  rw [e] at d0
  have b := exq_bd (r := x) (B := X) (C := facB B n) (P := F.map piv) (F := fun Q => det G (c :: Q)) (fun p hp => by
    obtain ⟨f, hf, rfl⟩ := List.mem_map.mp hp
    exact z f hf) fun Q _ _ => h4 _
  rw [List.length_map] at b
  have e2 : (x c).natAbs * (det G (F.map piv)).natAbs = (exq x (fun Q => det G (c :: Q)) (F.map piv)).natAbs := by
    rw [← Int.natAbs_mul, show x c * det G (F.map piv) = exq x (fun Q => det G (c :: Q)) (F.map piv) by omega]
  have h5 : (x c).natAbs * 1 ≤ (x c).natAbs * (det G (F.map piv)).natAbs := Nat.mul_le_mul_left _ (by omega)
  have h6 : F.length * (X * facB B n) ≤ n * (X * facB B n) := Nat.mul_le_mul_right _ h.ln
  omega

/-! ### taken in -/
/-- same whole sums -/
def Gen (A B : List Rw) : Prop := (∀ a ∈ A, Lat (inR B) (vl a)) ∧ ∀ b ∈ B, Lat (inR A) (vl b)
theorem Gen.refl (A : List Rw) : Gen A A := ⟨fun a h => .mem ⟨a, h, rfl⟩, fun a h => .mem ⟨a, h, rfl⟩⟩
theorem lat_in {A B : List Rw} {x : Fn} (h : Lat (inR A) x) (k : ∀ a ∈ A, Lat (inR B) (vl a)) : Lat (inR B) x := h.trans fun y ⟨a, ha, e⟩ => by rw [e]; exact k a ha
theorem Gen.trans {A B C : List Rw} (h : Gen A B) (k : Gen B C) : Gen A C := ⟨fun a ha => lat_in (h.1 a ha) k.1, fun c hc => lat_in (k.2 c hc) h.2⟩
theorem Gen.symm {A B : List Rw} (h : Gen A B) : Gen B A := ⟨h.2, h.1⟩
theorem gen_app {A B C D : List Rw} (h : Gen A B) (k : Gen C D) : Gen (A ++ C) (B ++ D) := by
  have l : ∀ {X Y : List Rw} {x : Fn}, Lat (inR X) x → Lat (inR (X ++ Y)) x := fun h => h.trans fun y ⟨a, ha, e⟩ => .mem ⟨a, List.mem_append_left _ ha, e⟩
  have r : ∀ {X Y : List Rw} {x : Fn}, Lat (inR Y) x → Lat (inR (X ++ Y)) x := fun h => h.trans fun y ⟨a, ha, e⟩ => .mem ⟨a, List.mem_append_right _ ha, e⟩
  refine ⟨fun a ha => ?_, fun a ha => ?_⟩
  · rcases List.mem_append.mp ha with w | w
    · exact l (h.1 a w)
    · exact r (k.1 a w)
  · rcases List.mem_append.mp ha with w | w
    · exact l (h.2 a w)
    · exact r (k.2 a w)
/-- two rows, turned by a unimodular matrix -/
theorem gen_two {a b c d : Rw} {p q r s : Int} (hc : ∀ j, vl c j = p * vl a j + q * vl b j) (hd : ∀ j, vl d j = r * vl a j + s * vl b j) (u : p * s - q * r = 1) : Gen [a, b] [c, d] := by
  have m : ∀ (x y z : Rw), z = x ∨ z = y → Lat (inR [x, y]) (vl z) := fun x y z h => .mem ⟨z, by simp; exact h, rfl⟩
  refine ⟨fun x hx => ?_, fun x hx => ?_⟩
  · rcases List.mem_cons.mp hx with rfl | hx
    · refine (Lat.lin s (-q) (m c d c (.inl rfl)) (m c d d (.inr rfl))).of fun j => ?_
      rw [hc, hd]
      have : vl x j = (p * s - q * r) * vl x j := by rw [u]; omega
      rw [this]; grind
    · rw [List.mem_singleton.mp hx]
      refine (Lat.lin (-r) p (m c d c (.inl rfl)) (m c d d (.inr rfl))).of fun j => ?_
      rw [hc, hd]
      have : vl b j = (p * s - q * r) * vl b j := by rw [u]; omega
      rw [this]; grind
  · rcases List.mem_cons.mp hx with rfl | hx
    · exact (Lat.lin p q (m a b a (.inl rfl)) (m a b b (.inr rfl))).of hc
    · rw [List.mem_singleton.mp hx]
      exact (Lat.lin r s (m a b a (.inl rfl)) (m a b b (.inr rfl))).of hd
def BdR (X : Nat) (r : Rw) : Prop := ∀ j, (vl r j).natAbs ≤ X
/-- behind i rows of the basis: what is kept, what is in hand -/
structure TkI (W M Y : Nat) (F : List Rw) (r0 : Rw) (i : Nat) (kept : List Rw) (row : Rw) : Prop where
  lk : ∀ k ∈ kept, k.length = W
  lr : row.length = W
  nz : ∀ k ∈ kept, vl k (piv k) ≠ 0
  asc : kept.Pairwise fun f h => piv f < piv h
  ahead : ∀ k ∈ kept, piv k < piv row
  behind : ∀ k ∈ kept, ∀ h ∈ F.drop i, piv k < piv h
  gen : Gen (kept ++ row :: F.drop i) (F ++ [r0])
  br : BdR (2 ^ ((M + 1) * (i + 1))) row
  bk : ∀ k ∈ kept, BdR Y k
/-- Hermite's form -/
structure Hnf (W : Nat) (F : List Rw) : Prop where
  len : ∀ f ∈ F, f.length = W
  pos : ∀ f ∈ F, 0 < vl f (piv f)
  asc : F.Pairwise fun f h => piv f < piv h
  red : F.Pairwise fun f h => 0 ≤ vl f (piv h) ∧ vl f (piv h) < vl h (piv h)
theorem Hnf.ech {W : Nat} {F : List Rw} (h : Hnf W F) : Ech W F := ⟨h.len, fun f hf => by have := h.pos f hf; omega, h.asc⟩
theorem bd_len {W X : Nat} {r : Rw} : BdR X r ↔ ∀ v ∈ r, v.natAbs ≤ X := by
  constructor
  · intro h v hv
    obtain ⟨j, hj⟩ := List.mem_iff_getElem?.mp hv
    rw [← vl_get hj]; exact h j
  · intro h j
    by_cases c : j < r.length
    · exact h _ (vl_mem c)
    · rw [vl_out (by omega)]; exact Nat.zero_le _
theorem comb_bd {m t : Int} {x y : Rw} {a b c d : Nat} (hl : x.length = y.length) (hm : m.natAbs ≤ a) (hx : BdR b x) (ht : t.natAbs ≤ c) (hy : BdR d y) : BdR (a * b + c * d) (comb m x t y) := fun j => by
  rw [comb_vl hl]
  have h1 : (m * vl x j).natAbs ≤ a * b := by rw [Int.natAbs_mul]; exact Nat.mul_le_mul hm (hx j)
  have h2 : (t * vl y j).natAbs ≤ c * d := by rw [Int.natAbs_mul]; exact Nat.mul_le_mul ht (hy j)
  omega
theorem BdR.mono {a b : Nat} {r : Rw} (h : BdR a r) (l : a ≤ b) : BdR b r := fun j => Nat.le_trans (h j) l
section
variable {W M Y : Nat} {F : List Rw} {r0 : Rw} {i : Nat} {kept : List Rw} {row h : Rw}
theorem drop_at (hi : F[i]? = some h) : F.drop i = h :: F.drop (i + 1) := by
  obtain ⟨l, e⟩ := List.getElem?_eq_some_iff.mp hi
  rw [List.drop_eq_getElem_cons l, e]
theorem tk_start (hl : ∀ f ∈ F, f.length = W) (l0 : r0.length = W) (b0 : BdR (2 ^ (M + 1)) r0) : TkI W M Y F r0 0 [] r0 :=
  ⟨(fun k hk => nomatch hk), l0, (fun k hk => nomatch hk), .nil, (fun k hk => nomatch hk), (fun k hk => nomatch hk), by
    refine ⟨fun a ha => .mem ⟨a, ?_, rfl⟩, fun a ha => .mem ⟨a, ?_, rfl⟩⟩ <;> simp at ha ⊢ <;> rcases ha with w | w <;> simp [w], by simpa using b0, (fun k hk => nomatch hk)⟩
theorem asc_snoc {l : List Rw} {r : Rw} (h : l.Pairwise fun f h => piv f < piv h) (k : ∀ x ∈ l, piv x < piv r) : (l ++ [r]).Pairwise fun f h => piv f < piv h := by
  rw [List.pairwise_append]
  exact ⟨h, List.pairwise_singleton .., fun a ha b hb => by rw [List.mem_singleton.mp hb]; exact k a ha⟩
theorem all_snoc {α : Type} {P : α → Prop} {l : List α} {r : α} (h : ∀ x ∈ l, P x) (k : P r) : ∀ x ∈ l ++ [r], P x := fun x hx => by
  rcases List.mem_append.mp hx with w | w
  · exact h x w
  · rw [List.mem_singleton.mp w]; exact k
theorem piv_lt_len {r : Rw} (h : vl r (piv r) ≠ 0) : piv r < r.length := Classical.byContradiction fun c => h (vl_out (by omega))
theorem nz_of_lt {r : Rw} (h : piv r < r.length) : vl r (piv r) ≠ 0 := by
  by_cases z : allZ r
  · rw [piv_zero z] at h; omega
  · exact (piv_spec z).2.1
/-- what stands behind two rows, by their lattice -/
theorem gen_mid {A D B : List Rw} {a b c d : Rw} (h : Gen (A ++ a :: b :: D) B) (g : Gen [a, b] [c, d]) : Gen (A ++ c :: d :: D) B := by
  have : Gen (A ++ ([c, d] ++ D)) (A ++ ([a, b] ++ D)) := gen_app (Gen.refl A) (gen_app g.symm (Gen.refl D))
  exact Gen.trans this h
theorem tk_low (E : Ech W F) (bF : ∀ f ∈ F, BdR (2 ^ M) f) (t : TkI W M Y F r0 i kept row) (hi : F[i]? = some h) (yb : 2 ^ ((M + 1) * (i + 1)) ≤ Y) (c : piv row < piv h) : TkI W M Y F r0 (i + 1) (kept ++ [row]) h := by
  have mh := List.mem_of_getElem? hi
  have dr := drop_at hi
  have as := E.asc
  have after : ∀ g ∈ F.drop (i + 1), piv h < piv g := fun g hg => by
    have w := as.sublist (List.drop_sublist i F)
    rw [dr] at w
    exact (List.pairwise_cons.mp w).1 g hg
  refine ⟨all_snoc t.lk t.lr, E.len h mh, all_snoc t.nz (nz_of_lt (by
    have := piv_lt_len (E.nz h mh)
    rw [E.len h mh] at this
    rw [t.lr]; omega)), asc_snoc t.asc t.ahead, all_snoc (fun k hk => ?_) c, all_snoc (fun k hk g hg => ?_) fun g hg => ?_, ?_, ?_, all_snoc t.bk (t.br.mono yb)⟩
  · exact t.behind k hk h (by rw [dr]; exact List.mem_cons_self ..)
  · exact t.behind k hk g (by rw [dr]; exact List.mem_cons_of_mem _ hg)
  · have := after g hg; omega
  · have g := t.gen
    rw [dr] at g
    rw [List.append_assoc]
    exact g
  · exact (bF h mh).mono (Nat.pow_le_pow_right (by decide) (by rw [Nat.mul_add]; omega))
theorem gen_swap {A D B : List Rw} {a b : Rw} (h : Gen (A ++ a :: b :: D) B) : Gen (A ++ b :: a :: D) B :=
  gen_mid h ⟨fun x hx => .mem ⟨x, by simp at hx ⊢; exact hx.symm, rfl⟩, fun x hx => .mem ⟨x, by simp at hx ⊢; exact hx.symm, rfl⟩⟩
theorem tk_high (E : Ech W F) (bF : ∀ f ∈ F, BdR (2 ^ M) f) (t : TkI W M Y F r0 i kept row) (hi : F[i]? = some h) (yb : 2 ^ M ≤ Y) (c : piv h < piv row) : TkI W M Y F r0 (i + 1) (kept ++ [h]) row := by
  have mh := List.mem_of_getElem? hi
  have dr := drop_at hi
  have as := E.asc
  have after : ∀ g ∈ F.drop (i + 1), piv h < piv g := fun g hg => by
    have w := as.sublist (List.drop_sublist i F)
    rw [dr] at w
    exact (List.pairwise_cons.mp w).1 g hg
  have kh : ∀ k ∈ kept, piv k < piv h := fun k hk => t.behind k hk h (by rw [dr]; exact List.mem_cons_self ..)
  refine ⟨all_snoc t.lk (E.len h mh), t.lr, all_snoc t.nz (E.nz h mh), asc_snoc t.asc kh, all_snoc t.ahead c, all_snoc (fun k hk g hg => t.behind k hk g (by rw [dr]; exact List.mem_cons_of_mem _ hg)) after, ?_, t.br.mono (Nat.pow_le_pow_right (by decide) (Nat.mul_le_mul_left _ (by omega))), all_snoc t.bk ((bF h mh).mono yb)⟩
  have g := t.gen
  rw [dr] at g
  rw [List.append_assoc]
  exact gen_swap g
/-- the row in hand, less a multiple: its pivot goes up -/
theorem piv_up {r : Rw} {p : Nat} (hp : p < r.length) (z : ∀ j, j ≤ p → vl r j = 0) : p < piv r := by
  by_cases a : allZ r
  · rw [piv_zero a]; exact hp
  · have := (piv_spec a).2.1
    exact Classical.byContradiction fun c => this (z _ (by omega))
theorem tk_same (E : Ech W F) (bF : ∀ f ∈ F, BdR (2 ^ M) f) (t : TkI W M Y F r0 i kept row) (hi : F[i]? = some h) (c : piv row = piv h) {k d : Rw} {p q r s : Int} (hk : ∀ j, vl k j = p * vl h j + q * vl row j) (hd : ∀ j, vl d j = r * vl h j + s * vl row j) (u : p * s - q * r = 1) (lk : k.length = W) (ld : d.length = W) (kz : vl k (piv h) ≠ 0) (dz : vl d (piv h) = 0) (bk : BdR Y k) (bd : BdR (2 ^ ((M + 1) * (i + 2))) d) : TkI W M Y F r0 (i + 1) (kept ++ [k]) d := by
  have mh := List.mem_of_getElem? hi
  have dr := drop_at hi
  have as := E.asc
  have hn := E.nz h mh
  have rn : vl row (piv row) ≠ 0 := nz_of_lt (by rw [c, t.lr, ← E.len h mh]; exact piv_lt_len hn)
  have after : ∀ g ∈ F.drop (i + 1), piv h < piv g := fun g hg => by
    have w := as.sublist (List.drop_sublist i F)
    rw [dr] at w
    exact (List.pairwise_cons.mp w).1 g hg
  have kh : ∀ k ∈ kept, piv k < piv h := fun k hk => t.behind k hk h (by rw [dr]; exact List.mem_cons_self ..)
  have z1 : ∀ j, j < piv h → vl h j = 0 := ahead_zero hn
  have z2 : ∀ j, j < piv h → vl row j = 0 := fun j hj => ahead_zero rn j (by omega)
  have pk : piv k = piv h := piv_is kz fun j hj => by rw [hk, z1 j hj, z2 j hj]; omega
  have pd : piv h < piv d := piv_up (by rw [ld, ← E.len h mh]; exact piv_lt_len hn) fun j hj => by
    rcases Nat.lt_or_eq_of_le hj with w | w
    · rw [hd, z1 j w, z2 j w]; omega
    · rw [w]; exact dz
  refine ⟨all_snoc t.lk lk, ld, all_snoc t.nz (by rw [pk]; exact kz), asc_snoc t.asc fun x hx => by rw [pk]; exact kh x hx, all_snoc (fun x hx => by have := kh x hx; omega) (by rw [pk]; exact pd), all_snoc (fun x hx g hg => t.behind x hx g (by rw [dr]; exact List.mem_cons_of_mem _ hg)) fun g hg => by rw [pk]; exact after g hg, ?_, bd, all_snoc t.bk bk⟩
  have g := t.gen
  rw [dr] at g
  rw [List.append_assoc]
  exact gen_mid (gen_swap g) (gen_two hk hd u)
/-- at the end -/
theorem tk_end (t : TkI W M Y F r0 F.length kept row) (yb : 2 ^ ((M + 1) * (F.length + 1)) ≤ Y) {kept' : List Rw} (e : kept' = if allZ row then kept else kept ++ [row]) : Ech W kept' ∧ Gen kept' (F ++ [r0]) ∧ (∀ k ∈ kept', BdR Y k) ∧ kept'.length ≤ kept.length + 1 := by
  have g := t.gen
  rw [List.drop_length] at g
  by_cases z : allZ row
  · rw [if_pos z] at e
    subst e
    refine ⟨⟨t.lk, t.nz, t.asc⟩, ⟨fun a ha => g.1 a (List.mem_append_left _ ha), fun b hb => lat_in (g.2 b hb) fun a ha => ?_⟩, t.bk, by omega⟩
    rcases List.mem_append.mp ha with w | w
    · exact .mem ⟨a, w, rfl⟩
    · rw [List.mem_singleton.mp w]
      exact Lat.zero.of (allZ_vl z)
  · rw [if_neg z] at e
    subst e
    obtain ⟨h1, h2, _⟩ := piv_spec z
    exact ⟨⟨all_snoc t.lk t.lr, all_snoc t.nz h2, asc_snoc t.asc t.ahead⟩, g, all_snoc t.bk (t.br.mono yb), by rw [List.length_append]; exact Nat.le_refl _⟩
end
/-! ### the form -/
/-- a row less multiples of rows -/
def rdc (row : Rw) (done : List Rw) : Rw := done.foldl (fun r b => comb 1 r (-((vl r (piv b)).fdiv (vl b (piv b)))) b) row
theorem fmod_lt {a b : Int} (hb : 0 < b) : 0 ≤ a + -(a.fdiv b) * b ∧ a + -(a.fdiv b) * b < b := by
  have h := Int.mul_fdiv_add_fmod a b
  have h1 := Int.fmod_nonneg_of_pos a hb
  have h2 := Int.fmod_lt_of_pos a hb
  have : -(a.fdiv b) * b = -(b * a.fdiv b) := by rw [Int.neg_mul, Int.mul_comm]
  omega
/-- below i rows -/
structure RdI (W : Nat) (row0 : Rw) (done : List Rw) (i : Nat) (row : Rw) : Prop where
  lr : row.length = W
  same : ∀ j, j ≤ piv row0 → vl row j = vl row0 j
  red : ∀ h ∈ done.take i, 0 ≤ vl row (piv h) ∧ vl row (piv h) < vl h (piv h)
  dif : Lat (inR done) fun j => vl row j - vl row0 j
theorem rd_start {W : Nat} {row0 : Rw} {done : List Rw} (l : row0.length = W) : RdI W row0 done 0 row0 :=
  ⟨l, fun _ _ => rfl, (fun h hh => nomatch hh), Lat.zero.of fun j => by omega⟩
theorem rd_step {W : Nat} {row0 row h : Rw} {done : List Rw} {i : Nat} (H : Hnf W done) (ah : ∀ g ∈ done, piv row0 < piv g) (t : RdI W row0 done i row) (hi : done[i]? = some h) : RdI W row0 done (i + 1) (comb 1 row (-((vl row (piv h)).fdiv (vl h (piv h)))) h) := by
  have mh := List.mem_of_getElem? hi
  have hl : row.length = h.length := by rw [t.lr, H.len h mh]
  have hz := ahead_zero (H.ech.nz h mh)
  refine ⟨by rw [comb_len hl, t.lr], fun j hj => ?_, fun g hg => ?_, ?_⟩
  · rw [comb_vl hl, hz j (by have := ah h mh; omega), t.same j hj]; omega
  · rw [List.take_add_one, hi] at hg
    rcases List.mem_append.mp hg with w | w
    · have lt : piv g < piv h := by
        obtain ⟨k, hk⟩ := List.mem_iff_getElem?.mp w
        have kl := (List.getElem?_eq_some_iff.mp hk).1
        rw [List.length_take] at kl
        rw [List.getElem?_take, if_pos (by omega)] at hk
        obtain ⟨l1, e1⟩ := List.getElem?_eq_some_iff.mp hk
        obtain ⟨l2, e2⟩ := List.getElem?_eq_some_iff.mp hi
        have := List.pairwise_iff_getElem.mp H.asc k i l1 l2 (by omega)
        rw [e1, e2] at this
        exact this
      rw [comb_vl hl, hz _ lt]
      have := t.red g w
      omega
    · have e : g = h := List.mem_singleton.mp w
      subst e
      rw [comb_vl hl, Int.one_mul]
      exact fmod_lt (H.pos g mh)
  · refine (Lat.lin 1 (-((vl row (piv h)).fdiv (vl h (piv h)))) t.dif (.mem ⟨h, mh, rfl⟩)).of fun j => ?_
    rw [comb_vl hl]; omega
theorem rd_end {W : Nat} {row0 row : Rw} {done : List Rw} {i : Nat} (H : Hnf W done) (p0 : 0 < vl row0 (piv row0)) (ah : ∀ g ∈ done, piv row0 < piv g) (t : RdI W row0 done i row) (l : done.length ≤ i) : Hnf W (row :: done) ∧ Gen (row :: done) (row0 :: done) ∧ piv row = piv row0 := by
  have pr : piv row = piv row0 := piv_is (by rw [t.same _ (Nat.le_refl _)]; omega) fun j hj => by
    rw [t.same j (by omega)]; exact ahead_zero (by omega) j hj
  have red := t.red
  rw [List.take_of_length_le l] at red
  refine ⟨⟨fun f hf => ?_, fun f hf => ?_, List.pairwise_cons.mpr ⟨fun g hg => by rw [pr]; exact ah g hg, H.asc⟩, List.pairwise_cons.mpr ⟨red, H.red⟩⟩, ⟨fun a ha => ?_, fun a ha => ?_⟩, pr⟩
  · rcases List.mem_cons.mp hf with rfl | w
    · exact t.lr
    · exact H.len f w
  · rcases List.mem_cons.mp hf with rfl | w
    · rw [pr, t.same _ (Nat.le_refl _)]; exact p0
    · exact H.pos f w
  · have up : ∀ {x : Fn}, Lat (inR done) x → Lat (inR (row0 :: done)) x := fun h => h.trans fun y ⟨a, ha, e⟩ => .mem ⟨a, List.mem_cons_of_mem _ ha, e⟩
    rcases List.mem_cons.mp ha with rfl | w
    · exact (Lat.lin 1 1 (up t.dif) (.mem ⟨row0, List.mem_cons_self .., rfl⟩)).of fun j => by omega
    · exact .mem ⟨a, List.mem_cons_of_mem _ w, rfl⟩
  · have up : ∀ {x : Fn}, Lat (inR done) x → Lat (inR (row :: done)) x := fun h => h.trans fun y ⟨a, ha, e⟩ => .mem ⟨a, List.mem_cons_of_mem _ ha, e⟩
    rcases List.mem_cons.mp ha with rfl | w
    · exact (Lat.lin (-1) 1 (up t.dif) (.mem ⟨row, List.mem_cons_self .., rfl⟩)).of fun j => by omega
    · exact .mem ⟨a, List.mem_cons_of_mem _ w, rfl⟩
/-- a row and its opposite -/
theorem gen_neg {row neg : Rw} {done : List Rw} (h : ∀ j, vl neg j = -vl row j) : Gen (neg :: done) (row :: done) := by
  have go : ∀ {a b : Rw}, (∀ j, vl a j = -vl b j) → ∀ x ∈ a :: done, Lat (inR (b :: done)) (vl x) := fun {a b} h x hx => by
    rcases List.mem_cons.mp hx with rfl | w
    · exact (Lat.lin (-1) 0 (.mem ⟨b, List.mem_cons_self .., rfl⟩) .zero).of fun j => by rw [h]; omega
    · exact .mem ⟨x, List.mem_cons_of_mem _ w, rfl⟩
  exact ⟨go h, go fun j => by rw [h]; omega⟩
/-- one lattice has one form -/
theorem hnf_same {W : Nat} {F G : List Rw} (hF : Hnf W F) (hG : Hnf W G) (g : Gen F G) : F = G := by
  have sub : ∀ {A B : List Rw}, Hnf W A → Hnf W B → Gen A B → ∀ a ∈ A, ∃ b ∈ B, piv b = piv a ∧ vl b (piv b) = vl a (piv a) := fun {A B} hA hB g a ha => by
    obtain ⟨b, hb, pb⟩ := ech_lead hB.ech (g.1 a ha).spn (p := piv a) (hA.ech.nz a ha) (ahead_zero (hA.ech.nz a ha))
    have d1 := ech_dvd hB.ech (g.1 a ha) hb fun q hq lt => by
      exact ahead_zero (hA.ech.nz a ha) _ (by omega)
    have d2 := ech_dvd hA.ech (g.2 b hb) ha fun q hq lt => by
      exact ahead_zero (hB.ech.nz b hb) _ (by omega)
    rw [pb] at d1
    have p1 := hA.pos a ha
    have p2 := hB.pos b hb
    rw [pb] at p2
    refine ⟨b, hb, pb, ?_⟩
    rw [pb]
    have l1 := Int.le_of_dvd p1 d1
    have l2 := Int.le_of_dvd p2 d2
    omega
  -- the same pivots, and the same rows at them
  have eq : ∀ {A B : List Rw}, Hnf W A → Hnf W B → Gen A B → ∀ a ∈ A, a ∈ B := fun {A B} hA hB g a ha => by
    obtain ⟨b, hb, pb, vb⟩ := sub hA hB g a ha
    have dif : Lat (inR B) fun j => 1 * vl a j + (-1) * vl b j := .lin _ _ (g.1 a ha) (.mem ⟨b, hb, rfl⟩)
    have rel : ∀ {X : List Rw}, Hnf W X → ∀ x ∈ X, ∀ y ∈ X, piv x ≠ piv y → 0 ≤ vl x (piv y) ∧ vl x (piv y) < vl y (piv y) := fun {X} hX x hx y hy ne => by
      obtain ⟨i, hi⟩ := List.mem_iff_getElem?.mp hx
      obtain ⟨k, hk⟩ := List.mem_iff_getElem?.mp hy
      obtain ⟨li, ei⟩ := List.getElem?_eq_some_iff.mp hi
      obtain ⟨lk, ek⟩ := List.getElem?_eq_some_iff.mp hk
      rcases Nat.lt_trichotomy i k with w | w | w
      · have := List.pairwise_iff_getElem.mp hX.red i k li lk w
        rw [ei, ek] at this; exact this
      · subst w
        rw [ei] at ek; rw [ek] at ne; exact absurd rfl ne
      · have := List.pairwise_iff_getElem.mp hX.asc k i lk li w
        rw [ei, ek] at this
        have z := ahead_zero (hX.ech.nz x hx) _ this
        have := hX.pos y hy
        omega
    have zz : ∀ j, 1 * vl a j + (-1) * vl b j = 0 := fun j => Classical.byContradiction fun c => by
      obtain ⟨p, hp, hz⟩ := first_nz (x := fun j => 1 * vl a j + (-1) * vl b j) ⟨j, c⟩
      obtain ⟨f, hf, rfl⟩ := ech_lead hB.ech dif.spn hp hz
      have dd := ech_dvd hB.ech dif hf fun q _ lt => hz _ lt
      obtain ⟨c, hc, pc, vc⟩ := sub hB hA g.symm f hf
      by_cases e : piv f = piv a
      · have hp' : 1 * vl a (piv f) + (-1) * vl b (piv f) ≠ 0 := hp
        rw [e, ← pb] at hp'
        rw [← pb] at vb
        omega
      · have r1 := rel hA a ha c hc (by rw [pc]; exact fun z => e z.symm)
        have r2 := rel hB b hb f hf (by rw [pb]; exact fun z => e z.symm)
        rw [pc] at r1 vc
        have hp' : 1 * vl a (piv f) + (-1) * vl b (piv f) ≠ 0 := hp
        have l := Int.natAbs_dvd_natAbs.mpr dd
        have l2 := Nat.le_of_dvd (by omega) l
        have p2 := hB.pos f hf
        have : (1 * vl a (piv f) + (-1) * vl b (piv f)).natAbs < (vl f (piv f)).natAbs := by omega
        exact absurd l2 (by omega)
    have : a = b := vl_ext (by rw [hA.len a ha, hB.len b hb]) fun j => by have := zz j; omega
    rw [this]; exact hb
  have fin : ∀ {A B : List Rw}, (A.Pairwise fun f h => piv f < piv h) → (B.Pairwise fun f h => piv f < piv h) → (∀ a ∈ A, a ∈ B) → (∀ b ∈ B, b ∈ A) → A = B := fun {A} => by
    induction A with
    | nil =>
      intro B _ _ _ h
      cases B with
      | nil => rfl
      | cons b B => exact nomatch h b (List.mem_cons_self ..)
    | cons a A ih =>
      intro B hA hB h1 h2
      cases B with
      | nil => exact nomatch h1 a (List.mem_cons_self ..)
      | cons b B =>
        obtain ⟨a1, a2⟩ := List.pairwise_cons.mp hA
        obtain ⟨b1, b2⟩ := List.pairwise_cons.mp hB
        have ab : a = b := by
          rcases List.mem_cons.mp (h1 a (List.mem_cons_self ..)) with w | w
          · exact w
          · rcases List.mem_cons.mp (h2 b (List.mem_cons_self ..)) with v | v
            · exact v.symm
            · have := b1 a w
              have := a1 b v
              omega
        subst ab
        rw [ih a2 b2 (fun x hx => by
          rcases List.mem_cons.mp (h1 x (List.mem_cons_of_mem _ hx)) with w | w
          · have := a1 x hx; rw [w] at this; omega
          · exact w) fun x hx => by
          rcases List.mem_cons.mp (h2 x (List.mem_cons_of_mem _ hx)) with w | w
          · have := b1 x hx; rw [w] at this; omega
          · exact w]
  exact fin hF.asc hG.asc (eq hF hG g) (eq hG hF g.symm)
/-! ### the greatest common divisor and its multiples -/
structure BzI (a b o e x lx y ly : Int) : Prop where
  h1 : o = x * a + y * b
  h2 : e = lx * a + ly * b
  u : x * ly - lx * y = 1 ∨ x * ly - lx * y = -1
  bx : lx.natAbs * o.natAbs + x.natAbs * e.natAbs ≤ b.natAbs
  by_ : ly.natAbs * o.natAbs + y.natAbs * e.natAbs ≤ a.natAbs + 2 * b.natAbs
  cx : x.natAbs ≤ b.natAbs
  cy : y.natAbs ≤ a.natAbs + 2 * b.natAbs
  o0 : o ≠ 0
  ob : o.natAbs ≤ a.natAbs + b.natAbs
  eb : e.natAbs ≤ a.natAbs + b.natAbs
  sg : (0 ≤ o ∧ 0 ≤ e) ∨ (o ≤ 0 ∧ e ≤ 0) ∨ (o = a ∧ e = b ∧ x = 1 ∧ lx = 0 ∧ y = 0 ∧ ly = 1)
theorem bz_start {a b : Int} (ha : 0 < a) (hb : b ≠ 0) : BzI a b a b 1 0 0 1 :=
  ⟨by omega, by omega, .inl (by decide), by simp, by simp, by simp; omega, by simp, by omega, by omega, by omega, .inr (.inr ⟨rfl, rfl, rfl, rfl, rfl, rfl⟩)⟩
theorem fdiv_rest (o : Int) {e : Int} (he : e ≠ 0) : (o - o.fdiv e * e).natAbs < e.natAbs ∧ ((0 < e → 0 ≤ o - o.fdiv e * e) ∧ (e < 0 → o - o.fdiv e * e ≤ 0)) := by
  have h := Int.mul_fdiv_add_fmod o e
  have c : o - o.fdiv e * e = o.fmod e := by rw [Int.mul_comm]; omega
  rw [c]
  rcases Int.lt_trichotomy e 0 with w | w | w
  · have h1 := Int.fmod_nonneg_of_pos (-o) (b := -e) (by omega)
    have h2 := Int.fmod_lt_of_pos (-o) (b := -e) (by omega)
    rw [Int.neg_fmod_neg] at h1 h2
    exact ⟨by omega, fun z => by omega, fun _ => by omega⟩
  · exact absurd w he
  · have h1 := Int.fmod_nonneg_of_pos o w
    have h2 := Int.fmod_lt_of_pos o w
    exact ⟨by omega, fun _ => h1, fun z => by omega⟩
theorem abs_mulsub (x q l : Int) : (x - q * l).natAbs ≤ x.natAbs + q.natAbs * l.natAbs := by
  rw [← Int.natAbs_mul]; omega
theorem bz_same {o e : Int} (he : e ≠ 0) (h : (0 ≤ o ∧ 0 ≤ e) ∨ (o ≤ 0 ∧ e ≤ 0)) : (o.fdiv e).natAbs * e.natAbs + (o - o.fdiv e * e).natAbs = o.natAbs := by
  have h1 := (fdiv_rest o he).2
  have q0 : 0 ≤ o.fdiv e := by
    rcases h with ⟨h1, h2⟩ | ⟨h1, h2⟩
    · exact Int.fdiv_nonneg h1 h2
    · have := Int.fdiv_nonneg (a := -o) (b := -e) (by omega) (by omega)
      rwa [Int.neg_fdiv_neg] at this
  rw [← Int.natAbs_mul]
  generalize o.fdiv e = q at *
  rcases h with ⟨h2, h3⟩ | ⟨h2, h3⟩
  · have : 0 ≤ q * e := Int.mul_nonneg q0 h3
    have := h1.1 (by omega)
    omega
  · have : q * e ≤ 0 := Int.mul_nonpos_of_nonneg_of_nonpos q0 h3
    have := h1.2 (by omega)
    omega
theorem bz_sum {l x q e r o n : Nat} (hq : q * e + r = o) (h : l * o + x * e ≤ n) {k : Nat} (hk : k ≤ x + q * l) : k * e + l * r ≤ n := by
  have h1 : k * e ≤ (x + q * l) * e := Nat.mul_le_mul_right _ hk
  have h2 : (x + q * l) * e = x * e + l * (q * e) := by rw [Nat.add_mul, Nat.mul_comm q l, Nat.mul_assoc]
  have h3 : l * o = l * (q * e) + l * r := by rw [← hq, Nat.mul_add]
  omega
theorem bz_step {a b o e x lx y ly : Int} (ha : 0 < a) (hb : b ≠ 0) (t : BzI a b o e x lx y ly) (he : e ≠ 0) : BzI a b e (o - o.fdiv e * e) lx (x - o.fdiv e * lx) ly (y - o.fdiv e * ly) := by
  obtain ⟨r1, r2, r3⟩ := fdiv_rest o he
  have o1 : 1 ≤ o.natAbs := by have := t.o0; omega
  have clx : lx.natAbs ≤ b.natAbs := by
    have := t.bx
    have : lx.natAbs * 1 ≤ lx.natAbs * o.natAbs := Nat.mul_le_mul_left _ o1
    omega
  have cly : ly.natAbs ≤ a.natAbs + 2 * b.natAbs := by
    have := t.by_
    have : ly.natAbs * 1 ≤ ly.natAbs * o.natAbs := Nat.mul_le_mul_left _ o1
    omega
  have sg' : (0 ≤ e ∧ 0 ≤ o - o.fdiv e * e) ∨ (e ≤ 0 ∧ o - o.fdiv e * e ≤ 0) ∨ (e = a ∧ o - o.fdiv e * e = b ∧ lx = 1 ∧ x - o.fdiv e * lx = 0 ∧ ly = 0 ∧ y - o.fdiv e * ly = 1) := by
    rcases Int.lt_trichotomy e 0 with w | w | w
    · exact .inr (.inl ⟨by omega, r3 w⟩)
    · exact absurd w he
    · exact .inl ⟨by omega, r2 w⟩
  have g1 : e = lx * a + ly * b := t.h2
  have g2 : o - o.fdiv e * e = (x - o.fdiv e * lx) * a + (y - o.fdiv e * ly) * b := by
    have h1 := t.h1
    have h2 := t.h2
    generalize o.fdiv e = q
    rw [h1, h2]; grind
  have gu : lx * (y - o.fdiv e * ly) - (x - o.fdiv e * lx) * ly = 1 ∨ lx * (y - o.fdiv e * ly) - (x - o.fdiv e * lx) * ly = -1 := by
    have : lx * (y - o.fdiv e * ly) - (x - o.fdiv e * lx) * ly = -(x * ly - lx * y) := by grind
    rw [this]
    rcases t.u with w | w <;> rw [w] <;> simp
  have same : (0 ≤ o ∧ 0 ≤ e) ∨ (o ≤ 0 ∧ e ≤ 0) → BzI a b e (o - o.fdiv e * e) lx (x - o.fdiv e * lx) ly (y - o.fdiv e * ly) := fun h => by
    have q := bz_same he h
    have := t.eb
    exact ⟨g1, g2, gu, bz_sum q t.bx (abs_mulsub ..), bz_sum q t.by_ (abs_mulsub ..), clx, cly, he, t.eb, by omega, sg'⟩
  rcases t.sg with h | h | ⟨h1, h2, h3, h4, h5, h6⟩
  · exact same (.inl h)
  · exact same (.inr h)
  · by_cases w : 0 < b
    · exact same (.inl ⟨by omega, by omega⟩)
    · subst h1 h2 h3 h4 h5 h6
      have q : (o.fdiv e).natAbs * e.natAbs ≤ o.natAbs + e.natAbs := by
        rw [← Int.natAbs_mul]
        have := r3 (by omega)
        omega
      refine ⟨g1, g2, gu, by simp, ?_, by simp, by simp; omega, hb, by omega, by omega, sg'⟩
      have : (0 - o.fdiv e * 1).natAbs = (o.fdiv e).natAbs := by omega
      rw [this, show Int.natAbs 1 = 1 from rfl, Nat.one_mul]
      omega
theorem bz_end {a b o x lx y ly : Int} (t : BzI a b o 0 x lx y ly) : o ∣ a ∧ o ∣ b := by
  have h1 := t.h1
  have h2 := t.h2
  rcases t.u with w | w
  · refine ⟨⟨ly, ?_⟩, ⟨-lx, ?_⟩⟩
    · have : a = (x * ly - lx * y) * a := by rw [w]; omega
      have e : (x * ly - lx * y) * a = ly * (x * a + y * b) - y * (lx * a + ly * b) := by grind
      rw [this, e, ← h1, ← h2]; grind
    · have : b = (x * ly - lx * y) * b := by rw [w]; omega
      have e : (x * ly - lx * y) * b = x * (lx * a + ly * b) - lx * (x * a + y * b) := by grind
      rw [this, e, ← h1, ← h2]; grind
  · refine ⟨⟨-ly, ?_⟩, ⟨lx, ?_⟩⟩
    · have : a = -(x * ly - lx * y) * a := by rw [w]; omega
      have e : -(x * ly - lx * y) * a = y * (lx * a + ly * b) - ly * (x * a + y * b) := by grind
      rw [this, e, ← h1, ← h2]; grind
    · have : b = -(x * ly - lx * y) * b := by rw [w]; omega
      have e : -(x * ly - lx * y) * b = lx * (x * a + y * b) - x * (lx * a + ly * b) := by grind
      rw [this, e, ← h1, ← h2]; grind
end AL
set_option Elab.async false
set_option linter.all false
set_option maxRecDepth 100000
/-! reduced rows are as small as minors -/
namespace AL
theorem gcd_great : ∀ (x : Rw) (s d : Nat), d ∣ s → (∀ v ∈ x, d ∣ v.natAbs) → d ∣ x.foldl (fun s v => Nat.gcd s v.natAbs) s
  | [], s, d, h, _ => h
  | a :: r, s, d, h, k => gcd_great r _ d (Nat.dvd_gcd h (k a (List.mem_cons_self ..))) fun v hv => k v (List.mem_cons_of_mem _ hv)
theorem gcdR_great {x : Rw} {d : Nat} (h : ∀ v ∈ x, d ∣ v.natAbs) : d ∣ gcdR x := gcd_great x 0 d (Nat.dvd_zero _) h
theorem prim_gcd {x : Rw} (h : ¬ allZ x) : gcdR (prim x) = 1 := by
  have g0 := gcdR_pos h
  have d : gcdR (prim x) * gcdR x ∣ gcdR x := gcdR_great fun v hv => by
    obtain ⟨j, hj⟩ := List.mem_iff_getElem?.mp hv
    have jl := (List.getElem?_eq_some_iff.mp hj).1
    have e := prim_vl h j
    have k := gcdR_dvd (vl_mem (x := prim x) (j := j) (by rw [prim_len]; exact jl))
    rw [← vl_get hj, ← e, Int.natAbs_mul, sgR_abs, Nat.mul_comm]
    exact Nat.mul_dvd_mul (Nat.dvd_refl _) k
  have := Nat.le_of_dvd g0 d
  have p0 := gcdR_pos (prim_nz h)
  rcases Nat.lt_or_ge (gcdR (prim x)) 2 with w | w
  · omega
  · have := Nat.mul_le_mul_right (gcdR x) w
    omega
theorem step_gcd {W : Nat} {F : List Rw} {r : Rw} (R : Rref W F) (lr : r.length = W) (h : ∀ f ∈ F, gcdR f = 1) : ∀ f ∈ stepS F r, gcdR f = 1 := by
  obtain ⟨c1, c2, c3⟩ := clr_spec R lr
  unfold stepS
  by_cases z : allZ (clr F r)
  · rw [if_pos z]; exact h
  rw [if_neg z]
  have lp : (prim (clr F r)).length = W := (prim_len _).trans c1
  have pp : 0 < vl (prim (clr F r)) (piv (prim (clr F r))) := by rw [prim_piv z]; exact prim_pos z
  have pz : ∀ f ∈ F, vl (prim (clr F r)) (piv f) = 0 := fun f hf => by
    have e := prim_vl z (piv f)
    rw [c2 f hf] at e
    exact (Int.mul_eq_zero.mp e).resolve_left (sgR_ne z)
  intro g hg
  rcases List.mem_append.mp hg with hg | hg
  · obtain ⟨f, hf, rfl⟩ := List.mem_map.mp hg
    unfold upR
    split
    · exact h f hf
    · exact prim_gcd (wo_nz ((R.len f hf).trans lp.symm) pp (R.pos f hf) (pz f hf))
  · rw [List.mem_singleton.mp hg]; exact prim_gcd z
theorem spn_gcd {W : Nat} : ∀ {rows F : List Rw}, Rref W F → (∀ f ∈ F, gcdR f = 1) → (∀ r ∈ rows, r.length = W) → ∀ f ∈ rows.foldl stepS F, gcdR f = 1
  | [], F, _, h, _ => h
  | r :: rows, F, R, h, hl => spn_gcd (rows := rows) (step_spec R (hl r (List.mem_cons_self ..))).1 (step_gcd R (hl r (List.mem_cons_self ..)) h) fun q hq => hl q (List.mem_cons_of_mem _ hq)
theorem exq_pz {r : Fn} : ∀ {P : List Nat} {F : List Nat → Int}, (∀ p ∈ P, r p = 0) → exq r F P = 0
  | [], _, _ => rfl
  | p :: P, F, h => by
    show r p * F P - exq r _ P = 0
    rw [h p (List.mem_cons_self ..), exq_pz fun q hq => h q (List.mem_cons_of_mem _ hq)]; omega
theorem det_dgn : ∀ {R : List Fn} {P : List Nat}, R.length = P.length → (∀ (i j : Nat) (r : Fn) (p : Nat), R[i]? = some r → P[j]? = some p → (i = j → r p ≠ 0) ∧ (i ≠ j → r p = 0)) → det R P ≠ 0
  | [], [], _, _ => by decide
  | [], _ :: _, l, _ => by simp at l
  | _ :: _, [], l, _ => by simp at l
  | r :: R, p :: P, l, h => by
    have ih := det_dgn (R := R) (P := P) (by simpa using l) fun i j q k hq hk => by
      have := h (i + 1) (j + 1) q k (by simpa using hq) (by simpa using hk)
      exact ⟨fun e => this.1 (by omega), fun e => this.2 (by omega)⟩
    have h0 := (h 0 0 r p rfl rfl).1 rfl
    show r p * det R P - exq r (fun Q => det R (p :: Q)) P ≠ 0
    rw [exq_pz fun q hq => by
      obtain ⟨j, hj⟩ := List.mem_iff_getElem?.mp hq
      exact (h 0 (j + 1) r q rfl (by simpa using hj)).2 (by omega), Int.sub_zero]
    exact Int.mul_ne_zero h0 ih
theorem spn_minor {W B n : Nat} {rows : List Rw} (hl : ∀ r ∈ rows, r.length = W) (hB : ∀ r ∈ rows, ∀ v ∈ r, v.natAbs ≤ B) (B1 : 1 ≤ B) (hn : rows.length ≤ n) : ∀ f ∈ spn rows, ∀ c, (vl f c).natAbs ≤ facB B n := by
  obtain ⟨R, h1, h2⟩ := spn_spec hl
  have g1 := spn_gcd (rows := rows) (F := []) (rref_nil W) (fun f hf => nomatch hf) hl
  change ∀ f ∈ spn rows, gcdR f = 1 at g1
  generalize spn rows = F at R h1 h2 g1
  have dF : det (vR F) (F.map piv) ≠ 0 := det_dgn (by simp) fun i j r p hr hp => by
    rw [List.getElem?_map] at hr hp
    cases hi : F[i]? with
    | none => rw [hi] at hr; cases hr
    | some f =>
      cases hj : F[j]? with
      | none => rw [hj] at hp; cases hp
      | some g =>
        rw [hi] at hr; rw [hj] at hp
        obtain rfl := Option.some.inj hr
        obtain rfl := Option.some.inj hp
        refine ⟨fun e => ?_, fun e => rref_off R hj hi e⟩
        subst e
        rw [hi] at hj
        obtain rfl := Option.some.inj hj
        have := R.pos f (List.mem_of_getElem? hi)
        omega
  have lF : F.length ≤ rows.length := minor_le (fun b hb => h2 b hb) dF
  obtain ⟨G, k1, k2, k3⟩ : ∃ G : List Fn, (∀ g ∈ G, g ∈ vR rows) ∧ G.length = F.length ∧ det G (F.map piv) ≠ 0 := Classical.byContradiction fun c => by
    refine dF ?_
    refine minor_sub (rows := rows) (N := F.length) (X := vR F) (G := []) (P := F.map piv) (fun G hg l => Classical.byContradiction fun w => c ⟨G, hg, l, w⟩) (fun g hg => nomatch hg) (fun x hx => ?_) (by simp)
    obtain ⟨f, hf, rfl⟩ := List.mem_map.mp hx
    exact spn_in.mpr (h2 f hf)
  intro f hf c
  obtain ⟨F1, F2, e⟩ := List.append_of_mem hf
  have eP : F.map piv = F1.map piv ++ piv f :: F2.map piv := by rw [e, List.map_append]; rfl
  have w : Spn (inR F) fun c => det G (F1.map piv ++ c :: F2.map piv) := by
    refine ((det_at G (F1.map piv) (F2.map piv)).spn).trans fun y hy => ?_
    obtain ⟨q, hq, rfl⟩ := List.mem_map.mp (k1 y hy)
    exact h1 q hq
  have fi : F[F1.length]? = some f := by rw [e, List.getElem?_append_right (Nat.le_refl _), Nat.sub_self]; rfl
  have prop := span_one R w fi fun k g hk ne => by
    have g1 : g ∈ F1 ∨ g ∈ F2 := by
      rw [e] at hk
      by_cases lt : k < F1.length
      · rw [List.getElem?_append_left lt] at hk
        exact .inl (List.mem_of_getElem? hk)
      · rw [List.getElem?_append_right (by omega)] at hk
        obtain ⟨t, ht⟩ : ∃ t, k - F1.length = t + 1 := ⟨k - F1.length - 1, by omega⟩
        rw [ht] at hk
        exact .inr (List.mem_of_getElem? (by simpa using hk))
    rcases g1 with m | m
    · obtain ⟨A, C, eA⟩ := List.append_of_mem m
      show det G _ = 0
      rw [eA, List.map_append, List.append_assoc]
      exact det_ctwo G (piv g) (F2.map piv) (C.map piv) (A.map piv)
    · obtain ⟨A, C, eA⟩ := List.append_of_mem m
      show det G _ = 0
      rw [eA, List.map_append]
      exact det_ctwo G (piv g) (C.map piv) (A.map piv) (F1.map piv)
  have fp := R.pos f hf
  have dv : vl f (piv f) ∣ det G (F1.map piv ++ piv f :: F2.map piv) := by
    have : (vl f (piv f)).natAbs ∣ gcdR (f.map fun v => det G (F1.map piv ++ piv f :: F2.map piv) * v) := gcdR_great fun v hv => by
      obtain ⟨u, hu, rfl⟩ := List.mem_map.mp hv
      obtain ⟨j, hj⟩ := List.mem_iff_getElem?.mp hu
      rw [← vl_get hj, ← prop j, Int.natAbs_mul]
      exact Nat.dvd_mul_right _ _
    have gm : ∀ (x : Rw) (a : Int) (s : Nat), (x.map fun v => a * v).foldl (fun s v => Nat.gcd s v.natAbs) (a.natAbs * s) = a.natAbs * x.foldl (fun s v => Nat.gcd s v.natAbs) s := fun x a => by
      induction x with
      | nil => exact fun s => rfl
      | cons b r ih =>
        intro s
        show List.foldl _ (Nat.gcd (a.natAbs * s) (a * b).natAbs) _ = _
        rw [Int.natAbs_mul, Nat.gcd_mul_left]
        exact ih _
    have g2 : gcdR (f.map fun v => det G (F1.map piv ++ piv f :: F2.map piv) * v) = (det G (F1.map piv ++ piv f :: F2.map piv)).natAbs * gcdR f := gm f _ 0
    rw [g2, g1 f hf, Nat.mul_one] at this
    exact Int.natAbs_dvd_natAbs.mp this
  obtain ⟨t, ht⟩ := dv
  have t0 : t ≠ 0 := fun z => by
    rw [z, Int.mul_zero] at ht
    rw [eP] at k3
    exact k3 ht
  have pc := prop c
  rw [ht, Int.mul_assoc] at pc
  have wc : det G (F1.map piv ++ c :: F2.map piv) = t * vl f c := Int.eq_of_mul_eq_mul_left (by omega) pc
  have bd : (det G (F1.map piv ++ c :: F2.map piv)).natAbs ≤ facB B n := Nat.le_trans (det_bd (B := B) fun r hr p _ => by
    obtain ⟨q, hq, rfl⟩ := List.mem_map.mp (k1 r hr)
    by_cases d : p < q.length
    · exact hB q hq _ (vl_mem d)
    · rw [vl_out (by omega)]; exact Nat.zero_le _) (facB_mono B1 (by rw [k2]; omega))
  rw [wc, Int.natAbs_mul] at bd
  exact Nat.le_trans (Nat.le_mul_of_pos_left _ (by omega)) bd
end AL
set_option Elab.async false
set_option linter.all false
set_option maxRecDepth 100000
/-! minors and their greatest common divisor -/
namespace AL
namespace MM
theorem det_pm {l l' : List Fn} (h : l.Perm l') : ∀ (A : List Fn) (P : List Nat), det (A ++ l) P = det (A ++ l') P ∨ det (A ++ l) P = - det (A ++ l') P := by
  induction h with
  | nil => exact fun A P => .inl rfl
  | cons x h ih =>
    intro A P
    have := ih (A ++ [x]) P
    rwa [List.append_assoc, List.append_assoc] at this
  | swap x y l => exact fun A P => .inr (det_swap y x l A P)
  | trans _ _ i1 i2 =>
    intro A P
    rcases i1 A P with a | a <;> rcases i2 A P with b | b
    · exact .inl (a.trans b)
    · exact .inr (a.trans b)
    · exact .inr (by rw [a, b])
    · exact .inl (by rw [a, b, Int.neg_neg])
theorem perm_of {α : Type} : ∀ {G E : List α}, G.Nodup → (∀ g ∈ G, g ∈ E) → E.length ≤ G.length → G.Perm E
  | [], E, _, _, l => by
    have : E = [] := List.eq_nil_of_length_eq_zero (by simpa using l)
    rw [this]
  | g :: G, E, nd, h, l => by
    obtain ⟨E1, E2, rfl⟩ := List.append_of_mem (h g (List.mem_cons_self ..))
    obtain ⟨n1, n2⟩ := List.nodup_cons.mp nd
    have ih := perm_of (G := G) (E := E1 ++ E2) n2 (fun x hx => by
      have := h x (List.mem_cons_of_mem _ hx)
      rcases List.mem_append.mp this with w | w
      · exact List.mem_append_left _ w
      · rcases List.mem_cons.mp w with rfl | w
        · exact absurd hx n1
        · exact List.mem_append_right _ w) (by simp at l ⊢; omega)
    exact (ih.cons g).trans List.perm_middle.symm

theorem cpm {l l' : List Nat} (h : l.Perm l') : ∀ (A : List Nat) (R : List Fn), det R (A ++ l) = det R (A ++ l') ∨ det R (A ++ l) = - det R (A ++ l') := by
  induction h with
  | nil => exact fun A R => .inl rfl
  | cons x h ih =>
    intro A R
    have := ih (A ++ [x]) R
    rwa [List.append_assoc, List.append_assoc] at this
  | swap x y l => exact fun A R => .inr (det_csw y x R A l)
  | trans _ _ i1 i2 =>
    intro A R
    rcases i1 A R with a | a <;> rcases i2 A R with b | b
    · exact .inl (a.trans b)
    · exact .inr (a.trans b)
    · exact .inr (by rw [a, b])
    · exact .inl (by rw [a, b, Int.neg_neg])
theorem sort_nodup : ∀ {l : List Nat}, l.Nodup → ∃ l', l.Perm l' ∧ l'.Pairwise (· < ·)
  | [], _ => ⟨[], .nil, .nil⟩
  | a :: t, h => by
    obtain ⟨n1, n2⟩ := List.nodup_cons.mp h
    obtain ⟨t', p, s⟩ := sort_nodup n2
    have na : ∀ x ∈ t', x ≠ a := fun x hx e => n1 (by rw [← e]; exact p.mem_iff.mpr hx)
    refine ⟨t'.filter (fun x => decide (x < a)) ++ a :: t'.filter (fun x => !decide (x < a)), ?_, ?_⟩
    · exact ((p.trans (List.filter_append_perm (fun x => decide (x < a)) t').symm).cons a).trans List.perm_middle.symm
    · rw [List.pairwise_append]
      refine ⟨s.filter _, List.pairwise_cons.mpr ⟨fun y hy => ?_, s.filter _⟩, fun x hx y hy => ?_⟩
      · obtain ⟨m, d⟩ := List.mem_filter.mp hy
        have d' : ¬ y < a := fun w => by rw [decide_eq_true w] at d; cases d
        have := na y m
        omega
      · have hx' := of_decide_eq_true (List.mem_filter.mp hx).2
        rcases List.mem_cons.mp hy with rfl | hy
        · exact hx'
        · obtain ⟨_, d⟩ := List.mem_filter.mp hy
          have d' : ¬ y < a := fun w => by rw [decide_eq_true w] at d; cases d
          omega
theorem dup_ex {α : Type} : ∀ {l : List α}, ¬ l.Nodup → ∃ A x B C, l = A ++ x :: (B ++ x :: C)
  | [], h => absurd List.nodup_nil h
  | r :: R, h => by
    by_cases m : r ∈ R
    · obtain ⟨B, C, e⟩ := List.append_of_mem m
      exact ⟨[], r, B, C, by rw [e]; rfl⟩
    · obtain ⟨A, x, B, C, e⟩ := dup_ex fun n => h (List.nodup_cons.mpr ⟨m, n⟩)
      exact ⟨r :: A, x, B, C, by rw [e]; rfl⟩
/-- what divides all minors with rising columns divides all -/
theorem col_all {R : List Fn} {W s : Nat} {d : Int} (hR : ∀ r ∈ R, ∀ c, W ≤ c → r c = 0) (h : ∀ Q : List Nat, Q.length = s → Q.Pairwise (· < ·) → (∀ q ∈ Q, q < W) → d ∣ det R Q) : ∀ Q : List Nat, Q.length = s → d ∣ det R Q := fun Q lQ => by
  by_cases nd : Q.Nodup
  · by_cases b : ∀ q ∈ Q, q < W
    · obtain ⟨Q', p, a⟩ := sort_nodup nd
      have w := h Q' (by rw [← p.length_eq]; exact lQ) a fun q hq => b q (p.mem_iff.mpr hq)
      rcases cpm p [] R with e | e
      · rw [show det R Q = det R Q' from e]; exact w
      · rw [show det R Q = - det R Q' from e]; exact Int.dvd_neg.mpr w
    · obtain ⟨q, hq, bq⟩ : ∃ q, q ∈ Q ∧ W ≤ q := Classical.byContradiction fun c => b fun q hq => Classical.byContradiction fun w => c ⟨q, hq, by omega⟩
      rw [det_zcol (p := q) (fun r hr => hR r hr q bq) hq]; exact Int.dvd_zero _
  · obtain ⟨A, x, B, C, rfl⟩ := dup_ex nd
    rw [det_ctwo]; exact Int.dvd_zero _
/-- rows by their places -/
def pick (rows : List Rw) (J : List Nat) : List Fn := J.map fun i => vl (rows.getD i [])
theorem pick_all {rows : List Rw} {s : Nat} {P : List Nat} {d : Int} (h : ∀ J : List Nat, J.length = s → J.Pairwise (· < ·) → (∀ j ∈ J, j < rows.length) → d ∣ det (pick rows J) P) : ∀ G : List Fn, (∀ g ∈ G, g ∈ vR rows) → G.length = s → d ∣ det G P := fun G hG lG => by
  have : ∃ J : List Nat, pick rows J = G ∧ ∀ j ∈ J, j < rows.length := by
    clear lG
    induction G with
    | nil => exact ⟨[], rfl, fun j hj => nomatch hj⟩
    | cons g G ih =>
      obtain ⟨J, e, b⟩ := ih fun x hx => hG x (List.mem_cons_of_mem _ hx)
      obtain ⟨r, hr, eg⟩ := List.mem_map.mp (hG g (List.mem_cons_self ..))
      obtain ⟨i, hi⟩ := List.mem_iff_getElem?.mp hr
      refine ⟨i :: J, ?_, fun j hj => ?_⟩
      · show vl (rows.getD i []) :: pick rows J = g :: G
        rw [e, ← eg, List.getD_eq_getElem?_getD, hi]; rfl
      · rcases List.mem_cons.mp hj with rfl | hj
        · exact (List.getElem?_eq_some_iff.mp hi).1
        · exact b j hj
  obtain ⟨J, rfl, b⟩ := this
  have lJ : J.length = s := by rw [← lG]; exact (List.length_map ..).symm
  by_cases nd : J.Nodup
  · obtain ⟨J', p, a⟩ := sort_nodup nd
    have w := h J' (by rw [← p.length_eq]; exact lJ) a fun q hq => b q (p.mem_iff.mpr hq)
    rcases det_pm (p.map fun i => vl (rows.getD i [])) [] P with e | e
    · rw [show det (pick rows J) P = det (pick rows J') P from e]; exact w
    · rw [show det (pick rows J) P = - det (pick rows J') P from e]; exact Int.dvd_neg.mpr w
  · obtain ⟨A, x, B, C, rfl⟩ := dup_ex nd
    have : pick rows (A ++ x :: (B ++ x :: C)) = pick rows A ++ vl (rows.getD x []) :: (pick rows B ++ vl (rows.getD x []) :: pick rows C) := by unfold pick; simp
    rw [this, det_two]; exact Int.dvd_zero _
/-- the greatest common divisor of all minors of a size -/
structure IsMin (rows : List Rw) (s g : Nat) : Prop where
  dv : ∀ (G : List Fn) (P : List Nat), (∀ x ∈ G, x ∈ vR rows) → G.length = s → P.length = s → (g : Int) ∣ det G P
  gr : ∀ d : Nat, (∀ (G : List Fn) (P : List Nat), (∀ x ∈ G, x ∈ vR rows) → G.length = s → P.length = s → (d : Int) ∣ det G P) → d ∣ g
theorem dvd_lat {rows : List Rw} {P : List Nat} {d : Int} {N : Nat} (h : ∀ G : List Fn, (∀ g ∈ G, g ∈ vR rows) → G.length = N → d ∣ det G P) : ∀ {X G : List Fn}, (∀ g ∈ G, g ∈ vR rows) → (∀ x ∈ X, Lat (inR rows) x) → G.length + X.length = N → d ∣ det (G ++ X) P
  | [], G, hg, _, l => by rw [List.append_nil]; exact h G hg (by simpa using l)
  | x :: X, G, hg, hx, l => by
    have lx := hx x (List.mem_cons_self ..)
    have go : ∀ y, Lat (inR rows) y → d ∣ det (G ++ y :: X) P := fun y hy => by
      induction hy with
      | @mem y h' =>
        have ih := dvd_lat h (X := X) (G := G ++ [y]) (fun g hh => by
          rcases List.mem_append.mp hh with e | e
          · exact hg g e
          · rw [List.mem_singleton.mp e]; exact inR_mem.mpr h') (fun z hz => hx z (List.mem_cons_of_mem _ hz)) (by rw [List.length_append, List.length_singleton]; rw [List.length_cons] at l; omega)
        rw [List.append_assoc] at ih
        exact ih
      | zero => rw [det_zero]; exact Int.dvd_zero _
      | lin m t _ _ i1 i2 => rw [det_lin]; exact Int.dvd_add (Int.dvd_trans i1 (Int.dvd_mul_left _ _)) (Int.dvd_trans i2 (Int.dvd_mul_left _ _))
    exact go x lx
theorem IsMin.lat {rows : List Rw} {s g : Nat} (h : IsMin rows s g) {X : List Fn} {P : List Nat} (hx : ∀ x ∈ X, Lat (inR rows) x) (l : X.length = s) (lP : P.length = s) : (g : Int) ∣ det X P := by
  have := dvd_lat (rows := rows) (P := P) (d := (g : Int)) (N := s) (fun G hG lG => h.dv G P hG lG lP) (X := X) (G := []) (fun g hg => nomatch hg) hx (by simpa using l)
  exact this
theorem IsMin.gen {A B : List Rw} {s g : Nat} (h : IsMin A s g) (k : Gen A B) : IsMin B s g := by
  have lt : ∀ {A B : List Rw}, (∀ b ∈ B, Lat (inR A) (vl b)) → ∀ x ∈ vR B, Lat (inR A) x := fun hl x hx => by
    obtain ⟨b, hb, rfl⟩ := List.mem_map.mp hx
    exact hl b hb
  refine ⟨fun G P hG lG lP => h.lat (fun x hx => lt k.2 x (hG x hx)) lG lP, fun d hd => h.gr d fun G P hG lG lP => ?_⟩
  have := dvd_lat (rows := B) (P := P) (d := (d : Int)) (N := s) (fun G' hG' lG' => hd G' P hG' lG' lP) (X := G) (G := []) (fun g hg => nomatch hg) (fun x hx => lt k.1 x (hG x hx)) (by simpa using lG)
  exact this
theorem IsMin.uniq {A : List Rw} {s g g' : Nat} (h : IsMin A s g) (h' : IsMin A s g') : g = g' := Nat.dvd_antisymm (h'.gr g h.dv) (h.gr g' h'.dv)
/-- minors with more rows ahead -/
theorem dvd_ext {K : List Fn} {d : Int} {s : Nat} (h : ∀ P : List Nat, P.length = s → d ∣ det K P) : ∀ (A : List Fn) (P : List Nat), P.length = A.length + s → d ∣ det (A ++ K) P
  | [], P, l => h P (by simpa using l)
  | a :: A, P, l => by
    have ih := dvd_ext h A
    have go : ∀ (P : List Nat) (F : List Nat → Int) (n : Nat), P.length = n + 1 → (∀ Q, Q.length = n → d ∣ F Q) → d ∣ exq a F P := fun P => by
      induction P with
      | nil => exact fun F n h _ => by simp at h
      | cons p P ihP =>
        intro F n hl hF
        show d ∣ a p * F P - exq a (fun Q => F (p :: Q)) P
        have hn : P.length = n := by simpa using hl
        refine Int.dvd_sub (Int.dvd_trans (hF P hn) (Int.dvd_mul_left _ _)) ?_
        cases n with
        | zero =>
          have : P = [] := List.eq_nil_of_length_eq_zero hn
          rw [this]; exact Int.dvd_zero _
        | succ n => exact ihP _ n hn fun Q hQ => hF (p :: Q) (by rw [List.length_cons, hQ])
    exact go P (det (A ++ K)) (A.length + s) (by rw [l]; simp; omega) fun Q hQ => ih Q hQ
/-- Bareiss to its end -/
theorem bar_run {W : Nat} {rows : List Rw} : ∀ (m : Nat) {s k : Nat} {left R : List Rw} {d : Int} {P : List Nat}, k + m = W → Bar W s k rows left d R P → ∃ s', RankIs rows s' ∧ s' ≤ s + m
  | 0, s, k, left, R, d, P, e, b => ⟨s, bar_end b (.inl (by omega)), by omega⟩
  | m + 1, s, k, left, R, d, P, e, b => by
    have ll := b.ll
    by_cases h : ∀ j, s ≤ j → j < R.length → vl (left.getD j []) k = 0
    · obtain ⟨s', r, l⟩ := bar_run m (by omega) (bar_skip b h)
      exact ⟨s', r, by omega⟩
    · obtain ⟨f, sf, fl, fz⟩ : ∃ f, s ≤ f ∧ f < R.length ∧ vl (left.getD f []) k ≠ 0 := Classical.byContradiction fun c => h fun j h1 h2 => Classical.byContradiction fun w => c ⟨j, h1, h2, w⟩
      have sl : s < left.length := by omega
      have fl' : f < left.length := by omega
      obtain ⟨R', br', lR'⟩ := bar_swap b sl sf fl'
      have hk : vl (((left.set s left[f]).set f left[s]).getD s []) k ≠ 0 := by
        rw [getD_swap sl fl' sl]
        by_cases e : s = f
        · rw [if_pos e]; rw [← e] at fz; exact fz
        · rw [if_neg e, if_pos rfl]; exact fz
      generalize (left.set s left[f]).set f left[s] = left2 at br' hk
      have ll2 := br'.ll
      have st := bar_step br' (by omega) hk (left' := (List.range R'.length).map fun j => if s < j then barR (left2.getD s []) (left2.getD j []) k d else left2.getD j []) (by rw [List.length_map, List.length_range]) fun j hj => by
        rw [List.getD_eq_getElem?_getD, List.getElem?_map, List.getElem?_range hj]; rfl
      obtain ⟨s', r, l⟩ := bar_run m (by omega) st
      exact ⟨s', r, by omega⟩
theorem det_low {rows : List Rw} {s : Nat} (h : RankIs rows s) (l : s < rows.length) (P : List Nat) : det (vR rows) P = 0 := Classical.byContradiction fun c => by
  obtain ⟨B, Q, lB, _, _, _, k⟩ := h.ex
  have := minor_le (F := B) (B := rows) (P := P) k c
  omega
end MM
end AL
set_option Elab.async false
set_option linter.all false
set_option maxRecDepth 100000
set_option maxHeartbeats 2000000
/-! enumerate(t) of a tuple, in a for. -/
namespace AL
open PySem PySem.Spec PyProof.Rows L2
theorem newE_of {v : Value} {ob : Obj} {HH : Heap → Prop} (B : Begins v ob HH) :
    Meets (Builtin.«enumerate.__new__» ⟨[.type "enumerate", v], []⟩) (fun _ R s => HH s.heap ∧
      R (.ok (.ret (.ref (s.heap.push ob).objs.size))) { s with heap := (s.heap.push ob).push { cls := .type "enumerate", data := .fields #[.none, .bool false, .ref s.heap.objs.size, rawInt 0, .none, .none] } }) :=
  .of_wp fun pr wo Ar R s hh => by
    obtain ⟨hp, g, d, tk, os⟩ := s; obtain ⟨z1, hh⟩ := hh
    have hsub := sub_enumerate
    have its : ∀ {A' : Around} {E : Value → Shared → Prop} {Q : Value → Shared → Prop}, Q (.ref hp.objs.size) ⟨hp.push ob, g, d, tk, os⟩ → wpAny (model pr wo) A' (pyIter v) Q E ⟨hp, g, d, tk, os⟩ :=
      fun q => B.iter pr wo _ _ ⟨hp, g, d, tk, os⟩ _ z1 q
    wp_walk using its
    refine wpAny_stack_any fun st => wpAny_pure ?_
    split
    · rename_i cc _ _ _ _ _
      cases (cc == Value.type "enumerate")
      · wp_walk using its
        exact ⟨_, rfl, hh⟩
      · wp_walk using its
        exact ⟨_, rfl, hh⟩
    · wp_walk using its
      exact ⟨_, rfl, hh⟩
theorem call_enumT {prog : Program} {w : World} {A : Around} {E : Value → Shared → Prop} {s : Shared} {a : Addr} {items : Array Value} {Q : Value → Shared → Prop} (hL : s.heap.IsTuple a items)
    (hh : ∀ h', IsEnum h' (s.heap.objs.size + 1) s.heap.objs.size 0 .none → h'.IsTupleIter s.heap.objs.size a 0 → h'.objs.size = s.heap.objs.size + 2 →
      (∀ b o, s.heap.get? b = some o → h'.get? b = some o) → Q (.ref (s.heap.objs.size + 1)) { s with heap := h' }) :
    wpAny (model prog w) A (call (.type "enumerate") [.ref a]) Q E s := by
  refine callType_new F.called_enumerate (by decide) (F.typeCall_enumerate_1 _) (F.newCall_enumerate_1 _) (fun obj => F.args_object_init_2 obj _) F.entry_enumerate_new (newE_of (begins_tuple a items)) ⟨hL, ?_⟩
  have sz : (s.heap.push { cls := .type "tuple_iterator", data := .fields #[.ref a, .int 0 0] }).objs.size = s.heap.objs.size + 1 := Heap.size_push ..
  show _ ∧ _
  rw [sz]
  have en : IsEnum ((s.heap.push { cls := .type "tuple_iterator", data := .fields #[.ref a, .int 0 0] }).push
      { cls := .type "enumerate", data := .fields #[.none, .bool false, .ref s.heap.objs.size, rawInt 0, .none, .none] }) (s.heap.objs.size + 1) s.heap.objs.size 0 .none := by
    have z := Heap.get?_push_size (s.heap.push { cls := .type "tuple_iterator", data := .fields #[.ref a, .int 0 0] }) (o := { cls := .type "enumerate", data := .fields #[.none, .bool false, .ref s.heap.objs.size, rawInt 0, .none, .none] }) rfl
    rw [sz] at z; exact z
  refine ⟨⟨_, en, rfl⟩, hh _ en ⟨_, Heap.get?_push_of_some _ (Heap.get?_push_size _ rfl), rfl, rfl⟩ (by rw [Heap.size_push, sz]) fun b o x => Heap.get?_push_of_some _ (Heap.get?_push_of_some _ x)⟩
/-- the tuple at a as it stands at each turn, each item in a new pair -/
def IteT (K : PySem.W.Frag) (a : Addr) : It :=
  ⟨fun i H => ∃ (xs : List V) (x : V), SqT K H a xs ∧ xs[i]? = some x, fun i H v H' => ∃ T x, v = .ref T ∧ H T = none ∧ H' = upd H T (.tup [.int (i : Nat), x]) ∧ ∀ xs, SqT K H a xs → xs[i]? = some x, fun i H => ∃ xs : List V, SqT K H a xs ∧ xs.length ≤ i⟩
theorem turn_enumT {P : Program} {w : World} {K : PySem.W.Frag} {elts : List Expr} {kk : Nat} {tpos : Pos} (a e it : Addr) :
    Turn P w K (.Tuple elts kk tpos) (IteT K a) [e, it] e (fun i h => (∃ old, IsEnum h e it ((i : Nat) : Int) old) ∧ h.IsTupleIter it a i ∧ e ≠ it ∧ a ≠ it ∧ a ≠ e) where
  mem := by simp
  obj := fun i h st b hb => by
    obtain ⟨⟨old, he⟩, ⟨o, ho, hc, hd⟩, _⟩ := st
    have z : b = e ∨ b = it := by simpa using hb
    rcases z with z | z
    · rw [z]; exact ⟨_, he, fun v q => nomatch q⟩
    · rw [z]; exact ⟨o, ho, fun v q => by rw [hd] at q; cases q⟩
  keep := fun i h h' st k => let ⟨⟨old, he⟩, hi, hne⟩ := st; ⟨⟨old, k e (by simp) _ he⟩, hi.at fun o q => k it (by simp) o q, hne⟩
  item := by
    intro X hP hw hK hc i pins s σ H E I hf st hg
    subst hP hw hK
    obtain ⟨⟨old, he⟩, hit, hne, hai, hae⟩ := st
    obtain ⟨xs, x, hq, hx⟩ := hg
    obtain ⟨its, rv, p, hz⟩ := I.tuple hq
    obtain ⟨u, hu, ru⟩ := rv.get hx
    have pt : s.heap.IsTuple a its.toArray := p
    have hel : e < s.heap.objs.size := Heap.lt_size he
    have hil : it < s.heap.objs.size := by obtain ⟨_, q, _⟩ := hit; exact Heap.lt_size q
    have le : i < its.toArray.size := by
      have := (List.getElem?_eq_some_iff.mp hu).1
      simpa using this
    have D := Draws.tuple (prog := X.prog) (w := X.w) (A := X.A.in1) (I.ok.hd hc) it a hai its.toArray
    refine wpAny_pyNext_enum_itemD D he ⟨hit, pt⟩ le hne (by simp [hne, Ne.symm hae]) fun xv h' tk hxv ho hst' hT hsz hk => ?_
    have ev : xv = u := by
      have hu' : its.toArray[i]? = some u := by simpa using hu
      rw [hu'] at hxv
      exact (Option.some.inj hxv).symm
    subst ev
    obtain ⟨hit', pt'⟩ := hst'
    refine ⟨_, rfl, wpAny_letOwnedTupleGo_enum (s := { s with heap := h', toks := tk + 1 }) ho fun h'' he' sb => ?_⟩
    have hT2 : h''.get? s.heap.objs.size = some { cls := .type "tuple", data := .seq #[.int i tk, xv] } := (sb.2 _ (Nat.ne_of_gt hel)).trans hT
    have new : ObjOk X.prog X.w (upd H s.heap.objs.size (.tup [.int (i : Nat), x])) h'' s.heap.objs.size (.tup [.int (i : Nat), x]) :=
      ⟨by show 2 ≤ sizeLine; decide, [.int i tk, xv], .cons ⟨_, rfl⟩ (.cons ru .nil), ⟨_, hT2, rfl, _, rfl⟩⟩
    have I1 : Inv X pins σ (upd H s.heap.objs.size (.tup [.int (i : Nat), x])) { s with heap := h'', toks := tk + 1 } :=
      I.turnedNew (t' := tk + 1) (ch := [e, it]) (fun b ob hb q => (sb.2 b (fun z => hb (by simp [z]))).trans (hk b ob (fun z => hb (by simp [z])) (fun z => hb (by simp [z])) q)) hf (Nat.le_refl _) new
    refine ⟨.ref s.heap.objs.size, _, I1, rfl, ⟨_, x, rfl, I.hok.fresh (Nat.le_refl _), rfl, fun ys hy => by rw [I.tuple_inj hy hq]; exact hx⟩, ⟨⟨xv, ?_⟩, hit'.at fun o q => (sb.2 it (Ne.symm hne)).trans q, hne, hai, hae⟩, fun b hb => ?_⟩
    · have e1 : ((i + 1 : Nat) : Int) = (i : Int) + 1 := by omega
      rw [e1]; exact he'
    · have hb' : b < s.heap.objs.size := by
        have z : b = e ∨ b = it := by simpa using hb
        rcases z with z | z
        · rw [z]; exact hel
        · rw [z]; exact hil
      rw [upd_ne (Nat.ne_of_lt hb')]
      exact (hf b hb).1
  done := by
    intro X hP hw hK hc i pins s σ H E I hf st hg
    subst hP hw hK
    obtain ⟨⟨old, he⟩, hit, hne, hai, hae⟩ := st
    obtain ⟨xs, hq, hx⟩ := hg
    obtain ⟨its, rv, p, hz⟩ := I.tuple hq
    have pt : s.heap.IsTuple a its.toArray := p
    obtain ⟨f0, f1, f2, f3, f4, f5⟩ := hf it (by simp)
    have hl := rv.length
    obtain ⟨_, he0⟩ : ∃ o, IsEnum s.heap e it ((i : Nat) : Int) o := ⟨old, he⟩
    have hT : s.TypeIs (.ref e) "enumerate" := ⟨_, he, rfl⟩
    unfold pyNext
    refine wpAny_bind (wpAny_attempt (wpAny_callSpecial?_slot (name := Str.ofString "__next__") hT F.slot_enumerate_next (wpAny_call_entry F.slot_enumerate_next hT F.entry_enumerate_next ?_ (F.args_enumerate_next_1 _))))
    show wpAny _ _ (field (.ref e) 2 >>= _) _ _ _
    refine wpAny_bind (wpAny_field he rfl (x := .ref it) rfl ?_)
    refine wpAny_bind (wpAny_nextOf_tuple_end (I.ok.hd hc) hit pt (by simp; omega) fun h' x eb hx' => ?_)
    obtain ⟨o, ho, hc'⟩ := hx'
    refine wpAny_bind (wpAny_isInstance (T := "StopIteration") (b := true) ⟨o, ho, hc'⟩ isSubtype_stop ?_)
    exact wpAny_pure ⟨rfl, I.turned (t' := s.toks) (fun b o hb q => eb b o hb q) f0 f1 f3 f4 f5⟩
  self := fun A i s Q E st h => let ⟨⟨_, he⟩, _⟩ := st; wpAny_pyIter_enum he h
def iEnumT (K : PySem.W.Frag) (ta : TA) : TI := fun σ H R => ta σ H fun vs H1 => ∃ a xs, vs = [.ref a] ∧ SqT K H1 a xs ∧ R (IteT K a) H1
theorem pi_enumT {X : Cx} {e : Expr} {ta : TA} {p pos tpos : Pos} {elts : List Expr} {kk : Nat} (hg : Gl X "enumerate") (hm : X.mg "enumerate" = none) (ha : PA X [e] ta) (hs : starEach [e] X.env = [(false, eval e X.env)] := by rfl) :
    PI X (.Tuple elts kk tpos) (.Call (.Name "enumerate" p) [e] [] pos) (iEnumT X.K ta) := by
  refine ⟨fun pins s σ H R I h => ?_⟩
  refine Call_ (ld_blt I hg hm boot_enumerate (PyProof.Rows.callWith_type1 (thn (ha.run pos pins s σ H _ I h) fun us s1 ⟨vs, H1, I1, r1, q1⟩ => ?_) hs rfl))
  obtain ⟨a, xs, ex, hq, q⟩ := q1
  subst ex
  cases r1 with
  | cons r rr =>
    cases rr
    cases r
    obtain ⟨its, rv, p', hz⟩ := I1.tuple hq
    have pt : s1.heap.IsTuple a its.toArray := p'
    have la : a < s1.heap.objs.size := by obtain ⟨_, z, _⟩ := pt; exact Heap.lt_size z
    refine call_enumT pt fun h' he hit hsz hk => wpAny_pyIter_enum he ?_
    have I2 : Inv X pins σ H1 { s1 with heap := h' } := I1.kept (t' := s1.toks) hk
    refine ⟨s1.heap.objs.size + 1, [s1.heap.objs.size + 1, s1.heap.objs.size], _, _, H1, rfl, I2, turn_enumT a (s1.heap.objs.size + 1) s1.heap.objs.size, ⟨⟨.none, he⟩, hit, Nat.succ_ne_self _, Nat.ne_of_lt la, Nat.ne_of_lt (Nat.lt_succ_of_lt la)⟩, fun b hb => ?_, q⟩
    have z : b = s1.heap.objs.size + 1 ∨ b = s1.heap.objs.size := by simpa using hb
    have hle : s1.heap.objs.size ≤ b := by
      rcases z with z | z
      · rw [z]; exact Nat.le_add_right _ _
      · rw [z]; exact Nat.le_refl _
    exact I1.fpOk hle (I1.hok.fresh hle)
theorem walk_enumT {K : PySem.W.Frag} {a : Addr} {xs : List V} : Walk (IteT K a) xs.length (fun H => SqT K H a xs) (YPair (fun i => some (.int (i : Nat))) (fun i => xs[i]?)) := by
  refine ⟨fun i _ hi q => ⟨xs, xs[i], q, by simp [hi]⟩, fun _ q => ⟨xs, q, Nat.le_refl _⟩, fun i H v H' _ q y => ?_⟩
  obtain ⟨T, x, g1, g2, g3, g4⟩ := y
  exact ⟨T, .int (i : Nat), x, g1, g2, g3, rfl, g4 xs q⟩
end AL
set_option Elab.async false
set_option linter.all false
/-! one of two readings of the same piece of the program, by what is asked of it -/
namespace AL
open PySem PySem.Spec PyProof.Rows L2
theorem pi_or {X : Cx} {tg l : Expr} {w1 w2 : TI} (h1 : PI X tg l w1) (h2 : PI X tg l w2) : PI X tg l (fun σ H R => w1 σ H R ∨ w2 σ H R) :=
  ⟨fun pins s σ H R I h => h.elim (h1.run pins s σ H R I) (h2.run pins s σ H R I)⟩
theorem pe_or2 {X : Cx} {e : Expr} {t1 t2 : TE} (h1 : PE X e t1) (h2 : PE X e t2) : PE X e (fun σ H Q => t1 σ H Q ∨ t2 σ H Q) :=
  ⟨fun pins s σ H Q I h => h.elim (h1.run pins s σ H Q I) (h2.run pins s σ H Q I)⟩
end AL
set_option Elab.async false
set_option linter.all false
set_option maxRecDepth 100000
set_option maxHeartbeats 2000000
/-! any(l), l a list or a tuple of ints. -/
namespace AL
open PySem PySem.Spec PyProof.Rows L2
section
variable {X : Cx}
theorem iter_tupA {prog : Program} {w : World} {A : Around} {E : Value → Shared → Prop} {s : Shared} {l : Addr} {items : Array Value} {Q : Value → Shared → Prop} (hl : s.heap.IsTuple l items)
    (h : ∀ s₂ : Shared, s₂ = { s with heap := s.heap.push { cls := .type "tuple_iterator", data := .fields #[.ref l, .int 0 0] } } → (s₂.heap.IsTupleIter s.heap.objs.size l 0 ∧ s₂.heap.IsTuple l items) → l ≠ s.heap.objs.size → Q (.ref s.heap.objs.size) s₂) :
    wpAny (model prog w) A (pyIter (.ref l)) Q E s := by
  have hlt : l < s.heap.objs.size := by obtain ⟨_, e, _⟩ := hl; exact Heap.lt_size e
  exact wpAny_pyIter_tuple hl (h _ rfl ⟨⟨_, Heap.get?_push_size _ rfl, rfl, rfl⟩, hl.push _⟩ (Nat.ne_of_lt hlt))
def rAnyIB (K : PySem.W.Frag) : List V → Hp → VK → Prop := fun vs H Q => ∃ (a : Addr) (ks : List Int), vs = [V.ref a] ∧ (SqL K H a (ks.map V.int) ∨ SqT K H a (ks.map V.int)) ∧ Q (.bl (ks.any fun k => decide (k ≠ 0))) H
theorem cr_anyIB (hc : X.calm = true) : CallR X (.builtin "any") (rAnyIB X.K) := by
  intro pins s σ H vs us Q I r h
  obtain ⟨a, ks, rfl, hs, q⟩ := h
  rcases hs with hs | hs
  · exact cr_anyI hc pins s σ H _ us Q I r ⟨a, ks, rfl, hs, q⟩
  obtain ⟨its, rv, hl, _⟩ := I.tuple hs
  rw [Vals.ref1 r]
  have hb : IntsAre its ks := by simpa using Vals.ints rv
  have ln := IntsAre.length hb
  refine call_any_walk (iter_tupA hl fun s₂ e2 st hne => ?_)
  subst e2
  refine ⟨_, _, _, _, _, _, _, rfl, Walks.tuple (A := X.A.in1) (I.ok.hd hc) _ a hne its.toArray, st, truth_ints hb, fun h' tk hk => ?_⟩
  refine ⟨.bl _, H, I.kept fun b o eo => hk b o (fun hmem => ?_) (Heap.get?_push_of_some _ eo), ?_, q⟩
  · rcases List.mem_cons.mp hmem with e1 | hmem
    · exact absurd (e1 ▸ Heap.lt_size eo) (Nat.lt_irrefl _)
    · cases hmem
  · show Value.bool _ = Value.bool _
    rw [← any_rangeI, List.size_toArray, ln]
end
end AL
set_option Elab.async false
set_option maxRecDepth 100000
set_option exponentiation.threshold 70000
set_option maxHeartbeats 1000000
namespace AL
open PySem PySem.Spec PyProof.Rows L2 RZ
section
variable {P : Program} {w : World} {K : PySem.W.Frag} {mg : Str → Option Value} {base : Heap}

structure ErH (K : PySem.W.Frag) (mg : Str → Option Value) (CG : Addr) : Prop where
  gcd : mg "gcd" = some (.builtin "math.gcd")
  clG : Cls K CG
  gB : NoAttr K CG "basis"
  gD : NoAttr K CG "down"
  gU : NoAttr K CG "up"
  mG : mg "Groups" = some (.ref CG)

/-- a def with default values, all of its parameters written -/
structure DefDf (dvs : List V) (K : PySem.W.Frag) (mg : Str → Option Value) (x : Str) (st : Stmt) (ps : List Str) (f : Addr) (fd : FuncData) : Prop where
  F : L2.FunD K x x (defArgs st) (defBody st) (defScope st) dvs [] f fd
  m : mg x = some (.ref f)
  b : Binds K fd ps []
  d : ∃ ds, Vals dvs ds ∧ Binds K fd ps ds
/-- a list of whole numbers -/
def LI (H : Hp) (a : Addr) (xs : List Int) : Prop := H a = some (.lst (xs.map V.int))
theorem LI.same {H H' : Hp} {a : Addr} {xs : List Int} (h : LI H a xs) (s : Same H H') : LI H' a xs := s _ _ h
/-- rows of whole numbers -/
def RowsZ (H : Hp) (w : Addr) (ws : List (List Int)) : Prop := ∃ as : List Addr, H w = some (.lst (as.map V.ref)) ∧ Paired (fun a r => H a = some (.lst (r.map V.int))) as ws

theorem RowsZ.same {H H' : Hp} {w : Addr} {ws : List (List Int)} (h : RowsZ H w ws) (s : Same H H') : RowsZ H' w ws := by
  obtain ⟨as, h1, h2⟩ := h
  exact ⟨as, s _ _ h1, paired_mono h2 fun _ _ z => s _ _ z⟩
/-- whole numbers in a list or a tuple -/
def LT (H : Hp) (a : Addr) (xs : List Int) : Prop := H a = some (.lst (xs.map V.int)) ∨ H a = some (.tup (xs.map V.int))
theorem LT.same {H H' : Hp} {a : Addr} {xs : List Int} (h : LT H a xs) (s : Same H H') : LT H' a xs := h.elim (fun z => .inl (s _ _ z)) fun z => .inr (s _ _ z)
theorem LT.seq {K : PySem.W.Frag} {H : Hp} {a : Addr} {xs : List Int} (h : LT H a xs) : SqL K H a (xs.map V.int) ∨ SqT K H a (xs.map V.int) := h.elim (fun z => .inl (SqL.of z)) fun z => .inr (SqT.of z)
theorem LT.sqb {K : PySem.W.Frag} {H : Hp} {a : Addr} {xs : List Int} (h : LT H a xs) : ∃ k, SqB K H a (xs.map V.int) k := h.elim (fun z => ⟨true, SqL.of z⟩) fun z => ⟨false, SqT.of z⟩
/-- rows, each in a list or a tuple -/
def RowsT (H : Hp) (w : Addr) (ws : List (List Int)) : Prop := ∃ as : List Addr, H w = some (.lst (as.map V.ref)) ∧ Paired (fun a r => LT H a r) as ws
theorem RowsT.same {H H' : Hp} {w : Addr} {ws : List (List Int)} (h : RowsT H w ws) (s : Same H H') : RowsT H' w ws := by
  obtain ⟨as, h1, h2⟩ := h
  exact ⟨as, s _ _ h1, paired_mono h2 fun _ _ z => z.same s⟩
theorem RowsZ.toT {H : Hp} {w : Addr} {ws : List (List Int)} (h : RowsZ H w ws) : RowsT H w ws := by
  obtain ⟨as, h1, h2⟩ := h
  exact ⟨as, h1, paired_mono h2 fun _ _ z => .inl z⟩
/-- below 2 ^ b -/
def Bd (b : Nat) (x : Rw) : Prop := ∀ v ∈ x, v.natAbs < 2 ^ b
theorem Bd.mono {b c : Nat} {x : Rw} (h : Bd b x) (le : b ≤ c) : Bd c x := fun v hv => Nat.lt_of_lt_of_le (h v hv) (Nat.pow_le_pow_right (by decide) le)
theorem Bd.vl {b : Nat} {x : Rw} (h : Bd b x) (j : Nat) : (vl x j).natAbs < 2 ^ b := by
  by_cases hj : j < x.length
  · exact h _ (vl_mem hj)
  · rw [vl_out (by omega)]; exact Nat.two_pow_pos b
theorem Bd.of {b : Nat} {x : Rw} (h : ∀ j, (AL.vl x j).natAbs < 2 ^ b) : Bd b x := fun v hv => by
  obtain ⟨j, hj⟩ := List.mem_iff_getElem?.mp hv
  rw [← vl_get hj]; exact h j
def rLenK (K : PySem.W.Frag) : List V → Hp → VK → Prop := fun xs H Q => ∃ p ys, xs = [V.ref p] ∧ (SqL K H p ys ∨ SqT K H p ys) ∧ Q (V.int (ys.length : Nat)) H
theorem call_lenK {X : Cx} : CallR X (.builtin "len") (rLenK X.K) := call_len_seq
def rTup (K : PySem.W.Frag) : List V → Hp → VK → Prop := fun xs H Q => ∃ p ys, xs = [V.ref p] ∧ ((SqL K H p ys ∧ ∀ l, H l = none → Q (.ref l) (upd H l (.tup ys))) ∨ (SqT K H p ys ∧ Q (.ref p) H))
theorem call_tupK {X : Cx} : CallR X (.type "tuple") (rTup X.K) := call_tuple_of
/-- pivot_of(row) -/
def spPv : Sp := fun vs H Q _ => ∃ (a : Addr) (xs : Rw), vs = [.ref a] ∧ LI H a xs ∧ ∀ H', Same H H' → Q (.int (piv xs : Int)) H'
/-- combined(many, one, times, other) -/
def spCm : Sp := fun vs H Q _ => ∃ (m t : Int) (a b : Addr) (xs ys : Rw), vs = [.int m, .ref a, .int t, .ref b] ∧ LI H a xs ∧ LI H b ys ∧ xs.length = ys.length ∧ xs.length ≤ 200 ∧ m.natAbs < 2 ^ 13000 ∧ t.natAbs < 2 ^ 13000 ∧ Bd 13000 xs ∧ Bd 13000 ys ∧
  ∀ D H', H D = none → Same H H' → LI H' D (comb m xs t ys) → Q (.ref D) H'
/-- pivot_of, combined: a row in a list or a tuple -/
def spPvT : Sp := fun vs H Q _ => ∃ (a : Addr) (xs : Rw), vs = [.ref a] ∧ LT H a xs ∧ ∀ H', Same H H' → Q (.int (piv xs : Int)) H'
def spCmT : Sp := fun vs H Q _ => ∃ (m t : Int) (a b : Addr) (xs ys : Rw), vs = [.int m, .ref a, .int t, .ref b] ∧ LT H a xs ∧ LI H b ys ∧ xs.length = ys.length ∧ xs.length ≤ 200 ∧ m.natAbs < 2 ^ 13000 ∧ t.natAbs < 2 ^ 13000 ∧ Bd 13000 xs ∧ Bd 13000 ys ∧
  ∀ D H', H D = none → Same H H' → LI H' D (comb m xs t ys) → Q (.ref D) H'
theorem sqb_all {K : PySem.W.Frag} {H : Hp} {a : Addr} {xs : List Int} (h : LT H a xs) : ∃ k, ∀ H', Same H H' → SqB K H' a (xs.map V.int) k :=
  h.elim (fun z => ⟨true, fun H' s => SqL.of (s _ _ z)⟩) fun z => ⟨false, fun H' s => SqT.of (s _ _ z)⟩
theorem piv_le : ∀ x : Rw, piv x ≤ x.length
  | [] => Nat.le_refl _
  | a :: r => by
    unfold piv
    have := piv_le r
    rw [List.length_cons]
    split <;> omega
theorem wmul {i j : Int} (h1 : i.natAbs < 2 ^ 13000) (h2 : j.natAbs < 2 ^ 13000) : CMulW i j := wide_mul h1 h2 (by decide) (by decide) (by decide)

abbrev stpivot_of : Stmt := top 2
theorem scpivot_of : FnScope ["row", "at", "item"] ["row"] (defScope stpivot_of) := ⟨rfl, rfl, rfl, by decide +kernel, rfl, by decide +kernel, by decide +kernel⟩
theorem okpivot_of (B : Blt mg)  {fpivot_of : Addr} {fdpivot_of : FuncData} (Dpivot_of : DefAt K mg "pivot_of" stpivot_of ["row"] fpivot_of fdpivot_of) : FnOk P w K mg base CX0 1 fpivot_of fdpivot_of ["row"] spPv := by
  refine Dpivot_of.F.ok scpivot_of (fun vs H Q E h => ?_) (fun cdv A outer s H vs Q E hr h => ?_)
  · obtain ⟨a, xs, rfl, _⟩ := h; rfl
  · have hu := hu_of hr
    refine ⟨_, (pss_cons (ps_for PassesOwn.never rfl (pi_enum (by rfl) B.enumerate_ (pa_cons (pv 0) pa_nil)) (pg_tup rfl (pgs_cons (pg_name (i := 1) scpivot_of.nd rfl (Or.inl rfl)) (pgs_cons (pg_name (i := 2) scpivot_of.nd rfl (Or.inl rfl)) pgs_nil)))
      (pss_one (ps_if (pt_cmpR op_ne (pv 2) pe_int (nomark _)) (pss_one (ps_ret (pv 1))) pss_nil)))
    (pss_one (ps_ret (pe_callB call_len_seq (by rfl) B.len_ (by decide +kernel) (pa_cons (pv 0) pa_nil))))), ?_⟩
    obtain ⟨a, xs, rfl, ha, q⟩ := h
    refine ⟨_, rfl, a, _, rfl, SqL.of ha, for_it (walk_enum (K := K) (a := a) (xs := xs.map V.int)) (fun i σ H' => ∃ v1 v2 : Option V, σ = [some (.ref a), v1, v2] ∧ Same H H' ∧ ∀ j, j < i → vl xs j = 0) ⟨none, none, rfl, (fun _ _ h => h), fun j hj => by omega⟩ (fun i σ H' _ hh => by obtain ⟨_, _, _, s, _⟩ := hh; exact SqL.of (s _ _ ha)) ?_ ?_⟩
    · rintro i x σ H0 H1 hi ⟨v1, v2, rfl, s0, z⟩ ⟨T0, u1, u2, rfl, hT0, rfl, e1, e2⟩
      cases e1
      obtain ⟨k, hk, rfl⟩ := map_int e2
      have ek := vl_get hk
      have sT : Same H (upd H0 T0 (.tup [.int (i : Int), .int k])) := s0.trans (AL.Same.new hT0)
      refine ⟨T0, _, rfl, SqT.of upd_same, rfl, _, _, rfl, _, _, rfl, rfl, ?_⟩
      refine ⟨_, rfl, rfl, _, rfl, ?_⟩
      by_cases k0 : k = 0
      · rw [show (!decide (V.int k = V.int 0)) = false by rw [k0, decide_eq_true rfl]; rfl]
        refine iteF ?_
        refine ⟨_, _, rfl, sT, fun j hj => ?_⟩
        by_cases e : j = i
        · rw [e, ek, k0]
        · exact z j (by omega)
      · rw [show (!decide (V.int k = V.int 0)) = true by rw [decide_eq_false (fun w => k0 (by injection w))]; rfl]
        refine iteT ?_
        have pe : piv xs = i := piv_is (by rw [ek]; exact k0) z
        have qq := q _ sT
        rw [pe] at qq
        exact ⟨_, rfl, qq⟩
    · rintro σ H1 ⟨v1, v2, rfl, s1, z⟩
      rw [List.length_map] at z
      have az : allZ xs := fun v hv => by
        obtain ⟨j, hj⟩ := List.mem_iff_getElem?.mp hv
        rw [← vl_get hj]
        exact z j (List.getElem?_eq_some_iff.mp hj).1
      refine ⟨_, rfl, a, _, rfl, .inl (SqL.of (s1 _ _ ha)), ?_⟩
      rw [List.length_map, ← piv_zero az]
      exact q _ s1
abbrev stcombined : Stmt := top 3
theorem sccombined : FnScope ["many", "one", "times", "other", "a", "b"] ["many", "one", "times", "other"] (defScope stcombined) := ⟨rfl, rfl, rfl, by decide +kernel, rfl, by decide +kernel, by decide +kernel⟩
theorem okcombined (B : Blt mg)  {fcombined : Addr} {fdcombined : FuncData} (Dcombined : DefAt K mg "combined" stcombined ["many", "one", "times", "other"] fcombined fdcombined) : FnOk P w K mg base CX0 1 fcombined fdcombined ["many", "one", "times", "other"] spCm := by
  refine Dcombined.F.ok sccombined (fun vs H Q E h => ?_) (fun cdv A outer s H vs Q E hr h => ?_)
  · obtain ⟨m, t, a, b, xs, ys, rfl, _⟩ := h; rfl
  · have hu := hu_of hr
    refine ⟨_, (pss_one (ps_ret (pe_lc (own := [("a", 4), ("b", 5)]) (g := (gTup K 2 (gCons (gName 4) (gCons (gName 5) gNil)))) (tt := tYes) rfl sccombined.nd (pi_zip (by rfl) B.zip_ (pa_cons (pv 1) (pa_cons (pv 3) pa_nil))) (blkOk_by (own := [("a", 4), ("b", 5)]) (N := ["many", "one", "times", "other", "a", "b"]) (sc := defScope stcombined) (by decide +kernel)) (fun _ _ _ _ _ => (pg_tup rfl (pgs_cons (pg_name (i := 4) sccombined.nd rfl (Or.inl rfl)) (pgs_cons (pg_name (i := 5) sccombined.nd rfl (Or.inl rfl)) pgs_nil)))) (fun _ _ _ _ _ => pts_nil) (fun _ _ _ _ _ => (pe_op op_add (pe_op op_mulW (pv 0) (pv 4)) (pe_op op_mulW (pv 2) (pv 5))))))), ?_⟩
    obtain ⟨m, t, a, b, xs, ys, rfl, ha, hb, hl, l2, bm, bt, bx, by_, q⟩ := h
    refine ⟨_, rfl, _, rfl, a, b, _, _, rfl, SqL.of ha, SqL.of hb, fun D hD => ?_⟩
    refine lc_it (walk_zip (K := K) (a := a) (b := b) (xs := xs.map V.int) (ys := ys.map V.int) (n := xs.length) (by rw [List.length_map, List.length_map]; omega)) (fun i H' => Same H H' ∧ H' D = some (.lst (((comb m xs t ys).take i).map V.int))) ⟨AL.Same.new hD, upd_same⟩ (fun i H' _ hh => ⟨SqL.of (hh.1 _ _ ha), SqL.of (hh.1 _ _ hb)⟩) ?_ ?_
    · rintro i x0 H0 H1' hi ⟨s0, hd0⟩ ⟨T0, u1, u2, rfl, hT, rfl, e1, e2⟩
      obtain ⟨z1, c1, rfl⟩ := map_int e1
      obtain ⟨z2, c2, rfl⟩ := map_int e2
      have hDT : D ≠ T0 := fun z => by rw [z, hT] at hd0; cases hd0
      have sT : Same H (upd H0 T0 (.tup [.int z1, .int z2])) := s0.trans (AL.Same.new hT)
      refine ⟨T0, _, rfl, SqT.of upd_same, rfl, _, _, rfl, _, _, rfl, rfl, rfl, ?_⟩
      refine ⟨_, rfl, _, rfl, _, _, rfl, rfl, wmul bm (bx _ (List.mem_of_getElem? c1)), _, rfl, _, rfl, _, _, rfl, rfl, wmul bt (by_ _ (List.mem_of_getElem? c2)), _, _, rfl, rfl, _, Eq.trans (upd_ne hDT) hd0, ?_, AL.Same.updn sT hD, ?_⟩
      · rw [List.length_map, List.length_take]
        exact Nat.lt_of_le_of_lt (by omega : _ ≤ 1000) (by decide)
      · have g : (comb m xs t ys)[i]? = some (m * z1 + t * z2) := by unfold comb; rw [List.getElem?_zipWith, c1, c2]
        rw [upd_same, List.take_add_one, g, List.map_append]
        rfl
    · rintro H3 ⟨s3, hd3⟩
      rw [List.take_of_length_le (by rw [comb_len hl]; exact Nat.le_refl _)] at hd3
      exact q D H3 hD s3 hd3
theorem okpivot_ofT (B : Blt mg)  {fpivot_of : Addr} {fdpivot_of : FuncData} (Dpivot_of : DefAt K mg "pivot_of" stpivot_of ["row"] fpivot_of fdpivot_of) : FnOk P w K mg base CX0 1 fpivot_of fdpivot_of ["row"] spPvT := by
  refine Dpivot_of.F.ok scpivot_of (fun vs H Q E h => ?_) (fun cdv A outer s H vs Q E hr h => ?_)
  · obtain ⟨a, xs, rfl, _⟩ := h; rfl
  · have hu := hu_of hr
    refine ⟨_, (pss_cons (ps_for PassesOwn.never rfl (pi_or (pi_enum (by rfl) B.enumerate_ (pa_cons (pv 0) pa_nil)) (pi_enumT (by rfl) B.enumerate_ (pa_cons (pv 0) pa_nil))) (pg_tup rfl (pgs_cons (pg_name (i := 1) scpivot_of.nd rfl (Or.inl rfl)) (pgs_cons (pg_name (i := 2) scpivot_of.nd rfl (Or.inl rfl)) pgs_nil)))
      (pss_one (ps_if (pt_cmpR op_ne (pv 2) pe_int (nomark _)) (pss_one (ps_ret (pv 1))) pss_nil)))
    (pss_one (ps_ret (pe_callB call_len_seq (by rfl) B.len_ (by decide +kernel) (pa_cons (pv 0) pa_nil))))), ?_⟩
    obtain ⟨a, xs, rfl, ha, q⟩ := h
    rcases ha with ha | ha
    · skip
      refine .inl ⟨_, rfl, a, _, rfl, SqL.of ha, for_it (walk_enum (K := K) (a := a) (xs := xs.map V.int)) (fun i σ H' => ∃ v1 v2 : Option V, σ = [some (.ref a), v1, v2] ∧ Same H H' ∧ ∀ j, j < i → vl xs j = 0) ⟨none, none, rfl, (fun _ _ h => h), fun j hj => by omega⟩ (fun i σ H' _ hh => by obtain ⟨_, _, _, s, _⟩ := hh; exact SqL.of (s _ _ ha)) ?_ ?_⟩
      · rintro i x σ H0 H1 hi ⟨v1, v2, rfl, s0, z⟩ ⟨T0, u1, u2, rfl, hT0, rfl, e1, e2⟩
        cases e1
        obtain ⟨k, hk, rfl⟩ := map_int e2
        have ek := vl_get hk
        have sT : Same H (upd H0 T0 (.tup [.int (i : Int), .int k])) := s0.trans (AL.Same.new hT0)
        refine ⟨T0, _, rfl, SqT.of upd_same, rfl, _, _, rfl, _, _, rfl, rfl, ?_⟩
        refine ⟨_, rfl, rfl, _, rfl, ?_⟩
        by_cases k0 : k = 0
        · rw [show (!decide (V.int k = V.int 0)) = false by rw [k0, decide_eq_true rfl]; rfl]
          refine iteF ?_
          refine ⟨_, _, rfl, sT, fun j hj => ?_⟩
          by_cases e : j = i
          · rw [e, ek, k0]
          · exact z j (by omega)
        · rw [show (!decide (V.int k = V.int 0)) = true by rw [decide_eq_false (fun w => k0 (by injection w))]; rfl]
          refine iteT ?_
          have pe : piv xs = i := piv_is (by rw [ek]; exact k0) z
          have qq := q _ sT
          rw [pe] at qq
          exact ⟨_, rfl, qq⟩
      · rintro σ H1 ⟨v1, v2, rfl, s1, z⟩
        rw [List.length_map] at z
        have az : allZ xs := fun v hv => by
          obtain ⟨j, hj⟩ := List.mem_iff_getElem?.mp hv
          rw [← vl_get hj]
          exact z j (List.getElem?_eq_some_iff.mp hj).1
        refine ⟨_, rfl, a, _, rfl, .inl (SqL.of (s1 _ _ ha)), ?_⟩
        rw [List.length_map, ← piv_zero az]
        exact q _ s1
    · skip
      refine .inr ⟨_, rfl, a, _, rfl, SqT.of ha, for_it (walk_enumT (K := K) (a := a) (xs := xs.map V.int)) (fun i σ H' => ∃ v1 v2 : Option V, σ = [some (.ref a), v1, v2] ∧ Same H H' ∧ ∀ j, j < i → vl xs j = 0) ⟨none, none, rfl, (fun _ _ h => h), fun j hj => by omega⟩ (fun i σ H' _ hh => by obtain ⟨_, _, _, s, _⟩ := hh; exact SqT.of (s _ _ ha)) ?_ ?_⟩
      · rintro i x σ H0 H1 hi ⟨v1, v2, rfl, s0, z⟩ ⟨T0, u1, u2, rfl, hT0, rfl, e1, e2⟩
        cases e1
        obtain ⟨k, hk, rfl⟩ := map_int e2
        have ek := vl_get hk
        have sT : Same H (upd H0 T0 (.tup [.int (i : Int), .int k])) := s0.trans (AL.Same.new hT0)
        refine ⟨T0, _, rfl, SqT.of upd_same, rfl, _, _, rfl, _, _, rfl, rfl, ?_⟩
        refine ⟨_, rfl, rfl, _, rfl, ?_⟩
        by_cases k0 : k = 0
        · rw [show (!decide (V.int k = V.int 0)) = false by rw [k0, decide_eq_true rfl]; rfl]
          refine iteF ?_
          refine ⟨_, _, rfl, sT, fun j hj => ?_⟩
          by_cases e : j = i
          · rw [e, ek, k0]
          · exact z j (by omega)
        · rw [show (!decide (V.int k = V.int 0)) = true by rw [decide_eq_false (fun w => k0 (by injection w))]; rfl]
          refine iteT ?_
          have pe : piv xs = i := piv_is (by rw [ek]; exact k0) z
          have qq := q _ sT
          rw [pe] at qq
          exact ⟨_, rfl, qq⟩
      · rintro σ H1 ⟨v1, v2, rfl, s1, z⟩
        rw [List.length_map] at z
        have az : allZ xs := fun v hv => by
          obtain ⟨j, hj⟩ := List.mem_iff_getElem?.mp hv
          rw [← vl_get hj]
          exact z j (List.getElem?_eq_some_iff.mp hj).1
        refine ⟨_, rfl, a, _, rfl, .inr (SqT.of (s1 _ _ ha)), ?_⟩
        rw [List.length_map, ← piv_zero az]
        exact q _ s1
theorem okcombinedT (B : Blt mg)  {fcombined : Addr} {fdcombined : FuncData} (Dcombined : DefAt K mg "combined" stcombined ["many", "one", "times", "other"] fcombined fdcombined) : FnOk P w K mg base CX0 1 fcombined fdcombined ["many", "one", "times", "other"] spCmT := by
  refine Dcombined.F.ok sccombined (fun vs H Q E h => ?_) (fun cdv A outer s H vs Q E hr h => ?_)
  · obtain ⟨m, t, a, b, xs, ys, rfl, _⟩ := h; rfl
  · have hu := hu_of hr
    refine ⟨_, (pss_one (ps_ret (pe_lc (own := [("a", 4), ("b", 5)]) (g := (gTup K 2 (gCons (gName 4) (gCons (gName 5) gNil)))) (tt := tYes) rfl sccombined.nd (pi_zipB (by rfl) B.zip_ (pa_cons (pv 1) (pa_cons (pv 3) pa_nil))) (blkOk_by (own := [("a", 4), ("b", 5)]) (N := ["many", "one", "times", "other", "a", "b"]) (sc := defScope stcombined) (by decide +kernel)) (fun _ _ _ _ _ => (pg_tup rfl (pgs_cons (pg_name (i := 4) sccombined.nd rfl (Or.inl rfl)) (pgs_cons (pg_name (i := 5) sccombined.nd rfl (Or.inl rfl)) pgs_nil)))) (fun _ _ _ _ _ => pts_nil) (fun _ _ _ _ _ => (pe_op op_add (pe_op op_mulW (pv 0) (pv 4)) (pe_op op_mulW (pv 2) (pv 5))))))), ?_⟩
    obtain ⟨m, t, a, b, xs, ys, rfl, ha, hb, hl, l2, bm, bt, bx, by_, q⟩ := h
    obtain ⟨ka, sa⟩ := sqb_all (K := K) ha
    refine ⟨_, rfl, _, rfl, a, b, ka, true, _, _, rfl, sa _ (fun _ _ h => h), SqL.of hb, fun D hD => ?_⟩
    refine lc_it (walk_zipB (K := K) (a := a) (b := b) (k := ka) (l := true) (xs := xs.map V.int) (ys := ys.map V.int) (n := xs.length) (by rw [List.length_map, List.length_map]; omega)) (fun i H' => Same H H' ∧ H' D = some (.lst (((comb m xs t ys).take i).map V.int))) ⟨AL.Same.new hD, upd_same⟩ (fun i H' _ hh => ⟨sa _ hh.1, SqL.of (hh.1 _ _ hb)⟩) ?_ ?_
    · rintro i x0 H0 H1' hi ⟨s0, hd0⟩ ⟨T0, u1, u2, rfl, hT, rfl, e1, e2⟩
      obtain ⟨z1, c1, rfl⟩ := map_int e1
      obtain ⟨z2, c2, rfl⟩ := map_int e2
      have hDT : D ≠ T0 := fun z => by rw [z, hT] at hd0; cases hd0
      have sT : Same H (upd H0 T0 (.tup [.int z1, .int z2])) := s0.trans (AL.Same.new hT)
      refine ⟨T0, _, rfl, SqT.of upd_same, rfl, _, _, rfl, _, _, rfl, rfl, rfl, ?_⟩
      refine ⟨_, rfl, _, rfl, _, _, rfl, rfl, wmul bm (bx _ (List.mem_of_getElem? c1)), _, rfl, _, rfl, _, _, rfl, rfl, wmul bt (by_ _ (List.mem_of_getElem? c2)), _, _, rfl, rfl, _, Eq.trans (upd_ne hDT) hd0, ?_, AL.Same.updn sT hD, ?_⟩
      · rw [List.length_map, List.length_take]
        exact Nat.lt_of_le_of_lt (by omega : _ ≤ 1000) (by decide)
      · have g : (comb m xs t ys)[i]? = some (m * z1 + t * z2) := by unfold comb; rw [List.getElem?_zipWith, c1, c2]
        rw [upd_same, List.take_add_one, g, List.map_append]
        rfl
    · rintro H3 ⟨s3, hd3⟩
      rw [List.take_of_length_le (by rw [comb_len hl]; exact Nat.le_refl _)] at hd3
      exact q D H3 hD s3 hd3
end
end AL
set_option Elab.async false
set_option maxRecDepth 100000
set_option exponentiation.threshold 70000
set_option maxHeartbeats 1000000
namespace AL
open PySem PySem.Spec PyProof.Rows L2 RZ
section
variable {P : Program} {w : World} {K : PySem.W.Frag} {mg : Str → Option Value} {base : Heap}

def unitR (n j : Nat) : Rw := (List.range n).map fun k => if k = j then 1 else 0
def idM (n : Nat) : List Rw := (List.range n).map (unitR n)
def trM (n : Nat) (rows : List Rw) : List Rw := (List.range n).map fun j => rows.map fun r => vl r j
/-- identity(many) -/
def spId : Sp := fun vs H Q _ => ∃ (n : Nat), vs = [.int (n : Int)] ∧ n ≤ 100 ∧ ∀ D H', H D = none → Same H H' → RowsZ H' D (idM n) → Q (.ref D) H'
/-- transposed(rows) -/
def spTr : Sp := fun vs H Q _ => ∃ (w : Addr) (n : Nat) (rows : List Rw), vs = [.ref w] ∧ RowsT H w rows ∧ rows ≠ [] ∧ (∀ r ∈ rows, r.length = n) ∧ n ≤ 100 ∧ rows.length ≤ 100 ∧ ∀ D H', H D = none → Same H H' → RowsZ H' D (trM n rows) → Q (.ref D) H'
/-- rows in a list or a tuple, rows of either kind -/
def RowsA (H : Hp) (w : Addr) (ws : List Rw) : Prop := ∃ as : List Addr, (H w = some (.lst (as.map V.ref)) ∨ H w = some (.tup (as.map V.ref))) ∧ Paired (fun a r => LT H a r) as ws
theorem RowsT.toA {H : Hp} {w : Addr} {ws : List Rw} (h : RowsT H w ws) : RowsA H w ws := by
  obtain ⟨as, h1, h2⟩ := h
  exact ⟨as, .inl h1, h2⟩
/-- transposed(rows) -/
def spTrA : Sp := fun vs H Q _ => ∃ (w : Addr) (n : Nat) (rows : List Rw), vs = [.ref w] ∧ RowsA H w rows ∧ rows ≠ [] ∧ (∀ r ∈ rows, r.length = n) ∧ n ≤ 100 ∧ rows.length ≤ 100 ∧ ∀ D H', H D = none → Same H H' → RowsZ H' D (trM n rows) → Q (.ref D) H'
theorem sq_of0 {K : PySem.W.Frag} {H : Hp} {a : Addr} {us : List V} (h : H a = some (.lst us) ∨ H a = some (.tup us)) : ∃ k, ∀ H', Same H H' → SqB K H' a us k := by
  rcases h with h | h
  · exact ⟨true, fun H' s => SqL.of (s _ _ h)⟩
  · exact ⟨false, fun H' s => SqT.of (s _ _ h)⟩
theorem rIx_seq0 {K : PySem.W.Frag} {H : Hp} {a : Addr} {xs : List V} {i : Int} {v : V} {Q : VK} (h : H a = some (.lst xs) ∨ H a = some (.tup xs)) (g : atI xs i = some v) (q : Q v H) : rIx K (.ref a) (.int i) H Q := by
  rcases h with h | h
  · exact .inl ⟨a, _, _, _, rfl, rfl, SqL.of h, g, q⟩
  · exact .inr (.inl ⟨a, _, _, _, rfl, rfl, SqT.of h, g, q⟩)
theorem atI_of {xs : List V} {j : Nat} (h : j < xs.length) : atI xs ((j : Nat) : Int) = xs[j]? := by
  unfold atI ixN
  rw [if_pos (by omega), if_pos (by omega)]
  show xs[((j : Int)).toNat]? = _
  rw [Int.toNat_natCast]
theorem unitR_len (n j : Nat) : (unitR n j).length = n := by unfold unitR; rw [List.length_map, List.length_range]
theorem trM_len (n : Nat) (rows : List Rw) : (trM n rows).length = n := by unfold trM; rw [List.length_map, List.length_range]
theorem idM_len (n : Nat) : (idM n).length = n := by unfold idM; rw [List.length_map, List.length_range]
theorem rowsZ_snoc {H : Hp} {D : Addr} {as : List Addr} {rs : List Rw} {b : Addr} {r : Rw} (h : H D = some (.lst (as.map V.ref))) (pr : Paired (fun a r => a ≠ D ∧ H a = some (.lst (r.map V.int))) as rs) (bD : b ≠ D) (hb : H b = some (.lst (r.map V.int))) :
    upd H D (.lst (as.map V.ref ++ [.ref b])) D = some (.lst ((as ++ [b]).map V.ref)) ∧ Paired (fun a r => a ≠ D ∧ upd H D (.lst (as.map V.ref ++ [.ref b])) a = some (.lst (r.map V.int))) (as ++ [b]) (rs ++ [r]) :=
  ⟨by rw [upd_same, List.map_append]; rfl, prd_snoc (paired_mono pr fun a r z => ⟨z.1, by rw [upd_ne z.1]; exact z.2⟩) ⟨bD, by rw [upd_ne bD]; exact hb⟩⟩

abbrev stidentity : Stmt := top 8
theorem scidentity : FnScope ["many", "row", "at"] ["many"] (defScope stidentity) := ⟨rfl, rfl, rfl, by decide +kernel, rfl, by decide +kernel, by decide +kernel⟩
theorem okidentity (B : Blt mg)  {fidentity : Addr} {fdidentity : FuncData} (Didentity : DefAt K mg "identity" stidentity ["many"] fidentity fdidentity) : FnOk P w K mg base CX0 1 fidentity fdidentity ["many"] spId := by
  refine Didentity.F.ok scidentity (fun vs H Q E h => ?_) (fun cdv A outer s H vs Q E hr h => ?_)
  · obtain ⟨n, rfl, _⟩ := h; rfl
  · have hu := hu_of hr
    refine ⟨_, (pss_one (ps_ret (pe_lc (own := [("row", 1)]) (g := gName 1) (tt := tYes) rfl scidentity.nd (pi_range1 rfl B.range_ (pa_cons (pv 0) pa_nil)) (blkOk_by (own := [("row", 1)]) (N := ["many", "row", "at"]) (by kernel_rfl)) (fun _ _ _ _ _ => (pg_name (i := 1) scidentity.nd rfl (Or.inr rfl))) (fun _ _ _ _ _ => pts_nil) (fun _ _ _ _ _ => (pe_lc (own := [("at", 2)]) (g := gName 2) (tt := tYes) rfl scidentity.nd (pi_range1 rfl B.range_ (pa_cons (pv 0) pa_nil)) (blkOk_by (own := [("at", 2)]) (N := ["many", "row", "at"]) (by kernel_rfl)) (fun _ _ _ _ _ => (pg_name (i := 2) scidentity.nd rfl (Or.inl rfl))) (fun _ _ _ _ _ => pts_nil) (fun _ _ _ _ _ => (pe_ifExp (pt_cmpR op_eq (pv 2) (pv 1) (nomark _)) pe_int pe_int))))))), ?_⟩
    obtain ⟨n, rfl, hn, q⟩ := h
    refine ⟨_, rfl, _, rfl, by omega, by omega, fun D hD => ?_⟩
    refine lc_range (lo := 0) (n := ((n : Int)).toNat) (fun i H' => Same H H' ∧ ∃ as : List Addr, H' D = some (.lst (as.map V.ref)) ∧ Paired (fun a r => a ≠ D ∧ H' a = some (.lst (r.map V.int))) as ((idM n).take i)) ⟨AL.Same.new hD, [], upd_same, .nil⟩ ?_ ?_
    · rintro i H1 hi ⟨s1, as, hd, pr⟩
      rw [Int.toNat_natCast] at hi
      refine ⟨rfl, ?_⟩
      refine ⟨_, rfl, _, rfl, by omega, by omega, fun D2 hD2 => ?_⟩
      refine lc_range (lo := 0) (n := ((n : Int)).toNat) (fun j H' => Same H1 H' ∧ H' D2 = some (.lst (((unitR n i).take j).map V.int))) ⟨AL.Same.new hD2, upd_same⟩ ?_ ?_
      · rintro j H2 hj ⟨s2, hd2⟩
        rw [Int.toNat_natCast] at hj
        refine ⟨rfl, ?_⟩
        have g : (unitR n i)[j]? = some (if j = i then 1 else 0) := by unfold unitR; rw [List.getElem?_map, List.getElem?_range hj]; rfl
        have put : ∀ v : Int, v = (if j = i then 1 else 0) → ∃ acc, H2 D2 = some (.lst acc) ∧ acc.length < sizeLine ∧ Same H1 (upd H2 D2 (.lst (acc ++ [.int v]))) ∧ upd H2 D2 (.lst (acc ++ [.int v])) D2 = some (.lst (((unitR n i).take (j + 1)).map V.int)) := fun v hv => by
          refine ⟨_, hd2, ?_, AL.Same.updn s2 hD2, ?_⟩
          · rw [List.length_map, List.length_take]; exact Nat.lt_of_le_of_lt (by omega : _ ≤ 1000) (by decide)
          · rw [upd_same, List.take_add_one, g, hv, List.map_append]; rfl
        refine ⟨_, rfl, _, rfl, rfl, _, rfl, ?_⟩
        by_cases e : j = i
        · rw [decide_eq_true (by rw [e])]
          refine iteT ?_
          exact put _ (by rw [if_pos e])
        · rw [decide_eq_false (fun z => e (by injection z with z; omega))]
          refine iteF ?_
          exact put _ (by rw [if_neg e])
      · rintro H2 ⟨s2, hd2⟩
        rw [List.take_of_length_le (by rw [unitR_len, Int.toNat_natCast]; exact Nat.le_refl _)] at hd2
        have bD : D2 ≠ D := fun z => by rw [z, hd] at hD2; cases hD2
        have la := prd_len pr
        rw [List.length_take] at la
        obtain ⟨r1, r2⟩ := rowsZ_snoc (s2 _ _ hd) (paired_mono pr fun _ _ z => ⟨z.1, s2 _ _ z.2⟩) bD hd2
        refine ⟨_, s2 _ _ hd, ?_, AL.Same.updn (s1.trans s2) hD, as ++ [D2], r1, ?_⟩
        · rw [List.length_map]; exact Nat.lt_of_le_of_lt (by omega : _ ≤ 1000) (by decide)
        · have g : (idM n)[i]? = some (unitR n i) := by unfold idM; rw [List.getElem?_map, List.getElem?_range hi]; rfl
          rw [List.take_add_one, g]
          exact r2
    rintro H1 ⟨s1, as, hd, pr⟩
    rw [Int.toNat_natCast, List.take_of_length_le (by rw [idM_len]; exact Nat.le_refl _)] at pr
    exact q D H1 hD s1 ⟨as, hd, paired_mono pr fun _ _ z => z.2⟩
abbrev st_law_turned : Stmt := top 36
theorem sc_law_turned : FnScope ["_law_rows", "_law_k", "_law_row"] ["_law_rows"] (defScope st_law_turned) := ⟨rfl, rfl, rfl, by decide +kernel, rfl, by decide +kernel, by decide +kernel⟩
theorem ok_law_turned (B : Blt mg)  {f_law_turned : Addr} {fd_law_turned : FuncData} (D_law_turned : DefAt K mg "_law_turned" st_law_turned ["_law_rows"] f_law_turned fd_law_turned) : FnOk P w K mg base CX0 1 f_law_turned fd_law_turned ["_law_rows"] spTr := by
  refine D_law_turned.F.ok sc_law_turned (fun vs H Q E h => ?_) (fun cdv A outer s H vs Q E hr h => ?_)
  · obtain ⟨w, n, rows, rfl, _⟩ := h; rfl
  · have hu := hu_of hr
    refine ⟨_, (pss_one (ps_ret (pe_lc (own := [("_law_k", 1)]) (g := gName 1) (tt := tYes) rfl sc_law_turned.nd (pi_range1 rfl B.range_ (pa_cons (pe_callB (call_lenK : CallR _ (.builtin "len") (rLenK K)) (by rfl) B.len_ (by decide +kernel) (pa_cons (pe_ix (ix_list : IxR _ (rIxL K)) (pv 0) pe_int (fun _ _ => rfl)) pa_nil)) pa_nil)) (blkOk_by (own := [("_law_k", 1)]) (N := ["_law_rows", "_law_k", "_law_row"]) (by kernel_rfl)) (fun _ _ _ _ _ => (pg_name (i := 1) sc_law_turned.nd rfl (Or.inr rfl))) (fun _ _ _ _ _ => pts_nil) (fun _ _ _ _ _ => (pe_lc (own := [("_law_row", 2)]) (g := gName 2) (tt := tYes) rfl sc_law_turned.nd (pi_list (pv 0) : PI _ _ _ (iList K (tVar 0))) (blkOk_by (own := [("_law_row", 2)]) (N := ["_law_rows", "_law_k", "_law_row"]) (by kernel_rfl)) (fun _ _ _ _ _ => (pg_name (i := 2) sc_law_turned.nd rfl (Or.inl rfl))) (fun _ _ _ _ _ => pts_nil) (fun _ _ _ _ _ => (pe_ix (ix_seq : IxR _ (rIx K)) (pv 2) (pv 1) (fun _ _ => rfl)))))))), ?_⟩
    obtain ⟨w, n, rows, rfl, hw, ne, hl, hn, hm, q⟩ := h
    obtain ⟨as, W1, W2⟩ := hw
    have la := prd_len W2
    obtain ⟨r0, rows', rfl⟩ : ∃ r0 rows', rows = r0 :: rows' := by
      cases rows with
      | nil => exact absurd rfl ne
      | cons r0 rows' => exact ⟨r0, rows', rfl⟩
    obtain ⟨a0, as', rfl⟩ : ∃ a0 as', as = a0 :: as' := by
      cases as with
      | nil => simp at la
      | cons a0 as' => exact ⟨a0, as', rfl⟩
    have h0 : LT H a0 r0 := by cases W2 with | cons z _ => exact z
    have l0 := hl r0 (List.mem_cons_self ..)
    generalize hRows : r0 :: rows' = rows at *
    refine ⟨_, rfl, w, _, _, _, rfl, rfl, SqL.of W1, atI_of (by rw [List.length_map, List.length_cons]; omega : 0 < _), a0, _, rfl, h0.seq, _, rfl, by omega, by rw [List.length_map]; omega, fun D hD => ?_⟩
    refine lc_range (lo := 0) (n := (((r0.map V.int).length : Int)).toNat) (fun i H' => Same H H' ∧ ∃ bs : List Addr, H' D = some (.lst (bs.map V.ref)) ∧ Paired (fun a r => a ≠ D ∧ H' a = some (.lst (r.map V.int))) bs ((trM n rows).take i)) ⟨AL.Same.new hD, [], upd_same, .nil⟩ ?_ ?_
    · rintro i H1 hi ⟨s1, bs, hd, pr⟩
      rw [Int.toNat_natCast, List.length_map, l0] at hi
      refine ⟨rfl, ?_⟩
      refine ⟨_, rfl, w, rfl, ⟨_, SqL.of (s1 _ _ W1)⟩, fun D2 hD2 => ?_⟩
      refine lc_list (K := K) (a := w) (xs := (a0 :: as').map V.ref) (fun j H' => Same H1 H' ∧ H' D2 = some (.lst (((rows.map fun r => vl r i).take j).map V.int))) ⟨AL.Same.new hD2, upd_same⟩ (fun i H' _ hh => SqL.of (hh.1 _ _ (s1 _ _ W1))) ?_ ?_
      · rintro j x H2 hx ⟨s2, hd2⟩
        obtain ⟨a, ha, rfl⟩ := map_ref hx
        obtain ⟨r, hr, hra⟩ := prd_get W2 ha
        have lr := hl r (List.mem_of_getElem? hr)
        have jl := (List.getElem?_eq_some_iff.mp hr).1
        refine ⟨rfl, ?_⟩
        have z0 : (0 : Int) + (i : Int) = ((i : Nat) : Int) := Int.zero_add _
        have gi : atI (r.map V.int) ((0 : Int) + (i : Int)) = some (.int (vl r i)) := by rw [z0, atI_of (by rw [List.length_map]; omega), List.getElem?_map, vl_at (by omega : i < r.length)]; rfl
        have fin : ∃ acc, H2 D2 = some (.lst acc) ∧ acc.length < sizeLine ∧ Same H1 (upd H2 D2 (.lst (acc ++ [.int (vl r i)]))) ∧ upd H2 D2 (.lst (acc ++ [.int (vl r i)])) D2 = some (.lst (((rows.map fun r => vl r i).take (j + 1)).map V.int)) := by
          refine ⟨_, hd2, ?_, AL.Same.updn s2 hD2, ?_⟩
          · rw [List.length_map, List.length_take, List.length_map]; exact Nat.lt_of_le_of_lt (by omega : _ ≤ 1000) (by decide)
          · have g : (rows.map fun r => vl r i)[j]? = some (vl r i) := by rw [List.getElem?_map, hr]; rfl
            rw [upd_same, List.take_add_one, g, List.map_append]; rfl
        refine ⟨_, rfl, _, rfl, ?_⟩
        rcases (hra.same (s1.trans s2)).seq (K := K) with hq | hq
        · exact .inl ⟨a, _, _, _, rfl, rfl, hq, gi, fin⟩
        · exact .inr (.inl ⟨a, _, _, _, rfl, rfl, hq, gi, fin⟩)
      · rintro H2 ⟨s2, hd2⟩
        rw [List.take_of_length_le (by rw [List.length_map, List.length_map]; omega)] at hd2
        have bD : D2 ≠ D := fun z => by rw [z, hd] at hD2; cases hD2
        have lb := prd_len pr
        rw [List.length_take, trM_len] at lb
        obtain ⟨r1, r2⟩ := rowsZ_snoc (s2 _ _ hd) (paired_mono pr fun _ _ z => ⟨z.1, s2 _ _ z.2⟩) bD hd2
        refine ⟨_, s2 _ _ hd, ?_, AL.Same.updn (s1.trans s2) hD, bs ++ [D2], r1, ?_⟩
        · rw [List.length_map]; exact Nat.lt_of_le_of_lt (by omega : _ ≤ 1000) (by decide)
        · have g : (trM n rows)[i]? = some (rows.map fun r => vl r i) := by unfold trM; rw [List.getElem?_map, List.getElem?_range hi]; rfl
          rw [List.take_add_one, g]
          exact r2
    rintro H1 ⟨s1, bs, hd, pr⟩
    rw [List.take_of_length_le (by rw [trM_len, Int.toNat_natCast, List.length_map, l0]; exact Nat.le_refl _)] at pr
    exact q D H1 hD s1 ⟨bs, hd, paired_mono pr fun _ _ z => z.2⟩
end
end AL
set_option Elab.async false
set_option linter.all false
set_option maxRecDepth 100000
/-! sorted(list(d)): keys that are tuples of ints, of any length. -/
namespace AL
open PySem PySem.W PySem.Spec PyProof.Rows L2
theorem one_perm {α : Type} : ∀ {vs : List α} {ps : List (α × α)}, vs.length ≤ 1 → ps.Perm (vs.zip vs) → ps.map Prod.snd = vs
  | [], ps, _, h => by
    have e : ps = [] := List.perm_nil.mp h
    rw [e]
    rfl
  | [v], ps, _, h => by
    have e : ps = [(v, v)] := List.perm_singleton.mp h
    rw [e]
    rfl
  | _ :: _ :: _, _, h, _ => by simp at h
section
variable {prog : Program} {w : World} {A : Around} {E : Value → Shared → Prop} {s : Shared}
/-- sorted(xs) of a list of one thing, or of none -/
theorem sorted_one {l : Addr} {vs : List Value} {Q : Value → Shared → Prop} (hl : s.heap.IsList l vs.toArray) (few : vs.length ≤ 1)
    (h : ∀ out : Array Value, out.toList = vs → Q (.ref (s.heap.objs.size + 1)) { s with heap := sortedAll s.heap vs out }) :
    wpAny (model prog w) A (call (.builtin "sorted") [.ref l]) Q E s := by
  refine Calls.call_function_entry kind_sorted plain_sorted entry_sorted (args_sorted1 _) ?_
  unfold Builtin.«sorted»
  refine wpAny_bind (m := checkCount "sorted" 1 1 _) (wpAny_pure ?_)
  refine wpAny_bind (collect_list hl ?_ (by rw [sizeLine_eq]; omega))
  refine wpAny_bind (wpAny_newList ?_ (by rw [sizeLine_eq]; omega))
  have sz : ((s.heap.push (seqObj "list" #[] 0)).update s.heap.objs.size (Obj.mapSeq (· ++ vs.toArray))).objs.size = s.heap.objs.size + 1 := by
    rw [Heap.size_update, size_push']
  have top : (((s.heap.push (seqObj "list" #[] 0)).update s.heap.objs.size (Obj.mapSeq (· ++ vs.toArray))).push (seqObj "list" vs.toArray 0)).get? (s.heap.objs.size + 1) = some (seqObj "list" vs.toArray 0) := by
    rw [← sz]; exact Heap.get?_push_size _ rfl
  show wpAny _ _ _ _ _ { s with heap := ((s.heap.push (seqObj "list" #[] 0)).update s.heap.objs.size (Obj.mapSeq (· ++ vs.toArray))).push (seqObj "list" vs.toArray 0) }
  rw [sz]
  refine wpAny_bind (wpAny_holding (wpAny_call_entry slot_list_sort ⟨_, top, rfl⟩ entry_list_sort (SK.plain_sort (r := fun _ => 0) top (by omega) (fun z => absurd few (by omega)) fun ps out o1 o2 _ => ⟨.none, rfl, ?_⟩) (args_list_sort _)))
  refine wpAny_pure ⟨_, rfl, h out ?_⟩
  rw [o1]
  exact one_perm few o2
end
section
variable {X : Cx}
/-- sorted(l), l a list of keys, all unlike -/
def rSortK : List V → Hp → VK → Prop := fun vs H Q => ∃ (a : Addr) (bs : List Addr) (es : List Ex) (n : Nat), vs = [.ref a] ∧ H a = some (.lst (bs.map V.ref)) ∧ Paired (KeyAt H) bs es ∧ bs.length < 64 ∧ es.Nodup ∧ (∀ e ∈ es, e.length = n ∧ ∀ k ∈ e, k ≤ 80) ∧
  ∀ (p : Addr) (cs : List Addr) (fs : List Ex), H p = none → Paired (KeyAt H) cs fs → fs.Perm es → fs.Pairwise (fun e f => cd e < cd f) → Q (.ref p) (upd H p (.lst (cs.map V.ref)))
theorem vals_addr {bs : List Addr} {ys : List V} (h : ys.Perm (bs.map V.ref)) : ∃ cs : List Addr, ys = cs.map V.ref ∧ cs.Perm bs := by
  obtain ⟨cs, c1, c2⟩ := perm_lift V.ref h bs rfl
  exact ⟨cs, c2.symm, c1⟩
theorem keys_perm {H : Hp} {bs cs : List Addr} {es : List Ex} (h : Paired (KeyAt H) bs es) (pm : cs.Perm bs) : ∃ fs : List Ex, Paired (KeyAt H) cs fs ∧ fs.Perm es := by
  induction pm generalizing es with
  | nil => cases h; exact ⟨[], .nil, .nil⟩
  | cons x p ih =>
    cases h with
    | cons hd tl => obtain ⟨fs, f1, f2⟩ := ih tl; exact ⟨_ :: fs, .cons hd f1, f2.cons _⟩
  | swap x y l =>
    cases h with
    | cons hd tl => cases tl with
      | cons hd2 tl2 => exact ⟨_, .cons hd2 (.cons hd tl2), List.Perm.swap _ _ _⟩
  | trans p1 p2 i1 i2 =>
    obtain ⟨fs, f1, f2⟩ := i2 h
    obtain ⟨gs, g1, g2⟩ := i1 f1
    exact ⟨gs, g1, g2.trans f2⟩
theorem asc_keys {K : PySem.W.Frag} {H : Hp} {n : Nat} {cs : List Addr} {fs : List Ex} (h : Paired (KeyAt H) cs fs) (asc : cs.Pairwise fun x y => ∀ n m, L2.TupI K H (.ref x) n → L2.TupI K H (.ref y) m → TS.code 128 n ≤ TS.code 128 m) (nd : fs.Nodup) (bnd : ∀ e ∈ fs, (ki e).length = n ∧ TS.Bd 128 (ki e)) : fs.Pairwise fun e f => cd e < cd f := by
  induction h with
  | nil => exact .nil
  | @cons c f cs fs hd tl ih =>
    obtain ⟨a1, a2⟩ := List.pairwise_cons.mp asc
    rw [List.nodup_cons] at nd
    refine List.pairwise_cons.mpr ⟨fun g hg => ?_, ih a2 nd.2 fun e he => bnd e (List.mem_cons_of_mem _ he)⟩
    obtain ⟨i, hi⟩ := List.mem_iff_getElem?.mp hg
    obtain ⟨c2, e1, e2⟩ := DX.pget tl hi
    have w := a1 c2 (List.mem_of_getElem? e1) (ki f) (ki g) ⟨c, rfl, SqT.of hd⟩ ⟨c2, rfl, SqT.of e2⟩
    have b1 := bnd f (List.mem_cons_self ..)
    have b2 := bnd g (List.mem_cons_of_mem _ hg)
    have ne : cd f ≠ cd g := fun z => nd.1 (by rw [ki_inj (code_inj (b1.1.trans b2.1.symm) b1.2 b2.2 z)]; exact hg)
    have w' : cd f ≤ cd g := w
    omega
theorem cr_sortK : CallR X (.builtin "sorted") rSortK := by
  intro pins s σ H vs us Q I r h
  obtain ⟨a, bs, es, n, rfl, ha, hk, few, nd, hb, q⟩ := h
  have le : bs.length = es.length := prd_len hk
  have bnd : ∀ e ∈ es, (ki e).length = n ∧ TS.Bd 128 (ki e) := fun e he => ⟨by rw [len_ki, (hb e he).1], bd_ki (hb e he).2⟩
  by_cases hn : 1 ≤ n
  · refine cr_sortT (X := X) (d := n) (B := 128) hn pins s σ H _ us Q I r ⟨a, bs.map V.ref, rfl, SqL.of ha, by rw [List.length_map]; exact few, fun x hx => ?_, fun ys p pm asc hp => ?_⟩
    · obtain ⟨b, hb2, rfl⟩ := List.mem_map.mp hx
      obtain ⟨i, hi⟩ := List.mem_iff_getElem?.mp hb2
      obtain ⟨e, e1, e2⟩ := prd_get hk hi
      obtain ⟨b1, b2⟩ := bnd e (List.mem_of_getElem? e1)
      exact ⟨ki e, ⟨b, rfl, SqT.of e2⟩, b1, b2⟩
    · obtain ⟨cs, rfl, c2⟩ := vals_addr pm
      obtain ⟨fs, f1, f2⟩ := keys_perm hk c2
      have ndf : fs.Nodup := (List.Perm.nodup_iff f2).mpr nd
      refine q p cs fs hp f1 f2 ?_
      rw [List.pairwise_map] at asc
      exact asc_keys f1 asc ndf fun g hg => bnd g (f2.mem_iff.mp hg)
  · have n0 : n = 0 := by omega
    have l1 : es.length ≤ 1 := by
      cases es with
      | nil => simp
      | cons e r =>
        cases r with
        | nil => simp
        | cons f r =>
          have e0 := List.eq_nil_of_length_eq_zero ((hb e (List.mem_cons_self ..)).1.trans n0)
          have f0 := List.eq_nil_of_length_eq_zero ((hb f (List.mem_cons_of_mem _ (List.mem_cons_self ..))).1.trans n0)
          rw [List.nodup_cons] at nd
          exact absurd (by rw [e0, f0]; exact List.mem_cons_self ..) nd.1
    obtain ⟨its, rv, pl, hz⟩ := I.list (SqL.of ha)
    cases refs_at rv
    rw [Vals.ref1 r]
    refine sorted_one pl.isList (by rw [List.length_map]; omega) fun out ho => ?_
    obtain ⟨ep, he⟩ := sortedAll_at s.heap (bs.map Value.ref) out
    have pw : es.Pairwise fun e f => cd e < cd f := by
      cases es with
      | nil => exact .nil
      | cons e r =>
        cases r with
        | nil => exact List.pairwise_cons.mpr ⟨fun _ z => (nomatch z), .nil⟩
        | cons f r => simp at l1
    refine ⟨.ref _, upd H (s.heap.objs.size + 1) (.lst (bs.map V.ref)), I.laid (t' := s.toks) (fun _ _ => sortedAll_old) (Nat.le_succ _) ⟨hz, out.toList, ep, by rw [ho]; exact vals_refs bs, by rw [Array.toArray_toList]; exact he⟩, rfl, q _ bs es (I.hok.fresh (Nat.le_succ _)) hk (List.Perm.refl _) pw⟩
end
end AL
set_option Elab.async false
set_option maxRecDepth 100000
set_option exponentiation.threshold 70000
set_option maxHeartbeats 1000000
namespace AL
open PySem PySem.Spec PyProof.Rows L2 RZ
section
variable {P : Program} {w : World} {K : PySem.W.Frag} {mg : Str → Option Value} {base : Heap}
theorem prd_perm {α β : Type} {R : α → β → Prop} {as cs : List α} {bs : List β} (h : Paired R as bs) (pm : cs.Perm as) : ∃ ds : List β, Paired R cs ds ∧ ds.Perm bs := by
  induction pm generalizing bs with
  | nil => cases h; exact ⟨[], .nil, .nil⟩
  | cons x p ih =>
    cases h with
    | cons hd tl => obtain ⟨fs, f1, f2⟩ := ih tl; exact ⟨_ :: fs, .cons hd f1, f2.cons _⟩
  | swap x y l =>
    cases h with
    | cons hd tl => cases tl with
      | cons hd2 tl2 => exact ⟨_, .cons hd2 (.cons hd tl2), List.Perm.swap _ _ _⟩
  | trans p1 p2 i1 i2 =>
    obtain ⟨fs, f1, f2⟩ := i2 h
    obtain ⟨gs, g1, g2⟩ := i1 f1
    exact ⟨gs, g1, g2.trans f2⟩

theorem Bb.bd {b : Nat} {x : Rw} (h : Bb b x) : Bd b x := Bd.of h
theorem Bb.at {b : Nat} {x : Rw} (h : Bb b x) (le : b ≤ 13000) (j : Nat) : (vl x j).natAbs < 2 ^ 13000 := Nat.lt_of_lt_of_le (h j) (Nat.pow_le_pow_right (by decide) le)
theorem lt135 {v : Int} (h : v.natAbs < 2 ^ 13000) : v.natAbs < 2 ^ 13500 := Nat.lt_trans h (Nat.pow_lt_pow_right (by decide) (by decide))
/-- primitive(row) -/
def spPr : Sp := fun vs H Q _ => ∃ (a : Addr) (xs : Rw), vs = [.ref a] ∧ LT H a xs ∧ ¬ allZ xs ∧ Bb 13000 xs ∧ xs.length ≤ 200 ∧ ∀ D H', H D = none → Same H H' → LI H' D (prim xs) → Q (.ref D) H'
/-- without_item(row, at, held) -/
def spWo : Sp := fun vs H Q _ => ∃ (a h : Addr) (p : Nat) (xs hs : Rw), vs = [.ref a, .int (p : Int), .ref h] ∧ LT H a xs ∧ LI H h hs ∧ xs.length = hs.length ∧ p < hs.length ∧ 0 < vl hs p ∧ Bb 13000 xs ∧ Bb 13000 hs ∧ xs.length ≤ 200 ∧
  ∀ D H', Same H H' → LT H' D (wo xs p hs) → Q (.ref D) H'
/-- cleared(rows, row) -/
def spCl : Sp := fun vs H Q _ => ∃ (w a : Addr) (F : List Rw) (xs : Rw) (W b m : Nat), vs = [.ref w, .ref a] ∧ RowsZ H w F ∧ LT H a xs ∧ Rref W F ∧ xs.length = W ∧ W ≤ 200 ∧ Bb b xs ∧ (∀ f ∈ F, Bb m f) ∧ m ≤ 13000 ∧ b + F.length * (m + 1) ≤ 13000 ∧
  ∀ D H', Same H H' → LT H' D (clr F xs) → Q (.ref D) H'
theorem clr_take {F : List Rw} {i : Nat} {f : Rw} (h : F[i]? = some f) (x : Rw) : clr (F.take (i + 1)) x = wo (clr (F.take i) x) (piv f) f := by
  unfold clr
  rw [List.take_add_one, h, List.foldl_append]; rfl
theorem rref_take {W : Nat} {F : List Rw} (R : Rref W F) (i : Nat) : Rref W (F.take i) := ⟨fun f hf => R.len f (List.mem_of_mem_take hf), fun f hf => R.pos f (List.mem_of_mem_take hf), R.off.sublist (List.take_sublist i F)⟩
/-- span_of(rows) -/
def spSpn : Sp := fun vs H Q _ => ∃ (w : Addr) (rows : List Rw) (W b M : Nat), vs = [.ref w] ∧ RowsA H w rows ∧ (∀ r ∈ rows, r.length = W) ∧ W ≤ 60 ∧ rows.length ≤ 20 ∧ (∀ r ∈ rows, Bb b r) ∧ (∀ i, ∀ f ∈ spn (rows.take i), Bb M f) ∧ M ≤ 13000 ∧ b + rows.length * (M + 1) ≤ 13000 ∧
  ∀ D H' G, H D = none → Same H H' → RowsZ H' D G → G.Perm (spn rows) → (G.Pairwise fun f h => piv f < piv h) → Q (.ref D) H'
theorem piv_lt {W : Nat} {F : List Rw} (R : Rref W F) {f : Rw} (h : f ∈ F) : piv f < W := by
  have := R.pos f h
  rw [← R.len f h]
  exact (piv_spec (not_allZ (j := piv f) (by omega))).1
theorem spn_take {rows : List Rw} {i : Nat} {r : Rw} (h : rows[i]? = some r) : spn (rows.take (i + 1)) = stepS (spn (rows.take i)) r := by
  unfold spn
  rw [List.take_add_one, h, List.foldl_append]; rfl
theorem rref_nodup {W : Nat} {F : List Rw} (R : Rref W F) {i k : Nat} {f g : Rw} (hi : F[i]? = some f) (hk : F[k]? = some g) (ne : k ≠ i) : piv f ≠ piv g := fun e => by
  have z := rref_off R hi hk ne
  have p := R.pos g (List.mem_of_getElem? hk)
  rw [e] at z; omega

theorem asc_piv {K : PySem.W.Frag} {H : Hp} {us : List Addr} {ks : List Nat} {F : List Rw} {D0 : Addr} (h : Paired (fun t (k : Nat) => t ≠ D0 ∧ H t = some (.tup [.int (piv (F.getD k []) : Int), .int (k : Int)])) us ks) (asc : us.Pairwise fun x y => ∀ n m, L2.TupI K H (.ref x) n → L2.TupI K H (.ref y) m → TS.code 64 n ≤ TS.code 64 m) (nd : ks.Nodup) (pl : ∀ k ∈ ks, piv (F.getD k []) < 60 ∧ k < 60) (ne : ∀ i ∈ ks, ∀ k ∈ ks, i ≠ k → piv (F.getD i []) ≠ piv (F.getD k [])) : ks.Pairwise fun i k => piv (F.getD i []) < piv (F.getD k []) := by
  induction h with
  | nil => exact .nil
  | @cons u k us ks hu tl ih =>
    obtain ⟨a1, a2⟩ := List.pairwise_cons.mp asc
    rw [List.nodup_cons] at nd
    refine List.pairwise_cons.mpr ⟨fun g hg => ?_, ih a2 nd.2 (fun e he => pl e (List.mem_cons_of_mem _ he)) fun i hi k hk => ne i (List.mem_cons_of_mem _ hi) k (List.mem_cons_of_mem _ hk)⟩
    obtain ⟨i, hi⟩ := List.mem_iff_getElem?.mp hg
    obtain ⟨c2, e1, e2⟩ := DX.pget tl hi
    have w := a1 c2 (List.mem_of_getElem? e1) [(piv (F.getD k []) : Int), (k : Int)] [(piv (F.getD g []) : Int), (g : Int)] ⟨u, rfl, SqT.of hu.2⟩ ⟨c2, rfl, SqT.of e2.2⟩
    have b1 := pl k (List.mem_cons_self ..)
    have b2 := pl g (List.mem_cons_of_mem _ hg)
    have n1 := ne k (List.mem_cons_self ..) g (List.mem_cons_of_mem _ hg) (fun z => nd.1 (z ▸ hg))
    have w' : (piv (F.getD k []) : Int) * 64 ^ 1 + ((k : Int) * 64 ^ 0 + 0) ≤ (piv (F.getD g []) : Int) * 64 ^ 1 + ((g : Int) * 64 ^ 0 + 0) := w
    omega

abbrev stprimitive : Stmt := top 19
theorem scprimitive : FnScope ["row", "shared", "item"] ["row"] (defScope stprimitive) := ⟨rfl, rfl, rfl, by decide +kernel, rfl, by decide +kernel, by decide +kernel⟩
theorem okprimitive (B : Blt mg) {CGroups : Addr} (Es : ErH K mg CGroups) {fpivot_of : Addr} {fdpivot_of : FuncData} (Dpivot_of : DefAt K mg "pivot_of" stpivot_of ["row"] fpivot_of fdpivot_of) {fprimitive : Addr} {fdprimitive : FuncData} (Dprimitive : DefAt K mg "primitive" stprimitive ["row"] fprimitive fdprimitive) : FnOk P w K mg base CX0 2 fprimitive fdprimitive ["row"] spPr := by
  have OKpivot_ofT : FnOk P w K mg base CX0 1 fpivot_of fdpivot_of ["row"] spPvT := okpivot_ofT B  Dpivot_of
  have OKpivot_of : FnOk P w K mg base CX0 1 fpivot_of fdpivot_of ["row"] spPv := okpivot_of B  Dpivot_of
  refine Dprimitive.F.ok scprimitive (fun vs H Q E h => ?_) (fun cdv A outer s H vs Q E hr h => ?_)
  · obtain ⟨a, xs, rfl, _⟩ := h; rfl
  · have hu := hu_of hr
    refine ⟨_, (pss_cons (ps_set (i := 1) scprimitive.nd rfl (Or.inr rfl) pe_int)
    (pss_cons (ps_for PassesOwn.never rfl (pi_seq (pv 0)) (pg_name (i := 2) scprimitive.nd rfl (Or.inl rfl))
      (pss_one (ps_set (i := 1) scprimitive.nd rfl (Or.inr rfl) (pe_callBfun cr_gcd (by rfl) Es.gcd (pa_cons (pv 1) (pa_cons (pv 2) pa_nil))))))
    (Evl.pss_cut (ps_if (pt_cmpR op_lt (pe_ix (ix_seq : IxR _ (rIx K)) (pv 0) (pe_call OKpivot_ofT (hr.mono (by decide)) rfl Dpivot_of.m Dpivot_of.F.kp Dpivot_of.b .nil pass0 (pa_cons (pv 0) pa_nil)) (fun _ _ => rfl)) pe_int (nomark _)) (pss_one (ps_set (i := 1) scprimitive.nd rfl (Or.inr rfl) (pe_un un_neg (pv 1)))) pss_nil)
    (pss_one (ps_ret (pe_lc (own := [("item", 2)]) (g := gName 2) (tt := tYes) rfl scprimitive.nd (pi_seq (pv 0)) (blkOk_by (own := [("item", 2)]) (N := ["row", "shared", "item"]) (sc := defScope stprimitive) (by decide +kernel)) (fun _ _ _ _ _ => pg_name (i := 2) scprimitive.nd rfl (Or.inl rfl)) (fun _ _ _ _ _ => pts_nil) (fun _ _ _ _ _ => (pe_op op_fdivC (pv 2) (pv 1))))))))), ?_⟩
    obtain ⟨a, xs, rfl, ha, nz, bb, l2, q⟩ := h
    obtain ⟨pl, pn, _⟩ := piv_spec nz
    obtain ⟨ka, sa⟩ := sqb_all (K := K) ha
    refine ⟨_, rfl, a, ka, rfl, ⟨_, sa _ (fun _ _ h => h)⟩, for_seq (K := K) (a := a) (k := ka) (xs := xs.map V.int) (fun i σ H' => ∃ v : Option V, σ = [some (.ref a), some (.int ((gcdR (xs.take i) : Nat) : Int)), v] ∧ H' = H) ⟨none, rfl, rfl⟩ (fun i σ H' _ hh => by obtain ⟨_, _, e⟩ := hh; rw [e]; exact sa _ (fun _ _ h => h)) ?_ ?_⟩
    · rintro i x σ H1 hx ⟨v, rfl, rfl⟩
      obtain ⟨z, hz, rfl⟩ := map_int hx
      refine ⟨_, rfl, _, rfl, _, _, rfl, ?_⟩
      rw [Int.natAbs_natCast, ← gcdR_take hz]
      exact ⟨_, rfl, rfl⟩
    rintro σ H1 ⟨v, rfl, rfl⟩
    rw [List.take_of_length_le (by rw [List.length_map]; exact Nat.le_refl _)]
    refine ⟨fun σ' H' => Same H1 H' ∧ ∃ v : Option V, σ' = [some (.ref a), some (.int (sgR xs)), v], ?_, ?_⟩
    · refine ⟨_, rfl, _, rfl, a, xs, rfl, ha, fun H2 s2 => ?_⟩
      have gq : atI (xs.map V.int) (piv xs : Int) = some (.int (vl xs (piv xs))) := by rw [atI_of (by rw [List.length_map]; exact pl), List.getElem?_map, vl_at pl]; rfl
      refine rIx_seq0 (ha.imp (s2 _ _) (s2 _ _)) gq ?_
      refine ⟨_, _, rfl, rfl, _, rfl, ?_⟩
      by_cases neg : vl xs (piv xs) < 0
      · rw [decide_eq_true neg]
        refine iteT ?_
        refine ⟨_, rfl, _, rfl, s2, v, ?_⟩
        unfold sgR
        rw [if_pos neg]; rfl
      · rw [decide_eq_false neg]
        refine iteF ?_
        refine ⟨s2, v, ?_⟩
        unfold sgR
        rw [if_neg neg]
    rintro σ H2 ⟨s2, v, rfl⟩
    refine ⟨_, rfl, a, ka, rfl, ⟨_, sa _ s2⟩, fun D hD => ?_⟩
    refine lc_seq (K := K) (a := a) (k := ka) (xs := xs.map V.int) (fun i H' => Same H2 H' ∧ H' D = some (.lst (((prim xs).take i).map V.int))) ⟨AL.Same.new hD, upd_same⟩ (fun i H' _ hh => sa _ (s2.trans hh.1)) ?_ ?_
    · rintro i x H3 hx ⟨s3, hd⟩
      obtain ⟨z, hz, rfl⟩ := map_int hx
      have il := (List.getElem?_eq_some_iff.mp hz).1
      refine ⟨rfl, ?_⟩
      refine ⟨_, rfl, _, rfl, _, _, rfl, rfl, ⟨sgR_ne nz, .inl (lt135 (bb.bd z (List.mem_of_getElem? hz)))⟩, _, hd, ?_, AL.Same.updn s3 hD, ?_⟩
      · rw [List.length_map, List.length_take]; exact Nat.lt_of_le_of_lt (by omega : _ ≤ 1000) (by decide)
      · have g : (prim xs)[i]? = some (z.fdiv (sgR xs)) := by unfold prim; rw [List.getElem?_map, hz]; rfl
        rw [upd_same, List.take_add_one, g, List.map_append]; rfl
    rintro H3 ⟨s3, hd⟩
    rw [List.take_of_length_le (by rw [prim_len, List.length_map]; exact Nat.le_refl _)] at hd
    exact q D H3 (by cases e : H1 D with | none => rfl | some o => rw [s2 _ _ e] at hD; cases hD) (s2.trans s3) hd
abbrev stwithout_item : Stmt := top 20
theorem scwithout_item : FnScope ["row", "at", "held", "shared"] ["row", "at", "held"] (defScope stwithout_item) := ⟨rfl, rfl, rfl, by decide +kernel, rfl, by decide +kernel, by decide +kernel⟩
theorem okwithout_item (B : Blt mg) {CGroups : Addr} (Es : ErH K mg CGroups) {fcombined : Addr} {fdcombined : FuncData} (Dcombined : DefAt K mg "combined" stcombined ["many", "one", "times", "other"] fcombined fdcombined) {fwithout_item : Addr} {fdwithout_item : FuncData} (Dwithout_item : DefAt K mg "without_item" stwithout_item ["row", "at", "held"] fwithout_item fdwithout_item) : FnOk P w K mg base CX0 2 fwithout_item fdwithout_item ["row", "at", "held"] spWo := by
  have OKcombinedT : FnOk P w K mg base CX0 1 fcombined fdcombined ["many", "one", "times", "other"] spCmT := okcombinedT B  Dcombined
  have OKcombined : FnOk P w K mg base CX0 1 fcombined fdcombined ["many", "one", "times", "other"] spCm := okcombined B  Dcombined
  refine Dwithout_item.F.ok scwithout_item (fun vs H Q E h => ?_) (fun cdv A outer s H vs Q E hr h => ?_)
  · obtain ⟨a, h, p, xs, hs, rfl, _⟩ := h; rfl
  · have hu := hu_of hr
    refine ⟨_, (pss_cons (ps_if (pt_cmpR op_eq (pe_ix (ix_seq : IxR _ (rIx K)) (pv 0) (pv 1) (fun _ _ => rfl)) pe_int (nomark _)) (pss_one (ps_ret (pv 0))) pss_nil)
    (pss_cons (ps_set (i := 3) scwithout_item.nd rfl (Or.inl rfl) (pe_callBfun cr_gcd (by rfl) Es.gcd (pa_cons (pe_ix (ix_seq : IxR _ (rIx K)) (pv 0) (pv 1) (fun _ _ => rfl)) (pa_cons (pe_ix ix_list (pv 2) (pv 1) (fun _ _ => rfl)) pa_nil))))
    (pss_one (ps_ret (pe_call OKcombinedT (hr.mono (by decide)) rfl Dcombined.m Dcombined.F.kp Dcombined.b .nil pass0 (pa_cons (pe_op op_fdivC (pe_ix ix_list (pv 2) (pv 1) (fun _ _ => rfl)) (pv 3)) (pa_cons (pv 0) (pa_cons (pe_un un_neg (pe_op op_fdivC (pe_ix (ix_seq : IxR _ (rIx K)) (pv 0) (pv 1) (fun _ _ => rfl)) (pv 3))) (pa_cons (pv 2) pa_nil))))))))), ?_⟩
    obtain ⟨a, h, p, xs, hs, rfl, ha, hh, hl, hp, pos, bx, bh, l2, q⟩ := h
    have px : p < xs.length := by omega
    have gx : atI (xs.map V.int) ((p : Nat) : Int) = some (.int (vl xs p)) := by rw [atI_of (by rw [List.length_map]; exact px), List.getElem?_map, vl_at px]; rfl
    have gh : atI (hs.map V.int) ((p : Nat) : Int) = some (.int (vl hs p)) := by rw [atI_of (by rw [List.length_map]; exact hp), List.getElem?_map, vl_at hp]; rfl
    refine ⟨_, rfl, _, rfl, rIx_seq0 ha gx ?_⟩
    refine ⟨rfl, _, rfl, ?_⟩
    by_cases z : vl xs p = 0
    · rw [decide_eq_true (by rw [z])]
      refine iteT ?_
      refine ⟨_, rfl, ?_⟩
      refine q a H (fun _ _ h => h) ?_
      unfold wo
      rw [if_pos z]; exact ha
    rw [decide_eq_false (fun w => z (by injection w))]
    refine iteF ?_
    obtain ⟨g0, d1, d2⟩ := woG_ne (x := xs) pos
    have b1 := bx.at (Nat.le_refl _) p
    have b2 := bh.at (Nat.le_refl _) p
    refine ⟨_, rfl, _, rfl, rIx_seq0 ha gx ?_⟩
    refine ⟨_, rfl, _, rfl, h, _, _, _, rfl, rfl, SqL.of hh, gh, _, _, rfl, ?_⟩
    refine ⟨_, rfl, _, rfl, h, _, _, _, rfl, rfl, SqL.of hh, gh, _, rfl, _, _, rfl, rfl, ⟨g0, .inl (lt135 b2)⟩, _, rfl, _, rfl, _, rfl, rIx_seq0 ha gx ?_⟩
    refine ⟨_, rfl, _, _, rfl, rfl, ⟨g0, .inl (lt135 b1)⟩, _, rfl, _, rfl, _, _, a, h, xs, hs, rfl, ha, hh, hl, l2, Nat.lt_of_le_of_lt (fdiv_le g0 d1) b2, ?_, bx.bd, bh.bd, fun D H' hD s hD2 => ?_⟩
    · rw [Int.natAbs_neg]; exact Nat.lt_of_le_of_lt (fdiv_le g0 d2) b1
    · refine q D H' s ?_
      unfold wo
      rw [if_neg z]; exact .inl hD2
abbrev stcleared : Stmt := top 21
theorem sccleared : FnScope ["reduced_rows", "row", "held"] ["reduced_rows", "row"] (defScope stcleared) := ⟨rfl, rfl, rfl, by decide +kernel, rfl, by decide +kernel, by decide +kernel⟩
theorem okcleared (B : Blt mg) {CGroups : Addr} (Es : ErH K mg CGroups) {fpivot_of : Addr} {fdpivot_of : FuncData} (Dpivot_of : DefAt K mg "pivot_of" stpivot_of ["row"] fpivot_of fdpivot_of) {fcombined : Addr} {fdcombined : FuncData} (Dcombined : DefAt K mg "combined" stcombined ["many", "one", "times", "other"] fcombined fdcombined) {fwithout_item : Addr} {fdwithout_item : FuncData} (Dwithout_item : DefAt K mg "without_item" stwithout_item ["row", "at", "held"] fwithout_item fdwithout_item) {fcleared : Addr} {fdcleared : FuncData} (Dcleared : DefAt K mg "cleared" stcleared ["reduced_rows", "row"] fcleared fdcleared) : FnOk P w K mg base CX0 3 fcleared fdcleared ["reduced_rows", "row"] spCl := by
  have OKpivot_of : FnOk P w K mg base CX0 1 fpivot_of fdpivot_of ["row"] spPv := okpivot_of B  Dpivot_of
  have OKwithout_item : FnOk P w K mg base CX0 2 fwithout_item fdwithout_item ["row", "at", "held"] spWo := okwithout_item B Es Dcombined Dwithout_item
  refine Dcleared.F.ok sccleared (fun vs H Q E h => ?_) (fun cdv A outer s H vs Q E hr h => ?_)
  · obtain ⟨w, a, F, xs, W, b, m, rfl, _⟩ := h; rfl
  · have hu := hu_of hr
    refine ⟨_, (pss_cons (ps_for PassesOwn.never rfl (pi_list (pv 0)) (pg_name (i := 2) sccleared.nd rfl (Or.inl rfl))
      (pss_one (ps_set (i := 1) sccleared.nd rfl (Or.inl rfl) (pe_call OKwithout_item (hr.mono (by decide)) rfl Dwithout_item.m Dwithout_item.F.kp Dwithout_item.b .nil pass0 (pa_cons (pv 1) (pa_cons (pe_call OKpivot_of (hr.mono (by decide)) rfl Dpivot_of.m Dpivot_of.F.kp Dpivot_of.b .nil pass0 (pa_cons (pv 2) pa_nil)) (pa_cons (pv 2) pa_nil)))))))
    (pss_one (ps_ret (pv 1)))), ?_⟩
    obtain ⟨w, a, F, xs, W, b, m, rfl, hw, ha, R, lx, hW, bx, bF, hm, hb, q⟩ := h
    obtain ⟨as, W1, W2⟩ := hw
    have la := prd_len W2
    refine ⟨_, rfl, w, rfl, ⟨_, SqL.of W1⟩, for_list (K := K) (a := w) (xs := as.map V.ref) (fun i σ H' => ∃ (c : Addr) (v : Option V), σ = [some (.ref w), some (.ref c), v] ∧ Same H H' ∧ LT H' c (clr (F.take i) xs)) ⟨a, none, rfl, (fun _ _ h => h), ha⟩ (fun i σ H' _ hh => by obtain ⟨_, _, _, s, _⟩ := hh; exact SqL.of (s _ _ W1)) ?_ ?_⟩
    · rintro i x σ H1 hx ⟨c, v, rfl, s1, hc⟩
      obtain ⟨h, hh, rfl⟩ := map_ref hx
      obtain ⟨f, hf, hfa⟩ := prd_get W2 hh
      have mf := List.mem_of_getElem? hf
      have il := (List.getElem?_eq_some_iff.mp hf).1
      have hf1 : LI H1 h f := s1 _ _ hfa
      have R' := rref_take R i
      have lc := (clr_spec (x := xs) R' lx).1
      have bc := clr_bb (x := xs) R'.len R'.pos (fun f hf => bF f (List.mem_of_mem_take hf)) lx bx
      have le : b + (F.take i).length * (m + 1) ≤ 13000 := by
        rw [List.length_take]
        have := Nat.mul_le_mul_right (m + 1) (Nat.min_le_right i F.length)
        omega
      refine ⟨_, rfl, _, rfl, h, f, rfl, hf1, fun H2 s2 => ?_⟩
      refine ⟨_, rfl, c, h, piv f, _, f, rfl, hc.same s2, hf1.same s2, lc.trans (R.len f mf).symm, by rw [R.len f mf]; exact piv_lt R mf, R.pos f mf, bc.mono le, (bF f mf).mono hm, by omega, fun D H3 s3 hD => ?_⟩
      refine ⟨D, _, rfl, (s1.trans s2).trans s3, ?_⟩
      rw [clr_take hf]
      exact hD
    rintro σ H1 ⟨c, v, rfl, s1, hc⟩
    rw [List.length_map, la, List.take_length] at hc
    exact ⟨_, rfl, q c H1 s1 hc⟩
abbrev stspan_of : Stmt := top 22
theorem scspan_of : FnScope ["rows", "found", "row", "at", "held", "places", "k"] ["rows"] (defScope stspan_of) := ⟨rfl, rfl, rfl, by decide +kernel, rfl, by decide +kernel, by decide +kernel⟩
theorem okspan_of (B : Blt mg) {CGroups : Addr} (Es : ErH K mg CGroups) {fpivot_of : Addr} {fdpivot_of : FuncData} (Dpivot_of : DefAt K mg "pivot_of" stpivot_of ["row"] fpivot_of fdpivot_of) {fcombined : Addr} {fdcombined : FuncData} (Dcombined : DefAt K mg "combined" stcombined ["many", "one", "times", "other"] fcombined fdcombined) {fwithout_item : Addr} {fdwithout_item : FuncData} (Dwithout_item : DefAt K mg "without_item" stwithout_item ["row", "at", "held"] fwithout_item fdwithout_item) {fcleared : Addr} {fdcleared : FuncData} (Dcleared : DefAt K mg "cleared" stcleared ["reduced_rows", "row"] fcleared fdcleared) {fprimitive : Addr} {fdprimitive : FuncData} (Dprimitive : DefAt K mg "primitive" stprimitive ["row"] fprimitive fdprimitive) {fspan_of : Addr} {fdspan_of : FuncData} (Dspan_of : DefAt K mg "span_of" stspan_of ["rows"] fspan_of fdspan_of) : FnOk P w K mg base CX0 4 fspan_of fdspan_of ["rows"] spSpn := by
  have OKcleared : FnOk P w K mg base CX0 3 fcleared fdcleared ["reduced_rows", "row"] spCl := okcleared B Es Dpivot_of Dcombined Dwithout_item Dcleared
  have OKpivot_of : FnOk P w K mg base CX0 1 fpivot_of fdpivot_of ["row"] spPv := okpivot_of B  Dpivot_of
  have OKprimitive : FnOk P w K mg base CX0 2 fprimitive fdprimitive ["row"] spPr := okprimitive B Es Dpivot_of Dprimitive
  have OKwithout_item : FnOk P w K mg base CX0 2 fwithout_item fdwithout_item ["row", "at", "held"] spWo := okwithout_item B Es Dcombined Dwithout_item
  refine Dspan_of.F.ok scspan_of (fun vs H Q E h => ?_) (fun cdv A outer s H vs Q E hr h => ?_)
  · obtain ⟨w, rows, W, b, M, rfl, _⟩ := h; rfl
  · have hu := hu_of hr
    refine ⟨_, (pss_cons (ps_set (i := 1) scspan_of.nd rfl (Or.inr rfl) (pe_lst pa_nil))
    (pss_cons (ps_for PassesOwn.never rfl (pi_seq (pv 0)) (pg_name (i := 2) scspan_of.nd rfl (Or.inr rfl))
      (pss_cons (ps_set (i := 2) scspan_of.nd rfl (Or.inr rfl) (pe_call OKcleared (hr.mono (by decide)) rfl Dcleared.m Dcleared.F.kp Dcleared.b .nil pass0 (pa_cons (pv 1) (pa_cons (pv 2) pa_nil))))
    (pss_one (ps_if (pt_val (pe_callB (cr_anyIB rfl) (by rfl) B.any_ (by decide +kernel) (pa_cons (pv 2) pa_nil))) (pss_cons (ps_set (i := 2) scspan_of.nd rfl (Or.inr rfl) (pe_call OKprimitive (hr.mono (by decide)) rfl Dprimitive.m Dprimitive.F.kp Dprimitive.b .nil pass0 (pa_cons (pv 2) pa_nil)))
    (pss_cons (ps_set (i := 3) scspan_of.nd rfl (Or.inr rfl) (pe_call OKpivot_of (hr.mono (by decide)) rfl Dpivot_of.m Dpivot_of.F.kp Dpivot_of.b .nil pass0 (pa_cons (pv 2) pa_nil)))
    (pss_one (ps_set (i := 1) scspan_of.nd rfl (Or.inr rfl) (pe_op op_cat (pe_lc (own := [("held", 4)]) (g := gName 4) (tt := tYes) rfl scspan_of.nd (pi_list (pv 1)) (blkOk_by (own := [("held", 4)]) (N := ["rows", "found", "row", "at", "held", "places", "k"]) (sc := defScope stspan_of) (by decide +kernel)) (fun _ _ _ _ _ => (pg_name (i := 4) scspan_of.nd rfl (Or.inl rfl))) (fun _ _ _ _ _ => pts_nil) (fun _ _ _ _ _ => (pe_ifExp (pt_cmpR op_eq (pe_ix (ix_list : IxR _ (rIxL K)) (pv 4) (pv 3) (fun _ _ => rfl)) pe_int (nomark _)) (pv 4) (pe_call OKprimitive (hr.mono (by decide)) rfl Dprimitive.m Dprimitive.F.kp Dprimitive.b .nil pass0 (pa_cons (pe_call OKwithout_item (hr.mono (by decide)) rfl Dwithout_item.m Dwithout_item.F.kp Dwithout_item.b .nil pass0 (pa_cons (pv 4) (pa_cons (pv 3) (pa_cons (pv 2) pa_nil)))) pa_nil))))) (pe_lst (pa_cons (pv 2) pa_nil))))))) pss_nil))))
    (pss_cons (ps_set (i := 5) scspan_of.nd rfl (Or.inl rfl) (pe_callB (cr_sortT (d := 2) (B := 64) (by decide)) (by rfl) B.sorted_ (by decide +kernel) (pa_cons (pe_lc (own := [("k", 6), ("row", 2)]) (g := (gTup K 2 (gCons (gName 6) (gCons (gName 2) gNil)))) (tt := tYes) rfl scspan_of.nd (pi_enum (by rfl) B.enumerate_ (pa_cons (pv 1) pa_nil)) (blkOk_by (own := [("k", 6), ("row", 2)]) (N := ["rows", "found", "row", "at", "held", "places", "k"]) (sc := defScope stspan_of) (by decide +kernel)) (fun _ _ _ _ _ => (pg_tup rfl (pgs_cons (pg_name (i := 6) scspan_of.nd rfl (Or.inl rfl)) (pgs_cons (pg_name (i := 2) scspan_of.nd rfl (Or.inl rfl)) pgs_nil)))) (fun _ _ _ _ _ => pts_nil) (fun _ _ _ _ _ => (pe_tup (pa_cons (pe_call OKpivot_of (hr.mono (by decide)) rfl Dpivot_of.m Dpivot_of.F.kp Dpivot_of.b .nil pass0 (pa_cons (pv 2) pa_nil)) (pa_cons (pv 6) pa_nil))))) pa_nil)))
    (pss_one (ps_ret (pe_lc (own := [("at", 3), ("k", 6)]) (g := (gTup K 2 (gCons (gName 3) (gCons (gName 6) gNil)))) (tt := tYes) rfl scspan_of.nd (pi_list (pv 5)) (blkOk_by (own := [("at", 3), ("k", 6)]) (N := ["rows", "found", "row", "at", "held", "places", "k"]) (sc := defScope stspan_of) (by decide +kernel)) (fun _ _ _ _ _ => (pg_tup rfl (pgs_cons (pg_name (i := 3) scspan_of.nd rfl (Or.inl rfl)) (pgs_cons (pg_name (i := 6) scspan_of.nd rfl (Or.inl rfl)) pgs_nil)))) (fun _ _ _ _ _ => pts_nil) (fun _ _ _ _ _ => (pe_ix (ix_list : IxR _ (rIxL K)) (pv 1) (pv 6) (fun _ _ => rfl))))))))), ?_⟩
    obtain ⟨w, rows, W, b, M, rfl, hw, hl, hW, hn, hb, hMM, hs1, hs2, q⟩ := h
    obtain ⟨as, W1, W2⟩ := hw
    obtain ⟨kk, sq⟩ := sq_of0 (K := K) W1
    have la := prd_len W2
    have tl : ∀ i, ∀ r ∈ rows.take i, r.length = W := fun i r hr => hl r (List.mem_of_mem_take hr)
    have sz : ∀ i, (spn (rows.take i)).length ≤ rows.length ∧ ∀ f ∈ spn (rows.take i), Bb (M) f := fun i => by
      obtain ⟨z1, z2⟩ := spn_size (b := b) (tl i) fun r hr => hb r (List.mem_of_mem_take hr)
      rw [List.length_take] at z1 z2
      exact ⟨by omega, hMM i⟩
    refine ⟨(by show 0 ≤ sizeLine; decide), fun f0 hf0 => ?_⟩
    have n0 := AL.Same.new (o := .lst []) hf0
    refine ⟨_, rfl, w, kk, rfl, ⟨_, sq _ n0⟩, for_seq (K := K) (a := w) (k := kk) (xs := as.map V.ref) (fun i σ H' => ∃ (fd : Addr) (v2 v3 : Option V), σ = [some (.ref w), some (.ref fd), v2, v3, none, none, none] ∧ Same H H' ∧ H fd = none ∧ RowsZ H' fd (spn (rows.take i))) ⟨f0, none, none, rfl, n0, hf0, [], upd_same, .nil⟩ (fun i σ H' _ hh => by obtain ⟨_, _, _, _, s, _⟩ := hh; exact sq _ s) ?_ ?_⟩
    · rintro i x σ H1 hx ⟨fd, v2, v3, rfl, s1, hfd, hF⟩
      obtain ⟨ra, hra, rfl⟩ := map_ref hx
      obtain ⟨r, hr, hrr⟩ := prd_get W2 hra
      have mr := List.mem_of_getElem? hr
      have lr := hl r mr
      have il := (List.getElem?_eq_some_iff.mp hr).1
      obtain ⟨R, _, _⟩ := spn_spec (tl i)
      obtain ⟨z1, z2⟩ := sz i
      have zn := (sz (i + 1)).2
      rw [spn_take hr] at zn
      have goal : ∀ {fd' : Addr} {v2' v3' : Option V} {H' : Hp}, Same H1 H' → H fd' = none → RowsZ H' fd' (stepS (spn (rows.take i)) r) → ∃ (fd : Addr) (v2 v3 : Option V), [some (V.ref w), some (V.ref fd'), v2', v3', none, none, none] = [some (V.ref w), some (V.ref fd), v2, v3, none, none, none] ∧ Same H H' ∧ H fd = none ∧ RowsZ H' fd (spn (rows.take (i + 1))) := fun s hn h => ⟨_, _, _, rfl, s1.trans s, hn, by rw [spn_take hr]; exact h⟩
      have z3 : (spn (rows.take i)).length ≤ i := by
        have w2 := (spn_size (b := b) (tl i) fun r hr => hb r (List.mem_of_mem_take hr)).1
        have e : (rows.take i).length = i := by rw [List.length_take]; omega
        omega
      generalize spn (rows.take i) = F at hF R z1 z2 zn goal z3
      have le : b + F.length * (M + 1) ≤ 13000 := by
        have := Nat.mul_le_mul_right (M + 1) z1
        omega
      obtain ⟨c1, c2, _⟩ := clr_spec (x := r) R lr
      have cb := clr_bb (x := r) R.len R.pos z2 lr (hb r mr)
      refine ⟨_, rfl, _, rfl, fd, ra, F, r, W, b, M, rfl, hF, hrr.same s1, R, lr, by omega, hb r mr, z2, hs1, le, fun D H2 s2 hD => ?_⟩
      refine ⟨_, rfl, D, _, rfl, hD.seq, _, rfl, ?_⟩
      rw [any_allZ]
      have zs : stepS F r = if allZ (clr F r) then F else F.map (upR (prim (clr F r))) ++ [prim (clr F r)] := rfl
      by_cases z : allZ (clr F r)
      · rw [decide_eq_false (fun w => w z)]
        refine iteF ?_
        rw [if_pos z] at zs
        exact goal s2 hfd (by rw [zs]; exact hF.same s2)
      rw [decide_eq_true z]
      refine iteT ?_
      rw [if_neg z] at zs
      refine ⟨_, rfl, D, _, rfl, hD, z, cb.mono le, by omega, fun D2 H3 hD2 s3 hp => ?_⟩
      have lp : (prim (clr F r)).length = W := (prim_len _).trans c1
      have pp : 0 < vl (prim (clr F r)) (piv (prim (clr F r))) := by rw [prim_piv z]; exact prim_pos z
      have pb : Bb 13000 (prim (clr F r)) := (prim_bb z cb).mono le
      have pz : ∀ f ∈ F, vl (prim (clr F r)) (piv f) = 0 := fun f hf => by
        have e := prim_vl z (piv f)
        rw [c2 f hf] at e
        exact (Int.mul_eq_zero.mp e).resolve_left (sgR_ne z)
      rw [zs] at zn goal
      have pl : piv (prim (clr F r)) < W := by rw [← lp]; exact (piv_spec (not_allZ (j := piv (prim (clr F r))) (by omega))).1
      have wb : ∀ f ∈ F, ¬ vl f (piv (prim (clr F r))) = 0 → ¬ allZ (wo f (piv (prim (clr F r))) (prim (clr F r))) ∧ Bb 13000 (wo f (piv (prim (clr F r))) (prim (clr F r))) := fun f hf _ => by
        refine ⟨wo_nz ((R.len f hf).trans lp.symm) pp (R.pos f hf) (pz f hf), ?_⟩
        have w1 := wo_bb (p := piv (prim (clr F r))) ((R.len f hf).trans lp.symm) pp (z2 f hf) (prim_bb z cb)
        refine w1.mono ?_
        have l1 : F.length + 1 ≤ rows.length := by omega
        have := Nat.mul_le_mul_right (M + 1) l1
        rw [Nat.succ_mul] at this
        omega
      generalize prim (clr F r) = pr at hp lp pp pb pz zn goal pl wb
      refine ⟨_, rfl, D2, pr, rfl, hp, fun H4 s4 => ?_⟩
      have s14 := s2.trans (s3.trans s4)
      have hp4 : LI H4 D2 pr := hp.same s4
      obtain ⟨fs, F1, F2⟩ := hF.same s14
      have lf := prd_len F2
      refine ⟨_, rfl, fd, rfl, ⟨_, SqL.of F1⟩, fun D3 hD3 => ?_⟩
      refine lc_list (K := K) (a := fd) (xs := fs.map V.ref) (fun j H' => Same H4 H' ∧ ∃ cs : List Addr, H' D3 = some (.lst (cs.map V.ref)) ∧ Paired (fun a r => a ≠ D3 ∧ H' a = some (.lst (r.map V.int))) cs ((F.map (upR pr)).take j)) ⟨AL.Same.new hD3, [], upd_same, .nil⟩ (fun i H' _ hh => SqL.of (hh.1 _ _ F1)) ?_ ?_
      · rintro j y H5 hy ⟨s5, cs, hd5, pr5⟩
        obtain ⟨h, hh, rfl⟩ := map_ref hy
        obtain ⟨f, hf, hfa⟩ := prd_get F2 hh
        have mf := List.mem_of_getElem? hf
        have lcs := prd_len pr5
        rw [List.length_take, List.length_map] at lcs
        have hf5 : LI H5 h f := s5 _ _ hfa
        have lfW := R.len f mf
        have hne : h ≠ D3 := fun e => by rw [e] at hfa; rw [show H4 D3 = _ from hfa] at hD3; cases hD3
        have g : (F.map (upR pr))[j]? = some (upR pr f) := by rw [List.getElem?_map, hf]; rfl
        have put : ∀ (q0 : Addr) (H6 : Hp), Same H5 H6 → q0 ≠ D3 → LI H6 q0 (upR pr f) → ∃ acc, H6 D3 = some (.lst acc) ∧ acc.length < sizeLine ∧ Same H4 (upd H6 D3 (.lst (acc ++ [.ref q0]))) ∧ ∃ cs : List Addr, upd H6 D3 (.lst (acc ++ [.ref q0])) D3 = some (.lst (cs.map V.ref)) ∧ Paired (fun a r => a ≠ D3 ∧ upd H6 D3 (.lst (acc ++ [.ref q0])) a = some (.lst (r.map V.int))) cs ((F.map (upR pr)).take (j + 1)) := fun q0 H6 s6 qn hq => by
          obtain ⟨r1, r2⟩ := rowsZ_snoc (s6 _ _ hd5) (paired_mono pr5 fun _ _ z => ⟨z.1, s6 _ _ z.2⟩) qn hq
          refine ⟨_, s6 _ _ hd5, ?_, AL.Same.updn (s5.trans s6) hD3, cs ++ [q0], r1, ?_⟩
          · rw [List.length_map]; exact Nat.lt_of_le_of_lt (by omega : _ ≤ 1000) (by decide)
          · rw [List.take_add_one, g]; exact r2
        refine ⟨rfl, ?_⟩
        have gx : atI (f.map V.int) ((piv pr : Nat) : Int) = some (.int (vl f (piv pr))) := by rw [atI_of (by rw [List.length_map]; omega), List.getElem?_map, vl_at (by omega : piv pr < f.length)]; rfl
        refine ⟨_, rfl, _, rfl, h, _, _, _, rfl, rfl, SqL.of hf5, gx, rfl, _, rfl, ?_⟩
        by_cases y0 : vl f (piv pr) = 0
        · rw [decide_eq_true (by rw [y0])]
          refine iteT ?_
          refine ⟨_, rfl, put h H5 (fun _ _ h => h) hne ?_⟩
          unfold upR
          rw [if_pos y0]; exact hf5
        · rw [decide_eq_false (fun w => y0 (by injection w))]
          refine iteF ?_
          obtain ⟨nz, wbb⟩ := wb f mf y0
          refine ⟨_, rfl, _, rfl, _, rfl, h, D2, piv pr, f, pr, rfl, .inl hf5, hp4.same s5, lfW.trans lp.symm, by omega, pp, (z2 f mf).mono hs1, pb, by omega, fun D4 H6 s6 hD4 => ?_⟩
          refine ⟨D4, _, rfl, hD4, nz, wbb, ?_, fun D5 H7 hD5 s7 h7 => ?_⟩
          · have := wo_lin (x := f) (h := pr) (p := piv pr) (lfW.trans lp.symm) pp
            obtain ⟨_, _, _, l7, _⟩ := this
            omega
          · refine put D5 H7 (s6.trans s7) (fun e => ?_) ?_
            · rw [e, s6 _ _ hd5] at hD5; cases hD5
            · unfold upR
              rw [if_neg y0]; exact h7
      rintro H5 ⟨s5, cs, hd5, pr5⟩
      have ltk : (List.map V.ref fs).length = (F.map (upR pr)).length := by rw [List.length_map, List.length_map, lf]
      rw [ltk, List.take_length] at pr5
      have lcs := prd_len pr5
      rw [List.length_map] at lcs
      refine ⟨_, rfl, (by show 1 ≤ sizeLine; decide), fun lr1 hlr1 => ?_⟩
      have n6 := AL.Same.new (o := .lst [.ref D2]) hlr1
      refine ⟨D3, lr1, _, _, rfl, rfl, n6 _ _ hd5, upd_same, ?_, fun lc hlc => ?_⟩
      · rw [List.length_map]; exact Nat.le_trans (by show cs.length + 1 ≤ 100; omega) (by decide)
      have n7 := AL.Same.new (o := .lst (cs.map V.ref ++ [.ref D2])) hlc
      have s17 := s14.trans (s5.trans (n6.trans n7))
      refine goal s17 ?_ ⟨cs ++ [D2], by rw [upd_same, List.map_append]; rfl, prd_snoc (paired_mono pr5 fun _ _ z => (n6.trans n7) _ _ z.2) ((s5.trans (n6.trans n7)) _ _ hp4)⟩
      cases e : H lc with
      | none => rfl
      | some o => rw [n6 _ _ (s5 _ _ (s14 _ _ (s1 _ _ e)))] at hlc; cases hlc
    rintro σ H1 ⟨fd, v2, v3, rfl, s1, hfd, hF⟩
    rw [List.length_map, la, List.take_length] at hF
    obtain ⟨R, _, _⟩ := spn_spec hl
    have z1 := (sz rows.length).1
    rw [List.take_length] at z1
    generalize spn rows = F at hF R z1 q
    obtain ⟨fs, F1, F2⟩ := hF
    have lf := prd_len F2
    refine ⟨_, rfl, fd, _, rfl, SqL.of F1, fun D hD => ?_⟩
    refine lc_it (walk_enum (K := K) (a := fd) (xs := fs.map V.ref)) (fun i H' => Same H1 H' ∧ ∃ ts : List Addr, H' D = some (.lst (ts.map V.ref)) ∧ Paired (fun t k => t ≠ D ∧ H' t = some (.tup [.int (piv (F.getD k []) : Int), .int (k : Int)])) ts (List.range i)) ⟨AL.Same.new hD, [], upd_same, .nil⟩ (fun i H' _ hh => SqL.of (hh.1 _ _ F1)) ?_ ?_
    · rintro i x H0 H1' hi ⟨s0, ts, hd0, pr0⟩ ⟨T0, u1, u2, rfl, hT0, rfl, e1, e2⟩
      cases e1
      obtain ⟨a, ha, rfl⟩ := map_ref e2
      obtain ⟨f, hf, hfa⟩ := prd_get F2 ha
      have lts := prd_len pr0
      rw [List.length_range] at lts
      rw [List.length_map] at hi
      have nT := AL.Same.new (o := .tup [.int (i : Int), .ref a]) hT0
      have sT := s0.trans nT
      refine ⟨T0, _, rfl, SqT.of upd_same, rfl, _, _, rfl, _, _, rfl, rfl, rfl, ?_⟩
      refine ⟨_, rfl, a, f, rfl, (sT _ _ hfa : LI _ a f), fun H2 s2 => ?_⟩
      refine ⟨_, rfl, (by show 2 ≤ sizeLine; decide), fun t ht => ?_⟩
      have nt := AL.Same.new (o := .tup [.int (piv f : Int), .int (i : Int)]) ht
      have s3 := nT.trans (s2.trans nt)
      have hd3 := s3 _ _ hd0
      have tD : t ≠ D := fun e => by rw [e, (nT.trans s2) _ _ hd0] at ht; cases ht
      have gf : F.getD i [] = f := by rw [List.getD_eq_getElem?_getD, hf]; rfl
      refine ⟨_, hd3, ?_, AL.Same.updn (s0.trans s3) hD, ts ++ [t], by rw [upd_same, List.map_append]; rfl, ?_⟩
      · rw [List.length_map]; exact Nat.lt_of_le_of_lt (by omega : _ ≤ 1000) (by decide)
      · rw [List.range_succ]
        refine prd_snoc (paired_mono pr0 fun t' k z => ⟨z.1, Eq.trans (upd_ne z.1) (s3 _ _ z.2)⟩) ⟨tD, ?_⟩
        rw [gf]
        exact Eq.trans (upd_ne tD) upd_same
    rintro H2 ⟨s2, ts, hd2, pr2⟩
    rw [List.length_map, lf] at pr2
    have lts := prd_len pr2
    rw [List.length_range] at lts
    have pl : ∀ k, k < F.length → piv (F.getD k []) < 60 := fun k hk => by
      rw [List.getD_eq_getElem?_getD, List.getElem?_eq_getElem hk]
      exact Nat.lt_of_lt_of_le (piv_lt R (List.getElem_mem hk)) hW
    refine ⟨D, ts.map V.ref, rfl, SqL.of hd2, by rw [List.length_map]; omega, fun x hx => ?_, fun ys p pm asc hp => ?_⟩
    · obtain ⟨t, ht, rfl⟩ := List.mem_map.mp hx
      obtain ⟨i, hi⟩ := List.mem_iff_getElem?.mp ht
      obtain ⟨k, hk, _, htk⟩ := prd_get pr2 hi
      have kl := List.mem_range.mp (List.mem_of_getElem? hk)
      have := pl k kl
      refine ⟨[(piv (F.getD k []) : Int), (k : Int)], ⟨t, rfl, SqT.of htk⟩, rfl, fun m hm => ?_⟩
      rcases List.mem_cons.mp hm with rfl | hm
      · omega
      · rw [List.mem_singleton.mp hm]; omega
    obtain ⟨us, rfl, pu⟩ := vals_addr pm
    obtain ⟨ks, hks, pk⟩ := prd_perm pr2 pu
    have kl : ∀ k ∈ ks, k < F.length := fun k hk => List.mem_range.mp (pk.mem_iff.mp hk)
    have lus := prd_len hks
    have lks : ks.length = F.length := by rw [pk.length_eq, List.length_range]
    have np := AL.Same.new (o := .lst (us.map V.ref)) hp
    have hp3 : upd H2 p (.lst (us.map V.ref)) p = some (.lst (us.map V.ref)) := upd_same
    have hks3 : Paired (fun t k => upd H2 p (.lst (us.map V.ref)) t = some (.tup [.int (piv (F.getD k []) : Int), .int (k : Int)])) us ks := paired_mono hks fun _ _ z => np _ _ z.2
    have s13 := s2.trans np
    generalize upd H2 p (.lst (us.map V.ref)) = H3 at hp3 hks3 s13 ⊢
    refine ⟨_, rfl, p, rfl, ⟨_, SqL.of hp3⟩, fun D' hD' => ?_⟩
    refine lc_list (K := K) (a := p) (xs := us.map V.ref) (fun i H' => Same H3 H' ∧ ∃ cs : List Addr, H' D' = some (.lst (cs.map V.ref)) ∧ Paired (fun a r => a ≠ D' ∧ H' a = some (.lst (r.map V.int))) cs ((ks.map fun k => F.getD k []).take i)) ⟨AL.Same.new hD', [], upd_same, .nil⟩ (fun i H' _ hh => SqL.of (hh.1 _ _ hp3)) ?_ ?_
    · rintro i x H4 hx ⟨s4, cs, hd4, pr4⟩
      obtain ⟨t, ht, rfl⟩ := map_ref hx
      obtain ⟨k, hk, htk⟩ := prd_get hks3 ht
      have hkl := kl k (List.mem_of_getElem? hk)
      have hfk : F[k]? = some (F.getD k []) := by rw [List.getD_eq_getElem?_getD, List.getElem?_eq_getElem hkl]; rfl
      have hka : ∃ a, fs[k]? = some a ∧ H1 a = some (.lst ((F.getD k []).map V.int)) := by
        have lk : k < fs.length := by omega
        obtain ⟨f, e1, e2⟩ := prd_get F2 (List.getElem?_eq_getElem lk)
        rw [hfk] at e1
        cases Option.some.inj e1
        exact ⟨_, List.getElem?_eq_getElem lk, e2⟩
      obtain ⟨a, hka, haF⟩ := hka
      have lcs := prd_len pr4
      rw [List.length_take, List.length_map] at lcs
      have ha4 := s4 _ _ (s13 _ _ haF)
      have aD : a ≠ D' := fun e => by rw [← e, s13 _ _ haF] at hD'; cases hD'
      refine ⟨t, _, rfl, SqT.of (s4 _ _ htk), rfl, _, _, rfl, _, _, rfl, rfl, rfl, ?_⟩
      obtain ⟨r1, r2⟩ := rowsZ_snoc hd4 pr4 aD ha4
      refine ⟨_, rfl, _, rfl, fd, _, _, .ref a, rfl, rfl, SqL.of (s4 _ _ (s13 _ _ F1)), ?_, _, hd4, ?_, AL.Same.updn s4 hD', cs ++ [a], r1, ?_⟩
      · rw [atI_of (by rw [List.length_map]; omega), List.getElem?_map, hka]; rfl
      · rw [List.length_map]; exact Nat.lt_of_le_of_lt (by omega : _ ≤ 1000) (by decide)
      · have g : (ks.map fun k => F.getD k [])[i]? = some (F.getD k []) := by rw [List.getElem?_map, hk]; rfl
        rw [List.take_add_one, g]; exact r2
    rintro H4 ⟨s4, cs, hd4, pr4⟩
    have ltk : (List.map V.ref us).length = (ks.map fun k => F.getD k []).length := by rw [List.length_map, List.length_map, lus]
    rw [ltk, List.take_length] at pr4
    refine q D' H4 (ks.map fun k => F.getD k []) ?_ (s1.trans (s13.trans s4)) ⟨cs, hd4, paired_mono pr4 fun _ _ z => z.2⟩ ?_ ?_
    · cases e : H D' with
      | none => rfl
      | some o => rw [s13 _ _ (s1 _ _ e)] at hD'; cases hD'
    · have e : F = (List.range F.length).map fun k => F.getD k [] := by
        refine List.ext_getElem (by rw [List.length_map, List.length_range]) fun j h1 h2 => ?_
        rw [List.getElem_map, List.getElem_range, List.getD_eq_getElem?_getD, List.getElem?_eq_getElem h1]; rfl
      have w := pk.map fun k => F.getD k []
      rw [← e] at w
      exact w
    · rw [List.pairwise_map]
      have nd : ks.Nodup := (List.Perm.nodup_iff pk).mpr List.nodup_range
      rw [List.pairwise_map] at asc
      have gd : ∀ k, k < F.length → F[k]? = some (F.getD k []) := fun k hk => by rw [List.getD_eq_getElem?_getD, List.getElem?_eq_getElem hk]; rfl
      exact asc_piv hks asc nd (fun k hk => ⟨pl k (kl k hk), by have := kl k hk; omega⟩) fun i hi k hk ne => rref_nodup R (gd i (kl i hi)) (gd k (kl k hk)) (Ne.symm ne)
end
end AL
set_option Elab.async false
set_option maxRecDepth 100000
set_option exponentiation.threshold 70000
set_option maxHeartbeats 1000000
namespace AL
open PySem PySem.Spec PyProof.Rows L2 RZ
section
variable {P : Program} {w : World} {K : PySem.W.Frag} {mg : Str → Option Value} {base : Heap}

theorem sqB_same7 {K : PySem.W.Frag} {H H' : Hp} {a : Addr} {xs : List V} {k : Bool} (h : SqB K H a xs k) (s : Same H H') : SqB K H' a xs k := by
  cases k with
  | true => exact Same.seq s h
  | false => exact same_seqT s h
/-- what is no list: none, an int, a text -/
inductive Atom : V → Prop
  | non : Atom .non
  | int (i : Int) : Atom (.int i)
  | str (s : Str) : Atom (.str s)
def spIsLv (K : PySem.W.Frag) : Sp := fun vs H Q _ => ∃ v : V, vs = [v] ∧ ((∃ (a : Addr) (xs : List V), v = .ref a ∧ (H a = some (.lst xs) ∨ H a = some (.tup xs)) ∧ ∀ H', Same H H' → Q (.bl true) H') ∨ (Atom v ∧ ∀ H', Same H H' → Q (.bl false) H'))
def spWhI : Sp := fun vs H Q _ => ∃ (i : Int), vs = [.int i] ∧ Q (.bl true) H
/-- are_integers(items), ints in a list or a tuple -/
def spAreL : Sp := fun vs H Q _ => ∃ (a : Addr) (xs : List Int), vs = [.ref a] ∧ LT H a xs ∧ xs.length ≤ 200 ∧ ∀ H', Same H H' → Q (.bl true) H'
/-- is_matrix(rows) -/
def spMat : Sp := fun vs H Q _ => ∃ (w : Addr) (n : Nat) (rows : List Rw), vs = [.ref w] ∧ RowsA H w rows ∧ rows ≠ [] ∧ (∀ r ∈ rows, r.length = n) ∧ 0 < n ∧ n ≤ 100 ∧ rows.length ≤ 100 ∧ ∀ H', Same H H' → Q (.bl true) H'
/-- check_matrix(rows, what) -/
def spChM : Sp := fun vs H Q _ => ∃ (w : Addr) (n : Nat) (rows : List Rw) (v : V), vs = [.ref w, v] ∧ RowsA H w rows ∧ rows ≠ [] ∧ (∀ r ∈ rows, r.length = n) ∧ 0 < n ∧ n ≤ 100 ∧ rows.length ≤ 100 ∧ ∀ H', Same H H' → Q .non H'
/-- check_exponents(exponents, result) -/
def spChE : Sp := fun vs H Q _ => ∃ (w r : Addr) (n : Nat) (rows : List Rw) (rs : Rw), vs = [.ref w, .ref r] ∧ RowsA H w rows ∧ rows ≠ [] ∧ (∀ r ∈ rows, r.length = n) ∧ 0 < n ∧ n ≤ 100 ∧ rows.length ≤ 100 ∧ LT H r rs ∧ rs.length = n ∧ ∀ H', Same H H' → Q .non H'
theorem RowsA.same {H H' : Hp} {w : Addr} {ws : List Rw} (h : RowsA H w ws) (s : Same H H') : RowsA H' w ws := by
  obtain ⟨as, h1, h2⟩ := h
  exact ⟨as, h1.imp (s _ _) (s _ _), paired_mono h2 fun _ _ z => z.same s⟩
theorem all_rep (n : Nat) : (List.replicate n true).all id = true := by rw [List.all_eq_true]; intro x hx; rw [List.eq_of_mem_replicate hx]; rfl
theorem bl_snoc (n : Nat) : (List.replicate n true).map V.bl ++ [.bl true] = (List.replicate (n + 1) true).map V.bl := by rw [List.replicate_succ', List.map_append]; rfl

abbrev stis_list : Stmt := top 15
theorem scis_list : FnScope ["value"] ["value"] (defScope stis_list) := ⟨rfl, rfl, rfl, by decide +kernel, rfl, by decide +kernel, by decide +kernel⟩
theorem okis_list (B : Blt mg)  {fis_list : Addr} {fdis_list : FuncData} (Dis_list : DefAt K mg "is_list" stis_list ["value"] fis_list fdis_list) : FnOk P w K mg base CX0 1 fis_list fdis_list ["value"] (spIsLv K) := by
  refine Dis_list.F.ok scis_list (fun vs H Q E h => ?_) (fun cdv A outer s H vs Q E hr h => ?_)
  · obtain ⟨v, rfl, _⟩ := h; rfl
  · have hu := hu_of hr
    refine ⟨_, (pss_one (ps_ret (pe_callB call_isiT (by rfl) B.isinstance_ (by decide +kernel) (pa_cons (pv 0) (pa_cons (pe_tup (pa_cons (pe_bltn (v := .ty "list") (by rfl) B.list_ PyProof.Rows.Boot.«list» rfl) (pa_cons (pe_bltn (v := .ty "tuple") (by rfl) B.tuple_ PyProof.Rows.Boot.«tuple» rfl) pa_nil))) pa_nil))))), ?_⟩
    obtain ⟨v, rfl, h⟩ := h
    rcases h with ⟨a, xs, rfl, ha, q⟩ | ⟨at_, q⟩
    · refine ⟨_, rfl, (by show 2 ≤ sizeLine; decide), fun T hT => ?_⟩
      have n1 := AL.Same.new (o := .tup [.ty "list", .ty "tuple"]) hT
      rcases ha with ha | ha
      · exact ⟨_, T, _, _, _, true, rfl, upd_same, .cons (ClsV.ty _) (.cons (ClsV.ty _) .nil), TyX.base (.lst (n1 _ _ ha)), rfl, q _ n1⟩
      · exact ⟨_, T, _, _, _, true, rfl, upd_same, .cons (ClsV.ty _) (.cons (ClsV.ty _) .nil), TyX.base (.tup (n1 _ _ ha)), rfl, q _ n1⟩
    · refine ⟨_, rfl, (by show 2 ≤ sizeLine; decide), fun T hT => ?_⟩
      have n1 := AL.Same.new (o := .tup [.ty "list", .ty "tuple"]) hT
      cases at_ with
      | non => exact ⟨_, T, _, _, _, false, rfl, upd_same, .cons (ClsV.ty _) (.cons (ClsV.ty _) .nil), TyX.base .non, rfl, q _ n1⟩
      | int i => exact ⟨_, T, _, _, _, false, rfl, upd_same, .cons (ClsV.ty _) (.cons (ClsV.ty _) .nil), TyX.base (.int _), rfl, q _ n1⟩
      | str s => exact ⟨_, T, _, _, _, false, rfl, upd_same, .cons (ClsV.ty _) (.cons (ClsV.ty _) .nil), TyX.base (.str _), rfl, q _ n1⟩
abbrev stis_whole : Stmt := top 14
theorem scis_whole : FnScope ["value"] ["value"] (defScope stis_whole) := ⟨rfl, rfl, rfl, by decide +kernel, rfl, by decide +kernel, by decide +kernel⟩
theorem okis_whole (B : Blt mg)  {fis_whole : Addr} {fdis_whole : FuncData} (Dis_whole : DefAt K mg "is_whole" stis_whole ["value"] fis_whole fdis_whole) : FnOk P w K mg base CX0 1 fis_whole fdis_whole ["value"] spWhI := by
  refine Dis_whole.F.ok scis_whole (fun vs H Q E h => ?_) (fun cdv A outer s H vs Q E hr h => ?_)
  · obtain ⟨i, rfl, _⟩ := h; rfl
  · have hu := hu_of hr
    refine ⟨_, (pss_one (ps_ret (pe_and (pe_callB call_isi (by rfl) B.isinstance_ (by decide +kernel) (pa_cons (pv 0) (pa_cons (pe_bltn (v := .ty "int") (by rfl) B.int_ PyProof.Rows.Boot.«int» rfl) pa_nil))) (pe_one (pe_not (pe_callB call_isi (by rfl) B.isinstance_ (by decide +kernel) (pa_cons (pv 0) (pa_cons (pe_bltn (v := .ty "bool") (by rfl) B.bool_ PyProof.Rows.Boot.«bool» rfl) pa_nil)))))))), ?_⟩
    obtain ⟨i, rfl, q⟩ := h
    refine ⟨_, rfl, _, _, _, _, _, rfl, ClsV.ty _, TyX.base (.int _), rfl, true, rfl, ?_⟩
    refine iteT ?_
    refine ⟨_, rfl, _, _, _, _, _, rfl, ClsV.ty _, TyX.base (.int _), rfl, _, rfl, ?_⟩
    exact q
abbrev stare_integers : Stmt := top 16
theorem scare_integers : FnScope ["items", "item"] ["items"] (defScope stare_integers) := ⟨rfl, rfl, rfl, by decide +kernel, rfl, by decide +kernel, by decide +kernel⟩
theorem okare_integers (B : Blt mg)  {fis_whole : Addr} {fdis_whole : FuncData} (Dis_whole : DefAt K mg "is_whole" stis_whole ["value"] fis_whole fdis_whole) {fare_integers : Addr} {fdare_integers : FuncData} (Dare_integers : DefAt K mg "are_integers" stare_integers ["items"] fare_integers fdare_integers) : FnOk P w K mg base CX0 2 fare_integers fdare_integers ["items"] spAreL := by
  have OKis_whole : FnOk P w K mg base CX0 1 fis_whole fdis_whole ["value"] spWhI := okis_whole B  Dis_whole
  refine Dare_integers.F.ok scare_integers (fun vs H Q E h => ?_) (fun cdv A outer s H vs Q E hr h => ?_)
  · obtain ⟨a, xs, rfl, _⟩ := h; rfl
  · have hu := hu_of hr
    refine ⟨_, (pss_one (ps_ret (pe_callB (cr_all rfl) (by rfl) B.all_ (by decide +kernel) (pa_cons (pe_lc (own := [("item", 1)]) (g := gName 1) (tt := tYes) rfl scare_integers.nd (pi_seq (pv 0)) (blkOk_by (own := [("item", 1)]) (N := ["items", "item"]) (sc := defScope stare_integers) (by decide +kernel)) (fun _ _ _ _ _ => pg_name (i := 1) scare_integers.nd rfl (Or.inl rfl)) (fun _ _ _ _ _ => pts_nil) (fun _ _ _ _ _ => (pe_call OKis_whole (hr.mono (by decide)) rfl Dis_whole.m Dis_whole.F.kp Dis_whole.b .nil pass0 (pa_cons (pv 1) pa_nil)))) pa_nil)))), ?_⟩
    obtain ⟨a, xs, rfl, ha, l2, q⟩ := h
    obtain ⟨kb, hb⟩ := ha.sqb (K := K)
    refine ⟨_, rfl, a, kb, rfl, ⟨_, hb⟩, fun D hD => ?_⟩
    refine lc_seq (K := K) (a := a) (k := kb) (xs := xs.map V.int) (fun i H' => Same H H' ∧ H' D = some (.lst ((List.replicate i true).map V.bl))) ⟨AL.Same.new hD, upd_same⟩ (fun i H' _ hh => sqB_same7 hb hh.1) ?_ ?_
    · rintro i x H1 hx ⟨s1, hd⟩
      obtain ⟨z, hz, rfl⟩ := map_int hx
      have il := (List.getElem?_eq_some_iff.mp hz).1
      refine ⟨rfl, ?_⟩
      refine ⟨_, rfl, z, rfl, _, hd, ?_, AL.Same.updn s1 hD, by rw [upd_same, bl_snoc]⟩
      rw [List.length_map, List.length_replicate]; exact Nat.lt_of_le_of_lt (by omega : _ ≤ 1000) (by decide)
    rintro H1 ⟨s1, hd⟩
    refine ⟨D, _, rfl, SqL.of hd, ?_⟩
    rw [all_rep]
    exact q H1 s1
abbrev stis_matrix : Stmt := top 25
theorem scis_matrix : FnScope ["rows", "row", "width"] ["rows"] (defScope stis_matrix) := ⟨rfl, rfl, rfl, by decide +kernel, rfl, by decide +kernel, by decide +kernel⟩
theorem okis_matrix (B : Blt mg)  {fis_list : Addr} {fdis_list : FuncData} (Dis_list : DefAt K mg "is_list" stis_list ["value"] fis_list fdis_list) {fis_matrix : Addr} {fdis_matrix : FuncData} (Dis_matrix : DefAt K mg "is_matrix" stis_matrix ["rows"] fis_matrix fdis_matrix) : FnOk P w K mg base CX0 2 fis_matrix fdis_matrix ["rows"] spMat := by
  have OKis_list : FnOk P w K mg base CX0 1 fis_list fdis_list ["value"] (spIsLv K) := okis_list B  Dis_list
  refine Dis_matrix.F.ok scis_matrix (fun vs H Q E h => ?_) (fun cdv A outer s H vs Q E hr h => ?_)
  · obtain ⟨w, n, rows, rfl, _⟩ := h; rfl
  · have hu := hu_of hr
    refine ⟨_, (pss_cons (ps_if (PW.pt (pw_or (pt_not (pt_val (pe_call OKis_list (hr.mono (by decide)) rfl Dis_list.m Dis_list.F.kp Dis_list.b .nil pass0 (pa_cons (pv 0) pa_nil)))) (pw_or (pt_cmpR op_eq (pe_callB call_len_seq (by rfl) B.len_ (by decide +kernel) (pa_cons (pv 0) pa_nil)) pe_int (nomark _)) (pw_or1 (pt_not (pt_val (pe_callB (cr_all rfl) (by rfl) B.all_ (by decide +kernel) (pa_cons (pe_lc (own := [("row", 1)]) (g := gName 1) (tt := tYes) rfl scis_matrix.nd (pi_seq (pv 0)) (blkOk_by (own := [("row", 1)]) (N := ["rows", "row", "width"]) (sc := defScope stis_matrix) (by decide +kernel)) (fun _ _ _ _ _ => pg_name (i := 1) scis_matrix.nd rfl (Or.inl rfl)) (fun _ _ _ _ _ => pts_nil) (fun _ _ _ _ _ => (pe_call OKis_list (hr.mono (by decide)) rfl Dis_list.m Dis_list.F.kp Dis_list.b .nil pass0 (pa_cons (pv 1) pa_nil)))) pa_nil)))))))) (pss_one (ps_ret pe_bl)) pss_nil)
    (pss_cons (ps_set (i := 2) scis_matrix.nd rfl (Or.inr rfl) (pe_callB call_len_seq (by rfl) B.len_ (by decide +kernel) (pa_cons (pe_ix (ix_seq : IxR _ (rIx K)) (pv 0) pe_int (fun _ _ => rfl)) pa_nil)))
    (pss_one (ps_ret (pe_and (pe_cmpR op_gt (pv 2) pe_int (nomark _)) (pe_one (pe_callB (cr_all rfl) (by rfl) B.all_ (by decide +kernel) (pa_cons (pe_lc (own := [("row", 1)]) (g := gName 1) (tt := tYes) rfl scis_matrix.nd (pi_seq (pv 0)) (blkOk_by (own := [("row", 1)]) (N := ["rows", "row", "width"]) (sc := defScope stis_matrix) (by decide +kernel)) (fun _ _ _ _ _ => pg_name (i := 1) scis_matrix.nd rfl (Or.inl rfl)) (fun _ _ _ _ _ => pts_nil) (fun _ _ _ _ _ => (pe_cmpR op_eq (pe_callB (call_lenK : CallR _ (.builtin "len") (rLenK K)) (by rfl) B.len_ (by decide +kernel) (pa_cons (pv 1) pa_nil)) (pv 2) (nomark _)))) pa_nil)))))))), ?_⟩
    obtain ⟨w, n, rows, rfl, hw, ne, hl, n0, hn, hm, q⟩ := h
    obtain ⟨as, W1, W2⟩ := hw
    obtain ⟨kk, sq⟩ := sq_of0 (K := K) W1
    have la := prd_len W2
    have lr : 0 < rows.length := List.length_pos_iff.mpr ne
    refine ⟨_, rfl, .ref w, rfl, .inl ⟨w, _, rfl, W1, fun H1 s1 => ⟨true, rfl, ?_⟩⟩⟩
    refine iteF ?_
    refine ⟨_, rfl, w, _, rfl, (W1.imp (fun z => SqL.of (s1 _ _ z)) fun z => SqT.of (s1 _ _ z)), rfl, _, rfl, ?_⟩
    rw [decide_eq_false (fun z => by injection z with z; rw [List.length_map] at z; omega)]
    refine iteF ?_
    refine ⟨_, rfl, w, kk, rfl, ⟨_, sq _ s1⟩, fun D hD => ?_⟩
    refine lc_seq (K := K) (a := w) (k := kk) (xs := as.map V.ref) (fun i H' => Same H1 H' ∧ H' D = some (.lst ((List.replicate i true).map V.bl))) ⟨AL.Same.new hD, upd_same⟩ (fun i H' _ hh => sq _ (s1.trans hh.1)) ?_ ?_
    · rintro i x H2 hx ⟨s2, hd⟩
      obtain ⟨a, ha, rfl⟩ := map_ref hx
      obtain ⟨r, hr, hra⟩ := prd_get W2 ha
      have il := (List.getElem?_eq_some_iff.mp hr).1
      refine ⟨rfl, ?_⟩
      refine ⟨_, rfl, .ref a, rfl, .inl ⟨a, _, rfl, hra.same (s1.trans s2), fun H3 s3 => ⟨_, s3 _ _ hd, ?_, AL.Same.updn (s2.trans s3) hD, by rw [upd_same, bl_snoc]⟩⟩⟩
      rw [List.length_map, List.length_replicate]; exact Nat.lt_of_le_of_lt (by omega : _ ≤ 1000) (by decide)
    rintro H2 ⟨s2, hd⟩
    refine ⟨D, _, rfl, SqL.of hd, _, rfl, ?_⟩
    rw [all_rep]
    refine iteF ?_
    have s12 := s1.trans s2
    obtain ⟨r0, rows', rfl⟩ : ∃ r0 rows', rows = r0 :: rows' := by
      cases rows with
      | nil => exact absurd rfl ne
      | cons r0 rows' => exact ⟨r0, rows', rfl⟩
    obtain ⟨a0, as', rfl⟩ : ∃ a0 as', as = a0 :: as' := by
      cases as with
      | nil => simp at la
      | cons a0 as' => exact ⟨a0, as', rfl⟩
    have h0 : LT H a0 r0 := by cases W2 with | cons z _ => exact z
    have l0 := hl r0 (List.mem_cons_self ..)
    generalize r0 :: rows' = rows at *
    have g0 : atI ((a0 :: as').map V.ref) 0 = some (.ref a0) := atI_of (by rw [List.length_map, List.length_cons]; omega : 0 < _)
    refine ⟨_, rfl, rIx_seq0 (W1.imp (s12 _ _) (s12 _ _)) g0 ?_⟩
    refine ⟨a0, _, rfl, (h0.same s12).seq, ?_⟩
    refine ⟨_, rfl, _, _, rfl, rfl, true, congrArg V.bl (decide_eq_true (by rw [List.length_map]; omega)), ?_⟩
    refine iteT ?_
    refine ⟨_, rfl, w, kk, rfl, ⟨_, sq _ s12⟩, fun D2 hD2 => ?_⟩
    refine lc_seq (K := K) (a := w) (k := kk) (xs := (a0 :: as').map V.ref) (fun i H' => Same H2 H' ∧ H' D2 = some (.lst ((List.replicate i true).map V.bl))) ⟨AL.Same.new hD2, upd_same⟩ (fun i H' _ hh => sq _ (s12.trans hh.1)) ?_ ?_
    · rintro i x H3 hx ⟨s3, hd3⟩
      obtain ⟨a, ha, rfl⟩ := map_ref hx
      obtain ⟨r, hr, hra⟩ := prd_get W2 ha
      have il := (List.getElem?_eq_some_iff.mp hr).1
      have lrr := hl r (List.mem_of_getElem? hr)
      refine ⟨rfl, ?_⟩
      refine ⟨_, rfl, a, _, rfl, (hra.same (s12.trans s3)).seq, _, rfl, rfl, _, hd3, ?_, AL.Same.updn s3 hD2, ?_⟩
      · rw [List.length_map, List.length_replicate]; exact Nat.lt_of_le_of_lt (by omega : _ ≤ 1000) (by decide)
      · rw [List.length_map, List.length_map, lrr, l0, decide_eq_true rfl, upd_same, bl_snoc]
    rintro H3 ⟨s3, hd3⟩
    refine ⟨D2, _, rfl, SqL.of hd3, ?_⟩
    rw [all_rep]
    exact q H3 (s12.trans s3)
end
end AL
set_option Elab.async false
set_option maxRecDepth 100000
set_option exponentiation.threshold 70000
set_option maxHeartbeats 1000000
namespace AL
open PySem PySem.Spec PyProof.Rows L2 RZ
section
variable {P : Program} {w : World} {K : PySem.W.Frag} {mg : Str → Option Value} {base : Heap}

abbrev TC := V ⊕ List V
/-- a value without a list, or a list or a tuple of such -/
def R1 (H : Hp) (v : V) : TC → Prop
  | .inl u => v = u ∧ Atom u
  | .inr xs => ∃ a, v = .ref a ∧ (H a = some (.lst xs) ∨ H a = some (.tup xs)) ∧ xs.length ≤ 100 ∧ ∀ x ∈ xs, Atom x
def Res1 (H : Hp) (y : V) : TC → Prop
  | .inl u => y = u
  | .inr xs => ∃ t, y = .ref t ∧ H t = some (.tup xs)
theorem R1.same {H H' : Hp} {v : V} {c : TC} (h : R1 H v c) (s : Same H H') : R1 H' v c := by
  cases c with
  | inl u => exact h
  | inr xs => obtain ⟨a, h1, h2, h3⟩ := h; exact ⟨a, h1, h2.imp (s _ _) (s _ _), h3⟩
theorem Res1.same {H H' : Hp} {v : V} {c : TC} (h : Res1 H v c) (s : Same H H') : Res1 H' v c := by
  cases c with
  | inl u => exact h
  | inr xs => obtain ⟨a, h1, h2⟩ := h; exact ⟨a, h1, s _ _ h2⟩
def spAs0 : Sp := fun vs H Q _ => ∃ v : V, vs = [v] ∧ Atom v ∧ ∀ H', Same H H' → Q v H'
def spAs1 : Sp := fun vs H Q _ => ∃ (v : V) (c : TC), vs = [v] ∧ R1 H v c ∧ ∀ H' y, Same H H' → Res1 H' y c → Q y H'
/-- as_tuples(value), a list or a tuple -/
def spAs2 : Sp := fun vs H Q _ => ∃ (a : Addr) (us : List V) (cs : List TC), vs = [.ref a] ∧ (H a = some (.lst us) ∨ H a = some (.tup us)) ∧ Paired (R1 H) us cs ∧ us.length ≤ 100 ∧ ∀ t H' ys, Same H H' → H' t = some (.tup ys) → Paired (Res1 H') ys cs → Q (.ref t) H'
theorem res_atoms {H : Hp} : ∀ {ys xs : List V}, Paired (Res1 H) ys (xs.map .inl) → ys = xs
  | [], [], _ => rfl
  | _ :: _, _ :: _, .cons h t => by rw [show _ = _ from h, res_atoms t]
theorem sq_of {K : PySem.W.Frag} {H : Hp} {a : Addr} {us : List V} (h : H a = some (.lst us) ∨ H a = some (.tup us)) : ∃ k, ∀ H', Same H H' → SqB K H' a us k := by
  rcases h with z | z
  · exact ⟨true, fun H' s => SqL.of (s _ _ z)⟩
  · exact ⟨false, fun H' s => SqT.of (s _ _ z)⟩

abbrev stcheck_matrix : Stmt := top 26
theorem sccheck_matrix : FnScope ["rows", "what", "row"] ["rows", "what"] (defScope stcheck_matrix) := ⟨rfl, rfl, rfl, by decide +kernel, rfl, by decide +kernel, by decide +kernel⟩
theorem okcheck_matrix (B : Blt mg)  {fis_whole : Addr} {fdis_whole : FuncData} (Dis_whole : DefAt K mg "is_whole" stis_whole ["value"] fis_whole fdis_whole) {fare_integers : Addr} {fdare_integers : FuncData} (Dare_integers : DefAt K mg "are_integers" stare_integers ["items"] fare_integers fdare_integers) {fis_list : Addr} {fdis_list : FuncData} (Dis_list : DefAt K mg "is_list" stis_list ["value"] fis_list fdis_list) {fis_matrix : Addr} {fdis_matrix : FuncData} (Dis_matrix : DefAt K mg "is_matrix" stis_matrix ["rows"] fis_matrix fdis_matrix) {fcheck_matrix : Addr} {fdcheck_matrix : FuncData} (Dcheck_matrix : DefDf [.str "rows"] K mg "check_matrix" stcheck_matrix ["rows", "what"] fcheck_matrix fdcheck_matrix) : FnOk P w K mg base CX0 3 fcheck_matrix fdcheck_matrix ["rows", "what"] spChM := by
  have OKare_integers : FnOk P w K mg base CX0 2 fare_integers fdare_integers ["items"] spAreL := okare_integers B  Dis_whole Dare_integers
  have OKis_matrix : FnOk P w K mg base CX0 2 fis_matrix fdis_matrix ["rows"] spMat := okis_matrix B  Dis_list Dis_matrix
  refine Dcheck_matrix.F.ok sccheck_matrix (fun vs H Q E h => ?_) (fun cdv A outer s H vs Q E hr h => ?_)
  · obtain ⟨w, n, rows, v, rfl, _⟩ := h; rfl
  · have hu := hu_of hr
    refine ⟨_, PSs.nox (pss_one (ps_if (PW.pt (pw_or (pt_not (pt_val (pe_call OKis_matrix (hr.mono (by decide)) rfl Dis_matrix.m Dis_matrix.F.kp Dis_matrix.b .nil pass0 (pa_cons (pv 0) pa_nil)))) (pw_or1 (pt_not (pt_val (pe_callB (cr_all rfl) (by rfl) B.all_ (by decide +kernel) (pa_cons (pe_lc (own := [("row", 2)]) (g := gName 2) (tt := tYes) rfl sccheck_matrix.nd (pi_seq (pv 0)) (blkOk_by (own := [("row", 2)]) (N := ["rows", "what", "row"]) (sc := defScope stcheck_matrix) (by decide +kernel)) (fun _ _ _ _ _ => pg_name (i := 2) sccheck_matrix.nd rfl (Or.inl rfl)) (fun _ _ _ _ _ => pts_nil) (fun _ _ _ _ _ => (pe_call OKare_integers (hr.mono (by decide)) rfl Dare_integers.m Dare_integers.F.kp Dare_integers.b .nil pass0 (pa_cons (pv 2) pa_nil)))) pa_nil))))))) (pss_one ps_never) pss_nil)), ?_⟩
    obtain ⟨w, n, rows, v, rfl, hw, ne, hl, n0, hn, hm, q⟩ := h
    obtain ⟨as, W1, W2⟩ := id hw
    obtain ⟨kk, sq⟩ := sq_of0 (K := K) W1
    have la := prd_len W2
    refine ⟨_, rfl, w, n, rows, rfl, hw, ne, hl, n0, hn, hm, fun H1 s1 => ⟨true, rfl, ?_⟩⟩
    refine iteF ?_
    refine ⟨_, rfl, w, kk, rfl, ⟨_, sq _ s1⟩, fun D hD => ?_⟩
    refine lc_seq (K := K) (a := w) (k := kk) (xs := as.map V.ref) (fun i H' => Same H1 H' ∧ H' D = some (.lst ((List.replicate i true).map V.bl))) ⟨AL.Same.new hD, upd_same⟩ (fun i H' _ hh => sq _ (s1.trans hh.1)) ?_ ?_
    · rintro i x H2 hx ⟨s2, hd⟩
      obtain ⟨a, ha, rfl⟩ := map_ref hx
      obtain ⟨r, hr, hra⟩ := prd_get W2 ha
      have il := (List.getElem?_eq_some_iff.mp hr).1
      have lrr := hl r (List.mem_of_getElem? hr)
      refine ⟨rfl, ?_⟩
      refine ⟨_, rfl, a, r, rfl, (hra.same (s1.trans s2) : LT _ a r), by omega, fun H3 s3 => ⟨_, s3 _ _ hd, ?_, AL.Same.updn (s2.trans s3) hD, by rw [upd_same, bl_snoc]⟩⟩
      rw [List.length_map, List.length_replicate]; exact Nat.lt_of_le_of_lt (by omega : _ ≤ 1000) (by decide)
    rintro H2 ⟨s2, hd⟩
    refine ⟨D, _, rfl, SqL.of hd, _, rfl, ?_⟩
    rw [all_rep]
    refine iteF ?_
    exact q H2 (s1.trans s2)
abbrev stas_tuples0 : Stmt := top 17
theorem scas_tuples0 : FnScope ["value", "item"] ["value"] (defScope stas_tuples0) := ⟨rfl, rfl, rfl, by decide +kernel, rfl, by decide +kernel, by decide +kernel⟩
theorem okas_tuples0 (B : Blt mg)  {fis_list : Addr} {fdis_list : FuncData} (Dis_list : DefAt K mg "is_list" stis_list ["value"] fis_list fdis_list) {fas_tuples0 : Addr} {fdas_tuples0 : FuncData} (Das_tuples0 : DefAt K mg "as_tuples" stas_tuples0 ["value"] fas_tuples0 fdas_tuples0) : FnOk P w K mg base CX0 2 fas_tuples0 fdas_tuples0 ["value"] spAs0 := by
  have OKFF : FnOk P w K mg base CX0 1 fas_tuples0 fdas_tuples0 ["value"] (fun _ _ _ _ => False) := Das_tuples0.F.ok scas_tuples0 (fun vs H Q E h => h.elim) (fun cdv A outer s H vs Q E hr h => h.elim)
  have OKis_list : FnOk P w K mg base CX0 1 fis_list fdis_list ["value"] (spIsLv K) := okis_list B  Dis_list
  refine Das_tuples0.F.ok scas_tuples0 (fun vs H Q E h => ?_) (fun cdv A outer s H vs Q E hr h => ?_)
  · obtain ⟨v, rfl, _⟩ := h; rfl
  · have hu := hu_of hr
    refine ⟨_, (pss_cons (ps_if (pt_val (pe_call OKis_list (hr.mono (by decide)) rfl Dis_list.m Dis_list.F.kp Dis_list.b .nil pass0 (pa_cons (pv 0) pa_nil))) (pss_one (ps_ret (pe_callTy (call_tupK : CallR _ _ (rTup K)) (by rfl) B.tuple_ (by decide +kernel) (pa_cons (pe_lc (own := [("item", 1)]) (g := gName 1) (tt := tYes) rfl scas_tuples0.nd (pi_seq (pv 0)) (blkOk_by (own := [("item", 1)]) (N := ["value", "item"]) (sc := defScope stas_tuples0) (by decide +kernel)) (fun _ _ _ _ _ => pg_name (i := 1) scas_tuples0.nd rfl (Or.inl rfl)) (fun _ _ _ _ _ => pts_nil) (fun _ _ _ _ _ => (pe_call OKFF (hr.mono (by decide)) rfl Das_tuples0.m Das_tuples0.F.kp Das_tuples0.b .nil pass0 (pa_cons (pv 1) pa_nil)))) pa_nil)))) pss_nil)
    (pss_one (ps_ret (pv 0)))), ?_⟩
    obtain ⟨v, rfl, av, q⟩ := h
    refine ⟨_, rfl, v, rfl, .inr ⟨av, fun H1 s1 => ⟨_, rfl, ?_⟩⟩⟩
    refine iteF ?_
    exact ⟨_, rfl, q _ s1⟩
abbrev stas_tuples1 : Stmt := top 17
theorem scas_tuples1 : FnScope ["value", "item"] ["value"] (defScope stas_tuples1) := ⟨rfl, rfl, rfl, by decide +kernel, rfl, by decide +kernel, by decide +kernel⟩
theorem okas_tuples1 (B : Blt mg)  {fis_list : Addr} {fdis_list : FuncData} (Dis_list : DefAt K mg "is_list" stis_list ["value"] fis_list fdis_list) {fas_tuples0 : Addr} {fdas_tuples0 : FuncData} (Das_tuples0 : DefAt K mg "as_tuples" stas_tuples0 ["value"] fas_tuples0 fdas_tuples0) {fas_tuples1 : Addr} {fdas_tuples1 : FuncData} (Das_tuples1 : DefAt K mg "as_tuples" stas_tuples1 ["value"] fas_tuples1 fdas_tuples1) : FnOk P w K mg base CX0 3 fas_tuples1 fdas_tuples1 ["value"] spAs1 := by
  have OKas_tuples0 : FnOk P w K mg base CX0 2 fas_tuples0 fdas_tuples0 ["value"] spAs0 := okas_tuples0 B  Dis_list Das_tuples0
  have OKis_list : FnOk P w K mg base CX0 1 fis_list fdis_list ["value"] (spIsLv K) := okis_list B  Dis_list
  refine Das_tuples1.F.ok scas_tuples1 (fun vs H Q E h => ?_) (fun cdv A outer s H vs Q E hr h => ?_)
  · obtain ⟨v, c, rfl, _⟩ := h; rfl
  · have hu := hu_of hr
    refine ⟨_, (pss_cons (ps_if (pt_val (pe_call OKis_list (hr.mono (by decide)) rfl Dis_list.m Dis_list.F.kp Dis_list.b .nil pass0 (pa_cons (pv 0) pa_nil))) (pss_one (ps_ret (pe_callTy (call_tupK : CallR _ _ (rTup K)) (by rfl) B.tuple_ (by decide +kernel) (pa_cons (pe_lc (own := [("item", 1)]) (g := gName 1) (tt := tYes) rfl scas_tuples1.nd (pi_seq (pv 0)) (blkOk_by (own := [("item", 1)]) (N := ["value", "item"]) (sc := defScope stas_tuples1) (by decide +kernel)) (fun _ _ _ _ _ => pg_name (i := 1) scas_tuples1.nd rfl (Or.inl rfl)) (fun _ _ _ _ _ => pts_nil) (fun _ _ _ _ _ => (pe_call OKas_tuples0 (hr.mono (by decide)) rfl Das_tuples0.m Das_tuples0.F.kp Das_tuples0.b .nil pass0 (pa_cons (pv 1) pa_nil)))) pa_nil)))) pss_nil)
    (pss_one (ps_ret (pv 0)))), ?_⟩
    obtain ⟨v, c, rfl, rv, q⟩ := h
    cases c with
    | inl u =>
      obtain ⟨rfl, av⟩ := rv
      refine ⟨_, rfl, v, rfl, .inr ⟨av, fun H1 s1 => ⟨_, rfl, ?_⟩⟩⟩
      refine iteF ?_
      exact ⟨_, rfl, q _ _ s1 rfl⟩
    | inr us =>
      obtain ⟨a, rfl, ha, lu, au⟩ := rv
      refine ⟨_, rfl, .ref a, rfl, .inl ⟨a, us, rfl, ha, fun H1 s1 => ⟨true, rfl, ?_⟩⟩⟩
      refine iteT ?_
      obtain ⟨k, sq⟩ := sq_of (K := K) ha
      refine ⟨_, rfl, a, k, rfl, ⟨_, sq _ s1⟩, fun D hD => ?_⟩
      refine lc_seq (K := K) (k := k) (a := a) (xs := us) (fun i H' => Same H1 H' ∧ H' D = some (.lst (us.take i))) ⟨AL.Same.new hD, upd_same⟩ (fun i H' _ hh => sq _ (s1.trans hh.1)) ?_ ?_
      · rintro i x H2 hx ⟨s2, hd⟩
        have il := (List.getElem?_eq_some_iff.mp hx).1
        refine ⟨rfl, ?_⟩
        refine ⟨_, rfl, x, rfl, au x (List.mem_of_getElem? hx), fun H3 s3 => ⟨_, s3 _ _ hd, ?_, AL.Same.updn (s2.trans s3) hD, ?_⟩⟩
        · rw [List.length_take]; exact Nat.lt_of_le_of_lt (by omega : _ ≤ 1000) (by decide)
        · rw [upd_same, List.take_add_one, hx]; rfl
      rintro H2 ⟨s2, hd⟩
      rw [List.take_length] at hd
      refine ⟨D, _, rfl, .inl ⟨SqL.of hd, fun t ht => ?_⟩⟩
      exact q _ _ (s1.trans (s2.trans (AL.Same.new ht))) ⟨t, rfl, upd_same⟩
abbrev stas_tuples : Stmt := top 17
theorem scas_tuples : FnScope ["value", "item"] ["value"] (defScope stas_tuples) := ⟨rfl, rfl, rfl, by decide +kernel, rfl, by decide +kernel, by decide +kernel⟩
theorem okas_tuples (B : Blt mg)  {fis_list : Addr} {fdis_list : FuncData} (Dis_list : DefAt K mg "is_list" stis_list ["value"] fis_list fdis_list) {fas_tuples0 : Addr} {fdas_tuples0 : FuncData} (Das_tuples0 : DefAt K mg "as_tuples" stas_tuples0 ["value"] fas_tuples0 fdas_tuples0) {fas_tuples1 : Addr} {fdas_tuples1 : FuncData} (Das_tuples1 : DefAt K mg "as_tuples" stas_tuples1 ["value"] fas_tuples1 fdas_tuples1) {fas_tuples : Addr} {fdas_tuples : FuncData} (Das_tuples : DefAt K mg "as_tuples" stas_tuples ["value"] fas_tuples fdas_tuples) : FnOk P w K mg base CX0 4 fas_tuples fdas_tuples ["value"] spAs2 := by
  have OKas_tuples1 : FnOk P w K mg base CX0 3 fas_tuples1 fdas_tuples1 ["value"] spAs1 := okas_tuples1 B  Dis_list Das_tuples0 Das_tuples1
  have OKis_list : FnOk P w K mg base CX0 1 fis_list fdis_list ["value"] (spIsLv K) := okis_list B  Dis_list
  refine Das_tuples.F.ok scas_tuples (fun vs H Q E h => ?_) (fun cdv A outer s H vs Q E hr h => ?_)
  · obtain ⟨a, us, cs, rfl, _⟩ := h; rfl
  · have hu := hu_of hr
    refine ⟨_, (pss_cons (ps_if (pt_val (pe_call OKis_list (hr.mono (by decide)) rfl Dis_list.m Dis_list.F.kp Dis_list.b .nil pass0 (pa_cons (pv 0) pa_nil))) (pss_one (ps_ret (pe_callTy (call_tupK : CallR _ _ (rTup K)) (by rfl) B.tuple_ (by decide +kernel) (pa_cons (pe_lc (own := [("item", 1)]) (g := gName 1) (tt := tYes) rfl scas_tuples.nd (pi_seq (pv 0)) (blkOk_by (own := [("item", 1)]) (N := ["value", "item"]) (sc := defScope stas_tuples) (by decide +kernel)) (fun _ _ _ _ _ => pg_name (i := 1) scas_tuples.nd rfl (Or.inl rfl)) (fun _ _ _ _ _ => pts_nil) (fun _ _ _ _ _ => (pe_call OKas_tuples1 (hr.mono (by decide)) rfl Das_tuples1.m Das_tuples1.F.kp Das_tuples1.b .nil pass0 (pa_cons (pv 1) pa_nil)))) pa_nil)))) pss_nil)
    (pss_one (ps_ret (pv 0)))), ?_⟩
    obtain ⟨a, us, cs, rfl, ha, pr, lu, q⟩ := h
    have lc := prd_len pr
    
    refine ⟨_, rfl, .ref a, rfl, .inl ⟨a, us, rfl, ha, fun H1 s1 => ⟨true, rfl, ?_⟩⟩⟩
    refine iteT ?_
    obtain ⟨k, sq⟩ := sq_of (K := K) ha
    refine ⟨_, rfl, a, k, rfl, ⟨_, sq _ s1⟩, fun D hD => ?_⟩
    
    refine lc_seq (K := K) (k := k) (a := a) (xs := us) (fun i H' => Same H1 H' ∧ ∃ ys, H' D = some (.lst ys) ∧ Paired (Res1 H') ys (cs.take i)) ⟨AL.Same.new hD, [], upd_same, .nil⟩ (fun i H' _ hh => sq _ (s1.trans hh.1)) ?_ ?_
    · rintro i x H2 hx ⟨s2, ys, hd, py⟩
      have il := (List.getElem?_eq_some_iff.mp hx).1
      obtain ⟨c, hc, rx⟩ := prd_get pr hx
      have ly := prd_len py
      rw [List.length_take] at ly
      refine ⟨rfl, ?_⟩
      refine ⟨_, rfl, x, c, rfl, rx.same (s1.trans s2), fun H3 y s3 ry => ⟨_, s3 _ _ hd, Nat.lt_of_le_of_lt (by omega : _ ≤ 1000) (by decide), AL.Same.updn (s2.trans s3) hD, ys ++ [y], upd_same, ?_⟩⟩
      have tu := upd_tups (o := .lst (ys ++ [y])) (s3 _ _ hd) (fun _ z => nomatch z)
      have rt : ∀ {v : V} {c : TC}, Res1 H3 v c → Res1 (upd H3 D (.lst (ys ++ [y]))) v c := fun {v c} h => by
        cases c with
        | inl u => exact h
        | inr xs => obtain ⟨t, h1, h2⟩ := h; exact ⟨t, h1, tu _ _ h2⟩
      rw [List.take_add_one, hc]
      exact prd_snoc (paired_mono py fun _ _ z => rt (z.same s3)) (rt ry)
    rintro H2 ⟨s2, ys, hd, py⟩
    rw [List.take_of_length_le (by omega)] at py
    refine ⟨D, _, rfl, .inl ⟨SqL.of hd, fun t ht => ?_⟩⟩
    have nt := AL.Same.new (o := .tup ys) ht
    exact q t _ ys (s1.trans (s2.trans nt)) upd_same (paired_mono py fun _ _ z => z.same nt)
end
end AL
set_option Elab.async false
set_option maxRecDepth 100000
set_option exponentiation.threshold 70000
set_option maxHeartbeats 1000000
namespace AL
open PySem PySem.Spec PyProof.Rows L2 RZ
section
variable {P : Program} {w : World} {K : PySem.W.Frag} {mg : Str → Option Value} {base : Heap}

/-- _law_inner(row, column) -/
def dotI (ns es : List Int) : Int := (List.zipWith (· * ·) ns es).sum
def spInn : Sp := fun vs H Q _ => ∃ (r k : Addr) (ns es : List Int), vs = [.ref r, .ref k] ∧ LT H r ns ∧ LT H k es ∧ ns.length = es.length ∧ es.length ≤ 60 ∧ (∀ x ∈ ns, x.natAbs < 2 ^ 4100) ∧ (∀ x ∈ es, x.natAbs < 2 ^ 4100) ∧ ∀ H', Same H H' → Q (.int (dotI ns es)) H'

abbrev st_law_inner : Stmt := top 37
theorem sc_law_inner : FnScope ["_law_row", "_law_column", "_law_one", "_law_two"] ["_law_row", "_law_column"] (defScope st_law_inner) := ⟨rfl, rfl, rfl, by decide +kernel, rfl, by decide +kernel, by decide +kernel⟩
theorem ok_law_inner (B : Blt mg)  {f_law_inner : Addr} {fd_law_inner : FuncData} (D_law_inner : DefAt K mg "_law_inner" st_law_inner ["_law_row", "_law_column"] f_law_inner fd_law_inner) : FnOk P w K mg base CX0 1 f_law_inner fd_law_inner ["_law_row", "_law_column"] spInn := by
  refine D_law_inner.F.ok sc_law_inner (fun vs H Q E h => ?_) (fun cdv A outer s H vs Q E hr h => ?_)
  · obtain ⟨r, k, ns, es, rfl, _⟩ := h; rfl
  · have hu := hu_of hr
    refine ⟨_, (pss_one (ps_ret (pe_callB (cr_sum rfl) (by rfl) B.sum_ (by decide +kernel) (pa_cons (pe_lc (own := [("_law_one", 2), ("_law_two", 3)]) (g := (gTup K 2 (gCons (gName 2) (gCons (gName 3) gNil)))) (tt := tYes) rfl sc_law_inner.nd (pi_zipB (by rfl) B.zip_ (pa_cons (pv 0) (pa_cons (pv 1) pa_nil))) (blkOk_by (own := [("_law_one", 2), ("_law_two", 3)]) (N := ["_law_row", "_law_column", "_law_one", "_law_two"]) (sc := defScope st_law_inner) (by decide +kernel)) (fun _ _ _ _ _ => (pg_tup rfl (pgs_cons (pg_name (i := 2) sc_law_inner.nd rfl (Or.inl rfl)) (pgs_cons (pg_name (i := 3) sc_law_inner.nd rfl (Or.inl rfl)) pgs_nil)))) (fun _ _ _ _ _ => pts_nil) (fun _ _ _ _ _ => (pe_op op_mulW (pv 2) (pv 3)))) pa_nil)))), ?_⟩
    obtain ⟨r, k, ns, es, rfl, hr, hk, hl, le, b1, b2, q⟩ := h
    obtain ⟨kb, hb⟩ := hr.sqb (K := K)
    obtain ⟨kb2, hb2⟩ := hk.sqb (K := K)
    refine ⟨_, rfl, _, rfl, r, k, kb, kb2, _, _, rfl, hb, hb2, fun D hD => ?_⟩
    refine lc_it (walk_zipB (K := K) (a := r) (b := k) (k := kb) (l := kb2) (xs := ns.map V.int) (ys := es.map V.int) (n := ns.length) (by rw [List.length_map, List.length_map]; omega)) (fun i H' => Same H H' ∧ H' D = some (.lst (((List.zipWith (· * ·) ns es).take i).map V.int))) ⟨AL.Same.new hD, upd_same⟩ (fun i H' _ hh => ⟨sqB_same7 hb hh.1, sqB_same7 hb2 hh.1⟩) ?_ ?_
    · rintro i x0 H0 H1' hi ⟨s0, hd0⟩ ⟨T0, u1, u2, rfl, hT, rfl, e1, e2⟩
      obtain ⟨z1, c1, rfl⟩ := map_int e1
      obtain ⟨z2, c2, rfl⟩ := map_int e2
      have hDT : D ≠ T0 := fun z => by rw [z, hT] at hd0; cases hd0
      have sT : Same H (upd H0 T0 (.tup [.int z1, .int z2])) := s0.trans (AL.Same.new hT)
      refine ⟨T0, _, rfl, SqT.of upd_same, rfl, _, _, rfl, _, _, rfl, rfl, rfl, ?_⟩
      refine ⟨_, rfl, _, rfl, _, _, rfl, rfl, wide_mul (a := 4100) (b := 4100) (b1 _ (List.mem_of_getElem? c1)) (b2 _ (List.mem_of_getElem? c2)) (by decide) (by decide) (by decide), _, Eq.trans (upd_ne hDT) hd0, ?_, AL.Same.updn sT hD, ?_⟩
      · rw [List.length_map, List.length_take]
        exact Nat.lt_of_le_of_lt (by omega : _ ≤ 100) (by decide)
      · rw [upd_same, List.take_add_one, List.getElem?_zipWith, c1, c2]
        simp
    · rintro H3 ⟨s3, hd3⟩
      rw [List.take_of_length_le (by rw [List.length_zipWith]; omega)] at hd3
      exact ⟨D, _, rfl, SqL.of hd3, q H3 s3⟩
abbrev st_law_unit : Stmt := top 39
theorem sc_law_unit : FnScope ["_law_many", "_law_k", "_law_j"] ["_law_many"] (defScope st_law_unit) := ⟨rfl, rfl, rfl, by decide +kernel, rfl, by decide +kernel, by decide +kernel⟩
theorem ok_law_unit (B : Blt mg)  {f_law_unit : Addr} {fd_law_unit : FuncData} (D_law_unit : DefAt K mg "_law_unit" st_law_unit ["_law_many"] f_law_unit fd_law_unit) : FnOk P w K mg base CX0 1 f_law_unit fd_law_unit ["_law_many"] spId := by
  refine D_law_unit.F.ok sc_law_unit (fun vs H Q E h => ?_) (fun cdv A outer s H vs Q E hr h => ?_)
  · obtain ⟨n, rfl, _⟩ := h; rfl
  · have hu := hu_of hr
    refine ⟨_, (pss_one (ps_ret (pe_lc (own := [("_law_k", 1)]) (g := gName 1) (tt := tYes) rfl sc_law_unit.nd (pi_range1 rfl B.range_ (pa_cons (pv 0) pa_nil)) (blkOk_by (own := [("_law_k", 1)]) (N := ["_law_many", "_law_k", "_law_j"]) (by kernel_rfl)) (fun _ _ _ _ _ => (pg_name (i := 1) sc_law_unit.nd rfl (Or.inr rfl))) (fun _ _ _ _ _ => pts_nil) (fun _ _ _ _ _ => (pe_lc (own := [("_law_j", 2)]) (g := gName 2) (tt := tYes) rfl sc_law_unit.nd (pi_range1 rfl B.range_ (pa_cons (pv 0) pa_nil)) (blkOk_by (own := [("_law_j", 2)]) (N := ["_law_many", "_law_k", "_law_j"]) (by kernel_rfl)) (fun _ _ _ _ _ => (pg_name (i := 2) sc_law_unit.nd rfl (Or.inl rfl))) (fun _ _ _ _ _ => pts_nil) (fun _ _ _ _ _ => (pe_callTy call_int1 (by rfl) B.int_ (by decide +kernel) (pa_cons (pe_cmpR op_eq (pv 2) (pv 1) (nomark _)) pa_nil)))))))), ?_⟩
    obtain ⟨n, rfl, hn, q⟩ := h
    refine ⟨_, rfl, _, rfl, by omega, by omega, fun D hD => ?_⟩
    refine lc_range (lo := 0) (n := ((n : Int)).toNat) (fun i H' => Same H H' ∧ ∃ as : List Addr, H' D = some (.lst (as.map V.ref)) ∧ Paired (fun a r => a ≠ D ∧ H' a = some (.lst (r.map V.int))) as ((idM n).take i)) ⟨AL.Same.new hD, [], upd_same, .nil⟩ ?_ ?_
    · rintro i H1 hi ⟨s1, as, hd, pr⟩
      rw [Int.toNat_natCast] at hi
      refine ⟨rfl, ?_⟩
      refine ⟨_, rfl, _, rfl, by omega, by omega, fun D2 hD2 => ?_⟩
      refine lc_range (lo := 0) (n := ((n : Int)).toNat) (fun j H' => Same H1 H' ∧ H' D2 = some (.lst (((unitR n i).take j).map V.int))) ⟨AL.Same.new hD2, upd_same⟩ ?_ ?_
      · rintro j H2 hj ⟨s2, hd2⟩
        rw [Int.toNat_natCast] at hj
        refine ⟨rfl, ?_⟩
        have g : (unitR n i)[j]? = some (if j = i then 1 else 0) := by unfold unitR; rw [List.getElem?_map, List.getElem?_range hj]; rfl
        have put : ∀ v : Int, v = (if j = i then 1 else 0) → ∃ acc, H2 D2 = some (.lst acc) ∧ acc.length < sizeLine ∧ Same H1 (upd H2 D2 (.lst (acc ++ [.int v]))) ∧ upd H2 D2 (.lst (acc ++ [.int v])) D2 = some (.lst (((unitR n i).take (j + 1)).map V.int)) := fun v hv => by
          refine ⟨_, hd2, ?_, AL.Same.updn s2 hD2, ?_⟩
          · rw [List.length_map, List.length_take]; exact Nat.lt_of_le_of_lt (by omega : _ ≤ 1000) (by decide)
          · rw [upd_same, List.take_add_one, g, hv, List.map_append]; rfl
        refine ⟨_, rfl, _, rfl, rfl, .inr ⟨_, rfl, ?_⟩⟩
        by_cases e : j = i
        · rw [decide_eq_true (by rw [e])]
          exact put _ (by rw [if_pos e]; rfl)
        · rw [decide_eq_false (fun z => e (by injection z with z; omega))]
          exact put _ (by rw [if_neg e]; rfl)
      · rintro H2 ⟨s2, hd2⟩
        rw [List.take_of_length_le (by rw [unitR_len, Int.toNat_natCast]; exact Nat.le_refl _)] at hd2
        have bD : D2 ≠ D := fun z => by rw [z, hd] at hD2; cases hD2
        have la := prd_len pr
        rw [List.length_take] at la
        obtain ⟨r1, r2⟩ := rowsZ_snoc (s2 _ _ hd) (paired_mono pr fun _ _ z => ⟨z.1, s2 _ _ z.2⟩) bD hd2
        refine ⟨_, s2 _ _ hd, ?_, AL.Same.updn (s1.trans s2) hD, as ++ [D2], r1, ?_⟩
        · rw [List.length_map]; exact Nat.lt_of_le_of_lt (by omega : _ ≤ 1000) (by decide)
        · have g : (idM n)[i]? = some (unitR n i) := by unfold idM; rw [List.getElem?_map, List.getElem?_range hi]; rfl
          rw [List.take_add_one, g]
          exact r2
    rintro H1 ⟨s1, as, hd, pr⟩
    rw [Int.toNat_natCast, List.take_of_length_le (by rw [idM_len]; exact Nat.le_refl _)] at pr
    exact q D H1 hD s1 ⟨as, hd, paired_mono pr fun _ _ z => z.2⟩
end
end AL
set_option Elab.async false
set_option linter.all false
set_option maxRecDepth 100000
/-! finer sizes: any bound of the minors serves -/
namespace AL
/-- all minors of at most n rows are small -/
def Mn (n C : Nat) (rows : List Rw) : Prop := ∀ (G : List Fn) (P : List Nat), (∀ g ∈ G, g ∈ vR rows) → G.length ≤ n → (det G P).natAbs ≤ C
theorem Mn.sub {n C : Nat} {rows more : List Rw} (h : Mn n C rows) (k : ∀ r ∈ more, r ∈ rows) : Mn n C more := fun G P hG l => h G P (fun g hg => by
  obtain ⟨q, hq, rfl⟩ := List.mem_map.mp (hG g hg)
  exact List.mem_map.mpr ⟨q, k q hq, rfl⟩) l
structure EchC (W C n : Nat) (rows F : List Rw) : Prop where
  E : Ech W F
  lr : ∀ r ∈ rows, r.length = W
  to : ∀ f ∈ F, Lat (inR rows) (vl f)
  fro : ∀ r ∈ rows, Lat (inR F) (vl r)
  mn : Mn n C rows
  ln : F.length ≤ n
theorem EchC.minor {W C n : Nat} {rows F : List Rw} (h : EchC W C n rows F) : ∃ G : List Fn, (∀ g ∈ G, g ∈ vR rows) ∧ G.length = F.length ∧ det G (F.map piv) ≠ 0 ∧ ∀ P, (det G P).natAbs ≤ C := by
  have : ∃ G : List Fn, (∀ g ∈ G, g ∈ vR rows) ∧ G.length = F.length ∧ det G (F.map piv) ≠ 0 := Classical.byContradiction fun c => by
    refine ech_det h.E ?_
    refine minor_sub (rows := rows) (N := F.length) (X := vR F) (G := []) (P := F.map piv) (fun G hg l => Classical.byContradiction fun w => c ⟨G, hg, l, w⟩) (fun g hg => nomatch hg) (fun x hx => ?_) (by simp)
    obtain ⟨f, hf, rfl⟩ := List.mem_map.mp hx
    exact spn_in.mpr (h.to f hf).spn
  obtain ⟨G, h1, h2, h3⟩ := this
  exact ⟨G, h1, h2, h3, fun P => h.mn G P h1 (by rw [h2]; exact h.ln)⟩
theorem EchC.pdvd {W C n : Nat} {rows F : List Rw} (h : EchC W C n rows F) {G : List Fn} (h1 : ∀ g ∈ G, g ∈ vR rows) {f : Rw} (hf : f ∈ F) : vl f (piv f) ∣ det G (F.map piv) := by
  obtain ⟨F1, F2, e⟩ := List.append_of_mem hf
  have eP : F.map piv = F1.map piv ++ piv f :: F2.map piv := by rw [e, List.map_append]; rfl
  have w : Lat (inR F) fun c => det G (F1.map piv ++ c :: F2.map piv) := by
    refine (det_at G (F1.map piv) (F2.map piv)).trans fun y hy => ?_
    obtain ⟨q, hq, rfl⟩ := List.mem_map.mp (h1 y hy)
    exact h.fro q hq
  have dv := ech_dvd h.E w hf fun g hg lt => by
    have g1 : g ∈ F1 := by
      rw [e] at hg
      rcases List.mem_append.mp hg with m | m
      · exact m
      · have as := h.E.asc
        rw [e] at as
        rcases List.mem_cons.mp m with rfl | m
        · omega
        · have := (List.pairwise_cons.mp (List.pairwise_append.mp as).2.1).1 g m
          omega
    obtain ⟨A, C, eA⟩ := List.append_of_mem g1
    rw [eA, List.map_append, List.append_assoc]
    exact det_ctwo G (piv g) (F2.map piv) (C.map piv) (A.map piv)
  rw [← eP] at dv
  exact dv
theorem EchC.pivot {W C n : Nat} {rows F : List Rw} (h : EchC W C n rows F) {f : Rw} (hf : f ∈ F) : (vl f (piv f)).natAbs ≤ C := by
  obtain ⟨G, h1, h2, h3, h4⟩ := h.minor
  exact Nat.le_trans (Nat.le_of_dvd (by omega) (Int.natAbs_dvd_natAbs.mpr (h.pdvd h1 hf))) (h4 _)
/-- what hangs and is no greater at the pivots than the rows there is small -/
theorem EchC.item {W C n : Nat} {rows F : List Rw} (h : EchC W C n rows F) {x : Fn} (hx : Spn (inR F) x) (z : ∀ f ∈ F, (x (piv f)).natAbs ≤ (vl f (piv f)).natAbs) (c : Nat) : (x c).natAbs ≤ n * C := by
  obtain ⟨G, h1, h2, h3, h4⟩ := h.minor
  have d0 : det (x :: G) (c :: F.map piv) = 0 := by
    refine det_many (F := vR F) (X := x :: G) (G := []) _ (fun g hg => nomatch hg) (fun y hy => ?_) (by simp; omega)
    rcases List.mem_cons.mp hy with rfl | hy
    · exact spn_in.mpr hx
    · obtain ⟨q, hq, rfl⟩ := List.mem_map.mp (h1 y hy)
      exact spn_in.mpr (h.fro q hq).spn
  have e : det (x :: G) (c :: F.map piv) = x c * det G (F.map piv) - exq x (fun Q => det G (c :: Q)) (F.map piv) := rfl
  rw [e] at d0
  have b := exq_bd (r := x) (B := (det G (F.map piv)).natAbs) (C := C) (P := F.map piv) (F := fun Q => det G (c :: Q)) (fun p hp => by
    obtain ⟨f, hf, rfl⟩ := List.mem_map.mp hp
    exact Nat.le_trans (z f hf) (Nat.le_of_dvd (by omega) (Int.natAbs_dvd_natAbs.mpr (h.pdvd h1 hf)))) fun Q _ _ => h4 _
  rw [List.length_map] at b
  have e2 : (x c).natAbs * (det G (F.map piv)).natAbs = (exq x (fun Q => det G (c :: Q)) (F.map piv)).natAbs := by
    rw [← Int.natAbs_mul, show x c * det G (F.map piv) = exq x (fun Q => det G (c :: Q)) (F.map piv) by omega]
  have p0 : 0 < (det G (F.map piv)).natAbs := by omega
  have h6 : F.length * C ≤ n * C := Nat.mul_le_mul_right _ h.ln
  rw [← e2, Nat.mul_left_comm, Nat.mul_comm] at b
  exact Nat.le_trans (Nat.le_of_mul_le_mul_left b p0) h6
theorem facB_mn {B n : Nat} {rows : List Rw} (hB : ∀ r ∈ rows, ∀ v ∈ r, v.natAbs ≤ B) (B1 : 1 ≤ B) : Mn n (facB B n) rows := fun G P h1 l => by
  refine Nat.le_trans (det_bd (B := B) fun r hr p _ => ?_) (facB_mono B1 l)
  obtain ⟨q, hq, rfl⟩ := List.mem_map.mp (h1 r hr)
  by_cases d : p < q.length
  · exact hB q hq _ (vl_mem d)
  · rw [vl_out (by omega)]; exact Nat.zero_le _
/-! minors by the sums of the columns -/
def colS (G : List Fn) (c : Nat) : Nat := (G.map fun g => (g c).natAbs).foldr (· + ·) 0
def prS (s : Nat → Nat) : List Nat → Nat
  | [] => 1
  | p :: P => s p * prS s P
theorem prS_mono {s t : Nat → Nat} (h : ∀ c, s c ≤ t c) : ∀ P, prS s P ≤ prS t P
  | [] => Nat.le_refl _
  | p :: P => Nat.mul_le_mul (h p) (prS_mono h P)
theorem exq_col {r : Fn} {s : Nat → Nat} : ∀ {P : List Nat} {F : List Nat → Int} {K : Nat}, (∀ Q, (F Q).natAbs ≤ K * prS s Q) → (exq r F P).natAbs ≤ K * prS (fun c => (r c).natAbs + s c) P
  | [], F, K, h => by show Int.natAbs 0 ≤ _; exact Nat.zero_le _
  | p :: P, F, K, h => by
    show (r p * F P - exq r (fun Q => F (p :: Q)) P).natAbs ≤ K * (((r p).natAbs + s p) * prS (fun c => (r c).natAbs + s c) P)
    have i := exq_col (r := r) (s := s) (P := P) (F := fun Q => F (p :: Q)) (K := K * s p) fun Q => by rw [Nat.mul_assoc]; exact h (p :: Q)
    have m := prS_mono (s := s) (t := fun c => (r c).natAbs + s c) (fun c => Nat.le_add_left _ _) P
    have a : (r p * F P).natAbs ≤ (r p).natAbs * (K * prS (fun c => (r c).natAbs + s c) P) := by
      rw [Int.natAbs_mul]
      exact Nat.mul_le_mul_left _ (Nat.le_trans (h P) (Nat.mul_le_mul_left _ m))
    have e : K * (((r p).natAbs + s p) * prS (fun c => (r c).natAbs + s c) P) = (r p).natAbs * (K * prS (fun c => (r c).natAbs + s c) P) + K * s p * prS (fun c => (r c).natAbs + s c) P := by
      rw [Nat.add_mul, Nat.mul_add, Nat.mul_left_comm, Nat.mul_assoc]
    omega
theorem det_cols : ∀ (G : List Fn) (P : List Nat), (det G P).natAbs ≤ prS (colS G) P
  | [], [] => Nat.le_refl _
  | [], _ :: _ => Nat.zero_le _
  | r :: R, P => by
    have i := exq_col (r := r) (s := colS R) (P := P) (F := det R) (K := 1) fun Q => by rw [Nat.one_mul]; exact det_cols R Q
    rw [Nat.one_mul] at i
    exact i
theorem colS_le {G : List Fn} {c B : Nat} (h : ∀ g ∈ G, (g c).natAbs ≤ B) : colS G c ≤ G.length * B := by
  induction G with
  | nil => exact Nat.zero_le _
  | cons g G ih =>
    have i := ih fun g' hg => h g' (List.mem_cons_of_mem _ hg)
    have j := h g (List.mem_cons_self ..)
    show (g c).natAbs + colS G c ≤ (G.length + 1) * B
    rw [Nat.add_mul, Nat.one_mul]; omega
theorem colS_zero {G : List Fn} {c : Nat} (h : ∀ g ∈ G, g c = 0) : colS G c = 0 := by
  have := colS_le (G := G) (c := c) (B := 0) fun g hg => by rw [h g hg]; exact Nat.le_refl _
  omega
theorem colS_one {G : List Fn} {c : Nat} (nd : G.Nodup) (h1 : ∀ g ∈ G, (g c).natAbs ≤ 1) (h2 : ∀ g ∈ G, ∀ g' ∈ G, g c ≠ 0 → g' c ≠ 0 → g = g') : colS G c ≤ 1 := by
  induction G with
  | nil => exact Nat.zero_le _
  | cons g G ih =>
    obtain ⟨n1, n2⟩ := List.nodup_cons.mp nd
    have i := ih n2 (fun g' hg => h1 g' (List.mem_cons_of_mem _ hg)) (fun x hx y hy => h2 x (List.mem_cons_of_mem _ hx) y (List.mem_cons_of_mem _ hy))
    have j := h1 g (List.mem_cons_self ..)
    show (g c).natAbs + colS G c ≤ 1
    by_cases z : g c = 0
    · rw [z]; simpa using i
    · have : colS G c = 0 := colS_zero fun g' hg => Classical.byContradiction fun w => by
        have := h2 g (List.mem_cons_self ..) g' (List.mem_cons_of_mem _ hg) z w
        subst this; exact n1 hg
      omega
theorem prS_few {s : Nat → Nat} {D : Nat} (D1 : 1 ≤ D) {n : Nat} : ∀ {P : List Nat}, (∀ c ∈ P, s c ≤ if c < n then D else 1) → prS s P ≤ D ^ (P.filter fun c => decide (c < n)).length
  | [], _ => Nat.le_refl _
  | p :: P, h => by
    have i := prS_few (P := P) D1 (fun c hc => h c (List.mem_cons_of_mem _ hc))
    have j := h p (List.mem_cons_self ..)
    show s p * prS s P ≤ _
    rw [List.filter_cons]
    by_cases c : p < n
    · rw [if_pos c] at j
      rw [if_pos (by exact decide_eq_true c), List.length_cons, Nat.pow_succ, Nat.mul_comm]
      exact Nat.mul_le_mul i j
    · rw [if_neg c] at j
      rw [if_neg (by simpa using c)]
      have := Nat.mul_le_mul j i
      omega
theorem cols_few {G : List Fn} {n D : Nat} (D1 : 1 ≤ D) (h : ∀ c, colS G c ≤ if c < n then D else 1) (P : List Nat) : (det G P).natAbs ≤ D ^ n := by
  by_cases nd : P.Nodup
  · refine Nat.le_trans (Nat.le_trans (det_cols G P) (prS_few D1 fun c _ => h c)) (Nat.pow_le_pow_right D1 ?_)
    have := nodup_sub (G := P.filter fun c => decide (c < n)) (F := List.range n) (nd.filter _) fun g hg => List.mem_range.mpr (of_decide_eq_true (List.mem_filter.mp hg).2)
    rwa [List.length_range] at this
  · have : ∃ A c B C, P = A ++ c :: (B ++ c :: C) := by
      clear h
      induction P with
      | nil => exact absurd List.nodup_nil nd
      | cons p P ih =>
        by_cases m : p ∈ P
        · obtain ⟨B, C, e⟩ := List.append_of_mem m
          exact ⟨[], p, B, C, by rw [e]; rfl⟩
        · obtain ⟨A, c, B, C, e⟩ := ih fun w => nd (List.nodup_cons.mpr ⟨m, w⟩)
          exact ⟨p :: A, c, B, C, by rw [e]; rfl⟩
    obtain ⟨A, c, B, C, rfl⟩ := this
    rw [det_ctwo]
    exact Nat.zero_le _
end AL
set_option Elab.async false
set_option maxRecDepth 100000
set_option exponentiation.threshold 70000
set_option maxHeartbeats 1000000
namespace AL
open PySem PySem.Spec PyProof.Rows L2 RZ
section
variable {P : Program} {w : World} {K : PySem.W.Frag} {mg : Str → Option Value} {base : Heap}

theorem fdivP_le {a b : Int} (hb : 0 < b) : (a.fdiv b).natAbs ≤ a.natAbs := by
  have h := Int.mul_fdiv_add_fmod a b
  have h1 := Int.fmod_nonneg_of_pos a hb
  have h2 := Int.fmod_lt_of_pos a hb
  generalize a.fdiv b = q at *
  generalize a.fmod b = r at *
  rcases Int.lt_trichotomy q 0 with w | w | w
  · have k : (b - 1) * (-(q + 1)) ≥ 0 := Int.mul_nonneg (by omega) (by omega)
    have e : (b - 1) * (-(q + 1)) = -(b * q) - b + q + 1 := by grind
    omega
  · rw [w]; exact Nat.zero_le _
  · have k : (b - 1) * q ≥ 0 := Int.mul_nonneg (by omega) (by omega)
    have e : (b - 1) * q = b * q - q := by grind
    omega
theorem fdivA_le (a : Int) {b : Int} (hb : b ≠ 0) : (a.fdiv b).natAbs ≤ a.natAbs := by
  rcases Int.lt_trichotomy b 0 with w | w | w
  · have := fdivP_le (a := -a) (b := -b) (by omega)
    rw [Int.neg_fdiv_neg] at this
    omega
  · exact absurd w hb
  · exact fdivP_le w
theorem wml {i j : Int} {m n : Nat} (h1 : i.natAbs < 2 ^ m) (h2 : j.natAbs < 2 ^ n) (hm : m ≤ 100000) (hn : n ≤ 100000) : CMulW i j := wide_mul (Nat.lt_of_lt_of_le h1 (Nat.pow_le_pow_right (by decide) (by omega : m ≤ m + 1))) (Nat.lt_of_lt_of_le h2 (Nat.pow_le_pow_right (by decide) (by omega : n ≤ n + 1))) (by omega) (by omega) (by omega)
/-- bezout(one, other), one above 0, other not 0 -/
def spBz : Sp := fun vs H Q _ => ∃ a b : Int, vs = [.int a, .int b] ∧ 0 < a ∧ b ≠ 0 ∧ a.natAbs < 2 ^ 13000 ∧ b.natAbs < 2 ^ 13000 ∧
  ∀ t H' (g x y : Int), Same H H' → H' t = some (.tup [.int g, .int x, .int y]) → 0 < g → g = x * a + y * b → g ∣ a → g ∣ b → x.natAbs ≤ b.natAbs → y.natAbs ≤ a.natAbs + 2 * b.natAbs → Q (.ref t) H'

abbrev stbezout : Stmt := top 4
theorem scbezout : FnScope ["one", "other", "x", "later_x", "y", "later_y", "many"] ["one", "other"] (defScope stbezout) := ⟨rfl, rfl, rfl, by decide +kernel, rfl, by decide +kernel, by decide +kernel⟩
theorem okbezout (B : Blt mg)  {fbezout : Addr} {fdbezout : FuncData} (Dbezout : DefAt K mg "bezout" stbezout ["one", "other"] fbezout fdbezout) : FnOk P w K mg base CX0 1 fbezout fdbezout ["one", "other"] spBz := by
  refine Dbezout.F.ok scbezout (fun vs H Q E h => ?_) (fun cdv A outer s H vs Q E hr h => ?_)
  · obtain ⟨a, b, rfl, _⟩ := h; rfl
  · have hu := hu_of hr
    refine ⟨_, (pss_cons (ps_asg (pe_tup (pa_cons pe_int (pa_cons pe_int pa_nil))) (pg_tup rfl (pgs_cons (pg_name (i := 2) scbezout.nd rfl (Or.inl rfl)) (pgs_cons (pg_name (i := 3) scbezout.nd rfl (Or.inl rfl)) pgs_nil))))
    (pss_cons (ps_asg (pe_tup (pa_cons pe_int (pa_cons pe_int pa_nil))) (pg_tup rfl (pgs_cons (pg_name (i := 4) scbezout.nd rfl (Or.inl rfl)) (pgs_cons (pg_name (i := 5) scbezout.nd rfl (Or.inl rfl)) pgs_nil))))
    (pss_cons (ps_while PassesOwn.never (pt_cmpR op_ne (pv 1) pe_int (nomark _)) (pss_cons (ps_set (i := 6) scbezout.nd rfl (Or.inl rfl) (pe_op op_fdivB (pv 0) (pv 1)))
    (pss_cons (ps_par (i := 0) (j := 1) (by rfl) scbezout.nd rfl rfl (by decide) rfl rfl (pa_cons (pv 1) (pa_cons (pe_op op_sub (pv 0) (pe_op op_mulW (pv 6) (pv 1))) pa_nil)) (by rfl))
    (pss_cons (ps_par (i := 2) (j := 3) (by rfl) scbezout.nd rfl rfl (by decide) rfl rfl (pa_cons (pv 3) (pa_cons (pe_op op_sub (pv 2) (pe_op op_mulW (pv 6) (pv 3))) pa_nil)) (by rfl))
    (pss_one (ps_par (i := 4) (j := 5) (by rfl) scbezout.nd rfl rfl (by decide) rfl rfl (pa_cons (pv 5) (pa_cons (pe_op op_sub (pv 4) (pe_op op_mulW (pv 6) (pv 5))) pa_nil)) (by rfl)))))))
    (pss_cons (ps_if (pt_cmpR op_lt (pv 0) pe_int (nomark _)) (pss_one (ps_ret (pe_tup (pa_cons (pe_un un_neg (pv 0)) (pa_cons (pe_un un_neg (pv 2)) (pa_cons (pe_un un_neg (pv 4)) pa_nil)))))) pss_nil)
    (pss_one (ps_ret (pe_tup (pa_cons (pv 0) (pa_cons (pv 2) (pa_cons (pv 4) pa_nil)))))))))), ?_⟩
    obtain ⟨a, b, rfl, a0, b0, ba, bb, q⟩ := h
    refine ⟨(by show 2 ≤ sizeLine; decide), fun T hT => ?_⟩
    have n1 := AL.Same.new (o := .tup [.int 1, .int 0]) hT
    refine ⟨T, _, rfl, SqT.of upd_same, rfl, _, _, rfl, _, _, rfl, rfl, ?_⟩
    refine ⟨(by show 2 ≤ sizeLine; decide), fun T2 hT2 => ?_⟩
    have n2 := AL.Same.new (o := .tup [.int 0, .int 1]) hT2
    refine ⟨T2, _, rfl, SqT.of upd_same, rfl, _, _, rfl, _, _, rfl, rfl, ?_⟩
    refine ⟨fun m σ H' => ∃ (o e x lx y ly : Int) (v6 : Option V), σ = [some (.int o), some (.int e), some (.int x), some (.int lx), some (.int y), some (.int ly), v6] ∧ Same H H' ∧ BzI a b o e x lx y ly ∧ e.natAbs = m, ⟨_, a, b, 1, 0, 0, 1, none, rfl, n1.trans n2, bz_start a0 b0, rfl⟩, ?_⟩
    rintro m σ H1 ⟨o, e, x, lx, y, ly, v6, rfl, s1, t, rfl⟩
    refine ⟨_, rfl, rfl, _, rfl, ?_⟩
    by_cases e0 : e = 0
    · rw [show (!decide (V.int e = V.int 0)) = false by rw [e0, decide_eq_true rfl]; rfl]
      refine iteF ?_
      subst e0
      obtain ⟨d1, d2⟩ := bz_end t
      have h1 := t.h1
      have cx := t.cx
      have cy := t.cy
      have o0 := t.o0
      refine ⟨_, rfl, _, _, rfl, rfl, _, rfl, ?_⟩
      by_cases c : o < 0
      · rw [decide_eq_true c]
        refine iteT ?_
        refine ⟨_, rfl, _, rfl, _, rfl, _, rfl, _, rfl, _, rfl, (by show 3 ≤ sizeLine; decide), fun t0 ht => ?_⟩
        exact q t0 _ (-o) (-x) (-y) (s1.trans (AL.Same.new ht)) upd_same (by omega) (by rw [h1]; grind) (Int.neg_dvd.mpr d1) (Int.neg_dvd.mpr d2) (by omega) (by omega)
      · rw [decide_eq_false c]
        refine iteF ?_
        refine ⟨_, rfl, _, rfl, _, rfl, (by show 3 ≤ sizeLine; decide), fun t0 ht => ?_⟩
        exact q t0 _ o x y (s1.trans (AL.Same.new ht)) upd_same (by omega) h1 d1 d2 cx cy
    · rw [show (!decide (V.int e = V.int 0)) = true by rw [decide_eq_false (fun w => e0 (by injection w))]; rfl]
      refine iteT ?_
      have ob := t.ob
      have eb := t.eb
      have cx := t.cx
      have cy := t.cy
      have t' := bz_step a0 b0 t e0
      have lt := (fdiv_rest o e0).1
      have two : 2 ^ 13000 + 2 ^ 13000 = 2 ^ 13001 := by rw [Nat.pow_succ 2 13000, Nat.mul_two]
      have ob2 : o.natAbs < 2 ^ 13001 := by omega
      have eb2 : e.natAbs < 2 ^ 13001 := by omega
      have qb : (o.fdiv e).natAbs < 2 ^ 13001 := Nat.lt_of_le_of_lt (fdivA_le o e0) ob2
      have four : 2 ^ 13001 + 2 ^ 13001 = 2 ^ 13002 := by rw [Nat.pow_succ 2 13001, Nat.mul_two]
      have o1 : 1 ≤ o.natAbs := by have := t.o0; omega
      have clx : lx.natAbs < 2 ^ 13002 := by
        have := t.bx
        have : lx.natAbs * 1 ≤ lx.natAbs * o.natAbs := Nat.mul_le_mul_left _ o1
        omega
      have cly : ly.natAbs < 2 ^ 13002 := by
        have := t.by_
        have : ly.natAbs * 1 ≤ ly.natAbs * o.natAbs := Nat.mul_le_mul_left _ o1
        omega
      have p35 : 2 ^ 13001 ≤ 2 ^ 13500 := Nat.pow_le_pow_right (by decide) (by decide)
      clear two four
      generalize hqe : o.fdiv e = qq at *
      refine ⟨fun σ' H' => ∃ (o' e' x lx y ly : Int) (v6 : Option V), σ' = [some (.int o'), some (.int e'), some (.int x), some (.int lx), some (.int y), some (.int ly), v6] ∧ Same H H' ∧ BzI a b o' e' x lx y ly ∧ e'.natAbs < e.natAbs, ?_, ?_⟩
      · rintro σ' H' ⟨o', e', x, lx, y, ly, v6, rfl, s, t, l⟩
        exact ⟨_, l, o', e', x, lx, y, ly, v6, rfl, s, t, rfl⟩
      refine ⟨_, rfl, _, rfl, o, e, rfl, rfl, ⟨e0, by omega⟩, ?_⟩
      dsimp only
      rw [hqe]
      have xb : x.natAbs < 2 ^ 13002 := Nat.lt_of_le_of_lt cx (Nat.lt_of_lt_of_le bb (Nat.pow_le_pow_right (by decide) (by decide)))
      refine ⟨_, rfl, _, rfl, _, rfl, _, rfl, _, _, rfl, rfl, wml qb eb2 (by decide) (by decide), _, _, rfl, rfl, _, _, rfl, ?_⟩
      refine ⟨_, rfl, _, rfl, _, rfl, _, rfl, _, _, rfl, rfl, wml qb clx (by decide) (by decide), _, _, rfl, rfl, _, _, rfl, ?_⟩
      refine ⟨_, rfl, _, rfl, _, rfl, _, rfl, _, _, rfl, rfl, wml qb cly (by decide) (by decide), _, _, rfl, rfl, _, _, rfl, ?_⟩
      exact ⟨_, _, _, _, _, _, _, rfl, s1, t', lt⟩
end
end AL
set_option Elab.async false
set_option maxRecDepth 100000
set_option exponentiation.threshold 70000
set_option maxHeartbeats 1000000
namespace AL
open PySem PySem.Spec PyProof.Rows L2 RZ
section
variable {P : Program} {w : World} {K : PySem.W.Frag} {mg : Str → Option Value} {base : Heap}

theorem BdR.bd {e b : Nat} {r : Rw} (h : BdR (2 ^ e) r) (l : e < b) : Bd b r := Bd.of fun j => Nat.lt_of_le_of_lt (h j) (Nat.pow_lt_pow_right (by decide) l)
/-- taken_in(basis, row) -/
def spTk : Sp := fun vs H Q _ => ∃ (b r : Addr) (W M : Nat) (F : List Rw) (r0 : Rw), vs = [.ref b, .ref r] ∧ RowsZ H b F ∧ LI H r r0 ∧ Hnf W F ∧ (∀ f ∈ F, BdR (2 ^ M) f) ∧ r0.length = W ∧ BdR (2 ^ (M + 1)) r0 ∧ W ≤ 100 ∧ F.length ≤ 20 ∧ 2 * ((M + 1) * (F.length + 1)) + 2 < 13000 ∧
  ∀ D H' Z, Same H H' → RowsZ H' D Z → Ech W Z → Gen Z (F ++ [r0]) → (∀ k ∈ Z, BdR (2 ^ (2 * ((M + 1) * (F.length + 1)) + 2)) k) → Z.length ≤ F.length + 1 → Q (.ref D) H'

abbrev sttaken_in : Stmt := top 6
theorem sctaken_in : FnScope ["basis", "row", "kept", "held", "at", "first", "shared", "x", "y"] ["basis", "row"] (defScope sttaken_in) := ⟨rfl, rfl, rfl, by decide +kernel, rfl, by decide +kernel, by decide +kernel⟩
theorem oktaken_in (B : Blt mg)  {fbezout : Addr} {fdbezout : FuncData} (Dbezout : DefAt K mg "bezout" stbezout ["one", "other"] fbezout fdbezout) {fcombined : Addr} {fdcombined : FuncData} (Dcombined : DefAt K mg "combined" stcombined ["many", "one", "times", "other"] fcombined fdcombined) {fpivot_of : Addr} {fdpivot_of : FuncData} (Dpivot_of : DefAt K mg "pivot_of" stpivot_of ["row"] fpivot_of fdpivot_of) {ftaken_in : Addr} {fdtaken_in : FuncData} (Dtaken_in : DefAt K mg "taken_in" sttaken_in ["basis", "row"] ftaken_in fdtaken_in) : FnOk P w K mg base CX0 2 ftaken_in fdtaken_in ["basis", "row"] spTk := by
  have OKbezout : FnOk P w K mg base CX0 1 fbezout fdbezout ["one", "other"] spBz := okbezout B  Dbezout
  have OKcombined : FnOk P w K mg base CX0 1 fcombined fdcombined ["many", "one", "times", "other"] spCm := okcombined B  Dcombined
  have OKpivot_of : FnOk P w K mg base CX0 1 fpivot_of fdpivot_of ["row"] spPv := okpivot_of B  Dpivot_of
  refine Dtaken_in.F.ok sctaken_in (fun vs H Q E h => ?_) (fun cdv A outer s H vs Q E hr h => ?_)
  · obtain ⟨b, r, W, M, F, r0, rfl, _⟩ := h; rfl
  · have hu := hu_of hr
    refine ⟨_, (pss_cons (ps_set (i := 2) sctaken_in.nd rfl (Or.inl rfl) (pe_lst pa_nil))
    (pss_cons (ps_for PassesOwn.never rfl (pi_list (pv 0)) (pg_name (i := 3) sctaken_in.nd rfl (Or.inl rfl))
      (pss_cons (ps_set (i := 4) sctaken_in.nd rfl (Or.inl rfl) (pe_call OKpivot_of (hr.mono (by decide)) rfl Dpivot_of.m Dpivot_of.F.kp Dpivot_of.b .nil pass0 (pa_cons (pv 3) pa_nil)))
    (pss_cons (ps_set (i := 5) sctaken_in.nd rfl (Or.inl rfl) (pe_call OKpivot_of (hr.mono (by decide)) rfl Dpivot_of.m Dpivot_of.F.kp Dpivot_of.b .nil pass0 (pa_cons (pv 1) pa_nil)))
    (pss_one (ps_if (pt_cmpR op_lt (pv 5) (pv 4) (nomark _)) (pss_cons (ps_expr (pe_bm PySem.F.plainAttrs_list PySem.F.slot_list_append PySem.F.type_list_append mt_append (pv 2) (pa_cons (pv 1) pa_nil)))
    (pss_one (ps_set (i := 1) sctaken_in.nd rfl (Or.inl rfl) (pv 3)))) (pss_one (ps_if (pt_cmpR op_gt (pv 5) (pv 4) (nomark _)) (pss_one (ps_expr (pe_bm PySem.F.plainAttrs_list PySem.F.slot_list_append PySem.F.type_list_append mt_append (pv 2) (pa_cons (pv 3) pa_nil)))) (pss_one (ps_if (pt_cmpR op_eq (pe_op op_modN (pe_ix ix_list (pv 1) (pv 4) (fun _ _ => rfl)) (pe_ix ix_list (pv 3) (pv 4) (fun _ _ => rfl))) pe_int (nomark _)) (pss_cons (ps_expr (pe_bm PySem.F.plainAttrs_list PySem.F.slot_list_append PySem.F.type_list_append mt_append (pv 2) (pa_cons (pv 3) pa_nil)))
    (pss_one (ps_set (i := 1) sctaken_in.nd rfl (Or.inl rfl) (pe_call OKcombined (hr.mono (by decide)) rfl Dcombined.m Dcombined.F.kp Dcombined.b .nil pass0 (pa_cons pe_int (pa_cons (pv 1) (pa_cons (pe_un un_neg (pe_op op_fdivB (pe_ix ix_list (pv 1) (pv 4) (fun _ _ => rfl)) (pe_ix ix_list (pv 3) (pv 4) (fun _ _ => rfl)))) (pa_cons (pv 3) pa_nil)))))))) (pss_cons (ps_asg (pe_call OKbezout (hr.mono (by decide)) rfl Dbezout.m Dbezout.F.kp Dbezout.b .nil pass0 (pa_cons (pe_ix ix_list (pv 3) (pv 4) (fun _ _ => rfl)) (pa_cons (pe_ix ix_list (pv 1) (pv 4) (fun _ _ => rfl)) pa_nil))) (pg_tup rfl (pgs_cons (pg_name (i := 6) sctaken_in.nd rfl (Or.inl rfl)) (pgs_cons (pg_name (i := 7) sctaken_in.nd rfl (Or.inl rfl)) (pgs_cons (pg_name (i := 8) sctaken_in.nd rfl (Or.inl rfl)) pgs_nil)))))
    (pss_cons (ps_expr (pe_bm PySem.F.plainAttrs_list PySem.F.slot_list_append PySem.F.type_list_append mt_append (pv 2) (pa_cons (pe_call OKcombined (hr.mono (by decide)) rfl Dcombined.m Dcombined.F.kp Dcombined.b .nil pass0 (pa_cons (pv 7) (pa_cons (pv 3) (pa_cons (pv 8) (pa_cons (pv 1) pa_nil))))) pa_nil)))
    (pss_one (ps_set (i := 1) sctaken_in.nd rfl (Or.inl rfl) (pe_call OKcombined (hr.mono (by decide)) rfl Dcombined.m Dcombined.F.kp Dcombined.b .nil pass0 (pa_cons (pe_op op_fdivB (pe_ix ix_list (pv 3) (pv 4) (fun _ _ => rfl)) (pv 6)) (pa_cons (pv 1) (pa_cons (pe_un un_neg (pe_op op_fdivB (pe_ix ix_list (pv 1) (pv 4) (fun _ _ => rfl)) (pv 6))) (pa_cons (pv 3) pa_nil))))))))))))))))))
    (pss_cons (ps_if (pt_val (pe_callB (cr_anyI rfl) (by rfl) B.any_ (by decide +kernel) (pa_cons (pv 1) pa_nil))) (pss_one (ps_expr (pe_bm PySem.F.plainAttrs_list PySem.F.slot_list_append PySem.F.type_list_append mt_append (pv 2) (pa_cons (pv 1) pa_nil)))) pss_nil)
    (pss_one (ps_ret (pv 2)))))), ?_⟩
    obtain ⟨b, r, W, M, F, r0, rfl, hb, hr, hF, bF, l0, b0, lw, lF, sz, q⟩ := h
    obtain ⟨fs, B1, B2⟩ := hb
    have lfs := prd_len B2
    have EF := hF.ech
    generalize hY : 2 ^ (2 * ((M + 1) * (F.length + 1)) + 2) = Y at q
    refine ⟨(by show 0 ≤ sizeLine; decide), fun D hD => ?_⟩
    have n1 := AL.Same.new (o := .lst []) hD
    have rD : r ≠ D := fun z => by rw [z] at hr; unfold LI at hr; rw [hD] at hr; cases hr
    refine ⟨_, rfl, b, rfl, ⟨_, SqL.of (n1 _ _ B1)⟩, for_list (K := K) (a := b) (xs := fs.map V.ref) (fun i σ H' => ∃ (ra : Addr) (row : Rw) (ks : List Addr) (kept : List Rw) (v3 v4 v5 v6 v7 v8 : Option V), σ = [some (.ref b), some (.ref ra), some (.ref D), v3, v4, v5, v6, v7, v8] ∧ Same H H' ∧ H' D = some (.lst (ks.map V.ref)) ∧ Paired (fun a (z : Rw) => a ≠ D ∧ LI H' a z) ks kept ∧ ra ≠ D ∧ LI H' ra row ∧ TkI W M Y F r0 i kept row ∧ kept.length ≤ i) ⟨r, r0, [], [], none, none, none, none, none, none, rfl, n1, upd_same, .nil, rD, hr.same n1, tk_start hF.len l0 b0, Nat.le_refl _⟩ (fun i σ H' _ hh => by obtain ⟨_, _, _, _, _, _, _, _, _, _, _, s, _⟩ := hh; exact SqL.of (s _ _ B1)) ?_ ?_⟩
    · rintro i x σ H1 hx ⟨ra, row, ks, kept, v3, v4, v5, v6, v7, v8, rfl, s1, hd, prk, raD, hra, t, lk⟩
      obtain ⟨ha, hha, rfl⟩ := map_ref hx
      obtain ⟨held, hheld, hh0⟩ := prd_get B2 hha
      have il := (List.getElem?_eq_some_iff.mp hheld).1
      have mh := List.mem_of_getElem? hheld
      have hh1 : LI H1 ha held := s1 _ _ hh0
      have haD : ha ≠ D := fun z => by rw [z, hD] at hh0; cases hh0
      refine ⟨_, rfl, ha, held, rfl, hh1, fun H2 s2 => ?_⟩
      refine ⟨_, rfl, ra, row, rfl, hra.same s2, fun H3 s3 => ?_⟩
      have s23 := s2.trans s3
      have hd3 := s23 _ _ hd
      have hra3 := hra.same s23
      have hh3 := hh1.same s23
      have prk3 : Paired (fun a (z : Rw) => a ≠ D ∧ LI H3 a z) ks kept := paired_mono prk fun _ _ z => ⟨z.1, z.2.same s23⟩
      have S3 := s1.trans s23
      clear s2 s3 s23 hd hra hh1 prk s1
      have lks := prd_len prk3
      have push : ∀ {HH : Hp} {a : Addr} {z : Rw}, Same H3 HH → a ≠ D → LI HH a z → Same H (upd HH D (.lst (ks.map V.ref ++ [.ref a]))) ∧ upd HH D (.lst (ks.map V.ref ++ [.ref a])) D = some (.lst ((ks ++ [a]).map V.ref)) ∧ Paired (fun a' (r : Rw) => a' ≠ D ∧ LI (upd HH D (.lst (ks.map V.ref ++ [.ref a]))) a' r) (ks ++ [a]) (kept ++ [z]) := fun {HH a z} s aD hz => by
        obtain ⟨r1, r2⟩ := rowsZ_snoc (s _ _ hd3) (paired_mono prk3 fun _ _ w => ⟨w.1, w.2.same s⟩) aD hz
        exact ⟨AL.Same.updn (S3.trans s) hD, r1, r2⟩
      have lenk : (ks.map V.ref).length < sizeLine := by rw [List.length_map, lks]; exact Nat.lt_of_le_of_lt (by omega : _ ≤ 1000) (by decide)
      have e1 : (M + 1) * (i + 1) ≤ (M + 1) * (F.length + 1) := Nat.mul_le_mul_left _ (by omega)
      have e2 : (M + 1) * (i + 2) = (M + 1) * (i + 1) + (M + 1) := Nat.mul_succ (M + 1) (i + 1)
      have e3 : (M + 1) * (i + 1) = (M + 1) * i + (M + 1) := Nat.mul_succ (M + 1) i
      have yX : 2 ^ ((M + 1) * (i + 1)) ≤ Y := by rw [← hY]; exact Nat.pow_le_pow_right (by decide) (by omega)
      have yM : 2 ^ M ≤ Y := by rw [← hY]; exact Nat.pow_le_pow_right (by decide) (by omega)
      refine ⟨_, rfl, _, rfl, _, _, rfl, rfl, _, rfl, ?_⟩
      by_cases c1 : piv row < piv held
      · rw [decide_eq_true (by omega : (piv row : Int) < (piv held : Int))]
        refine iteT ?_
        refine ⟨_, rfl, .inl ⟨rfl, _, SqL.of hd3⟩, _, rfl, D, _, _, rfl, rfl, hd3, lenk, ?_⟩
        obtain ⟨p1, p2, p3⟩ := push (fun _ _ h => h) raD hra3
        exact ⟨_, rfl, ha, held, ks ++ [ra], kept ++ [row], _, _, _, _, _, _, rfl, p1, p2, p3, haD, Eq.trans (upd_ne haD) hh3, tk_low EF bF t hheld yX c1, by rw [List.length_append]; exact Nat.succ_le_succ lk⟩
      rw [decide_eq_false (by omega : ¬ (piv row : Int) < (piv held : Int))]
      refine iteF ?_
      refine ⟨_, rfl, _, rfl, _, _, rfl, rfl, _, rfl, ?_⟩
      by_cases c2 : piv held < piv row
      · rw [decide_eq_true (by omega : (piv row : Int) > (piv held : Int))]
        refine iteT ?_
        refine ⟨_, rfl, .inl ⟨rfl, _, SqL.of hd3⟩, _, rfl, D, _, _, rfl, rfl, hd3, lenk, ?_⟩
        obtain ⟨p1, p2, p3⟩ := push (fun _ _ h => h) haD hh3
        exact ⟨ra, row, ks ++ [ha], kept ++ [held], _, _, _, _, _, _, rfl, p1, p2, p3, raD, Eq.trans (upd_ne raD) hra3, tk_high EF bF t hheld yM c2, by rw [List.length_append]; exact Nat.succ_le_succ lk⟩
      rw [decide_eq_false (by omega : ¬ (piv row : Int) > (piv held : Int))]
      refine iteF ?_
      have c : piv row = piv held := by omega
      have hp := hF.pos held mh
      have lh := hF.len held mh
      have lrow := t.lr
      have pW := piv_lt_len (by omega : vl held (piv held) ≠ 0)
      have hn : held.length = row.length := by rw [lh, lrow]
      have br := t.br
      have gr : atI (row.map V.int) ((piv held : Nat) : Int) = some (.int (vl row (piv held))) := by rw [atI_of (by rw [List.length_map]; omega), List.getElem?_map, vl_at (by omega)]; rfl
      have gh : atI (held.map V.int) ((piv held : Nat) : Int) = some (.int (vl held (piv held))) := by rw [atI_of (by rw [List.length_map]; omega), List.getElem?_map, vl_at (by omega)]; rfl
      have rn : vl row (piv held) ≠ 0 := by rw [← c]; exact nz_of_lt (by rw [c]; omega)
      have bra := br (piv held)
      have bha := bF held mh (piv held)
      generalize hXe : (M + 1) * (i + 1) = X at *
      have X1 : M + 1 ≤ X := by omega
      have X2 : 2 * X + 2 < 13000 := by omega
      have pM : 2 ^ M ≤ 2 ^ X := Nat.pow_le_pow_right (by decide) (by omega)
      have BR : Bd 13000 row := br.bd (by omega)
      have BH : Bd 13000 held := (bF held mh).bd (by omega)
      have xl : 2 ^ X < 2 ^ 13000 := Nat.pow_lt_pow_right (by decide) (by omega)
      have ml : 2 ^ M < 2 ^ 13000 := Nat.pow_lt_pow_right (by decide) (by omega)
      have l35 : 2 ^ 13000 ≤ 2 ^ 13500 := Nat.pow_le_pow_right (by decide) (by decide)
      have stX : 2 ^ X * 2 ^ M + 2 ^ X * 2 ^ M = 2 ^ (X + (M + 1)) := by rw [← Nat.pow_add, show X + (M + 1) = (X + M) + 1 by omega, Nat.pow_succ 2 (X + M), Nat.mul_two]
      have o1 : 1 ≤ 2 ^ M := Nat.two_pow_pos M
      have oX : 2 ^ X * 1 ≤ 2 ^ X * 2 ^ M := Nat.mul_le_mul_left _ o1
      refine ⟨_, rfl, _, rfl, ra, _, _, _, rfl, rfl, SqL.of hra3, gr, _, rfl, _, rfl, ha, _, _, _, rfl, rfl, SqL.of hh3, gh, _, _, rfl, rfl, by omega, rfl, _, rfl, ?_⟩
      have fm := Int.mul_fdiv_add_fmod (vl row (piv held)) (vl held (piv held))
      by_cases cz : (vl row (piv held)).fmod (vl held (piv held)) = 0
      · rw [show decide ((fun i j => V.int (i.fmod j)) (vl row (piv held)) (vl held (piv held)) = V.int 0) = true from decide_eq_true (congrArg V.int cz)]
        refine iteT ?_
        obtain ⟨p1, p2, p3⟩ := push (fun _ _ h => h) haD hh3
        refine ⟨_, rfl, .inl ⟨rfl, _, SqL.of hd3⟩, _, rfl, D, _, _, rfl, rfl, hd3, lenk, ?_⟩
        have hra4 : LI (upd H3 D (.lst (ks.map V.ref ++ [.ref ha]))) ra row := Eq.trans (upd_ne raD) hra3
        have hh4 : LI (upd H3 D (.lst (ks.map V.ref ++ [.ref ha]))) ha held := Eq.trans (upd_ne haD) hh3
        have tb := fdivA_le (vl row (piv held)) (b := vl held (piv held)) (by omega)
        refine ⟨_, rfl, _, rfl, _, rfl, ra, _, _, _, rfl, rfl, SqL.of hra4, gr, _, rfl, _, rfl, ha, _, _, _, rfl, rfl, SqL.of hh4, gh, _, _, rfl, rfl, ⟨by omega, by omega⟩, _, rfl, _, rfl, 1, _, ra, ha, row, held, rfl, hra4, hh4, hn.symm, by omega, (by show 1 < 2 ^ 13000; exact Nat.lt_of_lt_of_le (by decide : 1 < 2 ^ 1) (Nat.pow_le_pow_right (by decide) (by decide))), by omega, BR, BH, fun D2 H5 hD2 s5 h5 => ?_⟩
        have D2D : D2 ≠ D := fun z => by rw [z, p2] at hD2; cases hD2
        refine ⟨D2, _, ks ++ [ha], kept ++ [held], _, _, _, _, _, _, rfl, p1.trans s5, s5 _ _ p2, paired_mono p3 fun _ _ z => ⟨z.1, z.2.same s5⟩, D2D, h5, ?_, by rw [List.length_append]; exact Nat.succ_le_succ lk⟩
        refine tk_same EF bF t hheld c (p := 1) (q := 0) (r := -((vl row (piv held)).fdiv (vl held (piv held)))) (s := 1) (fun j => by omega) (fun j => by rw [comb_vl hn.symm]; omega) (by omega) lh (by rw [comb_len hn.symm]; exact lrow) (by omega) (by
          rw [comb_vl hn.symm, Int.neg_mul, Int.mul_comm ((vl row (piv held)).fdiv _)]; omega) ((bF held mh).mono yM) ?_
        rw [e2]
        refine (comb_bd (a := 1) (b := 2 ^ X) (c := 2 ^ X) (d := 2 ^ M) hn.symm (by decide) br (by omega) (bF held mh)).mono ?_
        omega
      · rw [decide_eq_false (fun z => cz (by injection z))]
        refine iteF ?_
        refine ⟨_, rfl, _, rfl, ha, _, _, _, rfl, rfl, SqL.of hh3, gh, _, rfl, _, rfl, ra, _, _, _, rfl, rfl, SqL.of hra3, gr, vl held (piv held), vl row (piv held), rfl, hp, rn, by omega, by omega, fun tb H4 gg x y s4 ht g0 ge d1 d2 bx by_ => ?_⟩
        refine ⟨tb, _, rfl, SqT.of ht, rfl, _, _, rfl, _, _, rfl, _, _, rfl, rfl, ?_⟩
        have hd4 := s4 _ _ hd3
        have hra4 := hra3.same s4
        have hh4 := hh3.same s4
        have fx1 := fdiv_ex (by omega : gg ≠ 0) d1
        have fx2 := fdiv_ex (by omega : gg ≠ 0) d2
        have q1 := fdivA_le (vl held (piv held)) (b := gg) (by omega)
        have q2 := fdivA_le (vl row (piv held)) (b := gg) (by omega)
        have x4 : 2 ^ X * 4 ≤ 2 ^ 13000 := by
          rw [show 2 ^ X * 4 = 2 ^ (X + 2) by rw [Nat.pow_add]]
          exact Nat.pow_le_pow_right (by decide) (by omega)
        refine ⟨_, rfl, .inl ⟨rfl, _, SqL.of hd4⟩, _, rfl, _, rfl, _, rfl, _, rfl, x, y, ha, ra, held, row, rfl, hh4, hra4, hn, by omega, by omega, by omega, BH, BR, fun D2 H5 hD2 s5 h5 => ?_⟩
        have hd5 := s5 _ _ hd4
        have D2D : D2 ≠ D := fun z => by rw [z, hd4] at hD2; cases hD2
        obtain ⟨p1, p2, p3⟩ := push (s4.trans s5) D2D h5
        refine ⟨D, _, _, rfl, rfl, hd5, lenk, ?_⟩
        have hra6 : LI (upd H5 D (.lst (ks.map V.ref ++ [.ref D2]))) ra row := Eq.trans (upd_ne raD) (hra4.same s5)
        have hh6 : LI (upd H5 D (.lst (ks.map V.ref ++ [.ref D2]))) ha held := Eq.trans (upd_ne haD) (hh4.same s5)
        refine ⟨_, rfl, _, rfl, ha, _, _, _, rfl, rfl, SqL.of hh6, gh, _, rfl, _, _, rfl, rfl, ⟨by omega, by omega⟩, _, rfl, _, rfl, _, rfl, ra, _, _, _, rfl, rfl, SqL.of hra6, gr, _, rfl, _, _, rfl, rfl, ⟨by omega, by omega⟩, _, rfl, _, rfl, _, _, ra, ha, row, held, rfl, hra6, hh6, hn.symm, by omega, by omega, by omega, BR, BH, fun D3 H7 hD3 s7 h7 => ?_⟩
        have D3D : D3 ≠ D := fun z => by rw [z, p2] at hD3; cases hD3
        refine ⟨D3, _, ks ++ [D2], kept ++ [_], _, _, _, _, _, _, rfl, p1.trans s7, s7 _ _ p2, paired_mono p3 fun _ _ z => ⟨z.1, z.2.same s7⟩, D3D, h7, ?_, by rw [List.length_append]; exact Nat.succ_le_succ lk⟩
        generalize (vl held (piv held)).fdiv gg = u at *
        generalize (vl row (piv held)).fdiv gg = v at *
        refine tk_same EF bF t hheld c (p := x) (q := y) (r := -v) (s := u) (fun j => comb_vl hn j) (fun j => by rw [comb_vl hn.symm]; omega) ?_ (by rw [comb_len hn]; exact lh) (by rw [comb_len hn.symm]; exact lrow) ?_ ?_ ?_ ?_
        · have : gg * (x * u - y * -v) = gg * 1 := by
            have : gg * (x * u - y * -v) = x * (gg * u) + y * (gg * v) := by grind
            rw [this, fx1, fx2]; omega
          exact Int.eq_of_mul_eq_mul_left (by omega) this
        · rw [comb_vl hn]; omega
        · rw [comb_vl hn.symm]
          have : gg * (u * vl row (piv held) + -v * vl held (piv held)) = (gg * u) * vl row (piv held) - (gg * v) * vl held (piv held) := by grind
          rw [fx1, fx2] at this
          have z : gg * (u * vl row (piv held) + -v * vl held (piv held)) = 0 := by rw [this]; grind
          exact (Int.mul_eq_zero.mp z).resolve_left (by omega)
        · refine (comb_bd (a := 2 ^ X) (b := 2 ^ M) (c := 3 * 2 ^ X) (d := 2 ^ X) hn (by omega) (bF held mh) (by omega) br).mono ?_
          rw [← hY]
          have h1 : 2 ^ X * 2 ^ M ≤ 2 ^ X * 2 ^ X := Nat.mul_le_mul_left _ pM
          have h2 : 3 * 2 ^ X * 2 ^ X = 3 * (2 ^ X * 2 ^ X) := Nat.mul_assoc ..
          have h3 : 2 ^ X * 2 ^ X * 4 = 2 ^ (2 * X + 2) := by rw [Nat.pow_add, Nat.two_mul, Nat.pow_add]
          have h4 : 2 ^ (2 * X + 2) ≤ 2 ^ (2 * ((M + 1) * (F.length + 1)) + 2) := Nat.pow_le_pow_right (by decide) (by omega)
          omega
        · rw [e2]
          refine (comb_bd (a := 2 ^ M) (b := 2 ^ X) (c := 2 ^ X) (d := 2 ^ M) hn.symm (by omega) br (by omega) (bF held mh)).mono ?_
          rw [Nat.mul_comm (2 ^ M) (2 ^ X)]
          omega
    · rintro σ H1 ⟨ra, row, ks, kept, v3, v4, v5, v6, v7, v8, rfl, s1, hd, prk, raD, hra, t, lk⟩
      rw [List.length_map, lfs] at t lk
      have lks := prd_len prk
      have sz2 : (M + 1) * (F.length + 1) ≤ 2 * ((M + 1) * (F.length + 1)) + 2 := by omega
      have yb : 2 ^ ((M + 1) * (F.length + 1)) ≤ Y := by rw [← hY]; exact Nat.pow_le_pow_right (by decide) sz2
      obtain ⟨k1, k2, k3, k4⟩ := tk_end t yb rfl
      refine ⟨_, rfl, ra, row, rfl, SqL.of hra, _, rfl, ?_⟩
      by_cases z : allZ row
      · rw [show (row.any fun k => decide (k ≠ 0)) = false by
          rw [List.any_eq_false]; intro k hk; rw [z k hk]; decide]
        refine iteF ?_
        rw [if_pos z] at k1 k2 k3 k4
        exact ⟨_, rfl, q D H1 kept s1 ⟨ks, hd, paired_mono prk fun _ _ z => z.2⟩ k1 k2 k3 (by omega)⟩
      · rw [show (row.any fun k => decide (k ≠ 0)) = true by
          rw [List.any_eq_true]
          obtain ⟨h1, h2, _⟩ := piv_spec z
          exact ⟨_, vl_mem h1, decide_eq_true h2⟩]
        refine iteT ?_
        rw [if_neg z] at k1 k2 k3 k4
        obtain ⟨r1, r2⟩ := rowsZ_snoc hd prk raD hra
        refine ⟨_, rfl, .inl ⟨rfl, _, SqL.of hd⟩, _, rfl, D, _, _, rfl, rfl, hd, ?_, ?_⟩
        · rw [List.length_map, lks]; exact Nat.lt_of_le_of_lt (by omega : _ ≤ 1000) (by decide)
        exact ⟨_, rfl, q D _ (kept ++ [row]) (AL.Same.updn s1 hD) ⟨ks ++ [ra], r1, paired_mono r2 fun _ _ z => z.2⟩ k1 k2 k3 (by rw [List.length_append]; exact Nat.succ_le_succ lk)⟩
end
end AL
set_option Elab.async false
set_option maxRecDepth 100000
set_option exponentiation.threshold 70000
set_option maxHeartbeats 1000000
namespace AL
open PySem PySem.Spec PyProof.Rows L2 RZ
section
variable {P : Program} {w : World} {K : PySem.W.Frag} {mg : Str → Option Value} {base : Heap}

theorem hnf_rel {W : Nat} {X : List Rw} (hX : Hnf W X) {x y : Rw} (hx : x ∈ X) (hy : y ∈ X) : (vl x (piv y)).natAbs ≤ (vl y (piv y)).natAbs := by
  obtain ⟨i, hi⟩ := List.mem_iff_getElem?.mp hx
  obtain ⟨k, hk⟩ := List.mem_iff_getElem?.mp hy
  obtain ⟨li, ei⟩ := List.getElem?_eq_some_iff.mp hi
  obtain ⟨lk, ek⟩ := List.getElem?_eq_some_iff.mp hk
  rcases Nat.lt_trichotomy i k with w | w | w
  · have := List.pairwise_iff_getElem.mp hX.red i k li lk w
    rw [ei, ek] at this; omega
  · subst w
    rw [ei] at ek; rw [ek]; exact Nat.le_refl _
  · have := List.pairwise_iff_getElem.mp hX.asc k i lk li w
    rw [ei, ek] at this
    rw [ahead_zero (hX.ech.nz x hx) _ this]
    exact Nat.zero_le _
theorem red_bd {W B n : Nat} {gens K1 K2 F : List Rw} (h : EchC W B n gens (K1 ++ K2)) (hF : Hnf W F) (g : Gen F K2) (pe : F.map piv = K2.map piv) : ∀ f ∈ F, BdR (n * B) f := fun f hf => by
  have up : ∀ {x : Fn}, Lat (inR K2) x → Lat (inR (K1 ++ K2)) x := fun h => h.trans fun y ⟨a, ha, e⟩ => .mem ⟨a, List.mem_append_right _ ha, e⟩
  refine fun c => h.item (up (g.1 f hf)).spn (fun k hk => ?_) c
  rcases List.mem_append.mp hk with w | w
  · have z : vl f (piv k) = 0 := by
      have : ∀ y, Lat (inR K2) y → y (piv k) = 0 := fun y h' => by
        induction h' with
        | mem h' =>
          obtain ⟨q, hq, rfl⟩ := h'
          exact ahead_zero (h.E.nz q (List.mem_append_right _ hq)) _ ((List.pairwise_append.mp h.E.asc).2.2 k w q hq)
        | zero => rfl
        | lin m t _ _ i1 i2 => dsimp only; rw [i1, i2]; omega
      exact this _ (g.1 f hf)
    rw [z]; exact Nat.zero_le _
  · have : piv k ∈ F.map piv := by rw [pe]; exact List.mem_map.mpr ⟨k, w, rfl⟩
    obtain ⟨q, hq, pq⟩ := List.mem_map.mp this
    have d := ech_dvd hF.ech (g.2 k w) hq fun p hp lt => ahead_zero (h.E.nz k (List.mem_append_right _ w)) _ (by omega)
    have k0 := h.E.nz k (List.mem_append_right _ w)
    rw [pq] at d
    have l1 := hnf_rel hF hf hq
    rw [pq] at l1
    have l2 := Nat.le_of_dvd (by omega) (Int.natAbs_dvd_natAbs.mpr d)
    have l3 := h.pivot (List.mem_append_right _ w)
    omega
theorem comb_zero {r b : Rw} (h : r.length = b.length) : comb 1 r (-0) b = r := vl_ext (by rw [comb_len h]) fun j => by rw [comb_vl h]; omega
/-- reduced(rows) -/
def spRd : Sp := fun vs H Q _ => ∃ (b : Addr) (W B n m y : Nat) (gens Z : List Rw), vs = [.ref b] ∧ RowsZ H b Z ∧ EchC W B n gens Z ∧ (∀ k ∈ Z, BdR (2 ^ y) k) ∧ W ≤ 100 ∧ n ≤ 20 ∧ n * B ≤ 2 ^ m ∧ y + (m + 1) * (n + 1) < 13000 ∧
  ∀ D H' F, Same H H' → RowsZ H' D F → Hnf W F → Gen F Z → F.length = Z.length → (∀ f ∈ F, BdR (2 ^ m) f) → Q (.ref D) H'

abbrev streduced : Stmt := top 7
theorem screduced : FnScope ["rows", "pivots", "done", "row", "first", "item", "at", "below", "many"] ["rows"] (defScope streduced) := ⟨rfl, rfl, rfl, by decide +kernel, rfl, by decide +kernel, by decide +kernel⟩
theorem okreduced (B : Blt mg)  {fcombined : Addr} {fdcombined : FuncData} (Dcombined : DefAt K mg "combined" stcombined ["many", "one", "times", "other"] fcombined fdcombined) {fpivot_of : Addr} {fdpivot_of : FuncData} (Dpivot_of : DefAt K mg "pivot_of" stpivot_of ["row"] fpivot_of fdpivot_of) {freduced : Addr} {fdreduced : FuncData} (Dreduced : DefAt K mg "reduced" streduced ["rows"] freduced fdreduced) : FnOk P w K mg base CX0 2 freduced fdreduced ["rows"] spRd := by
  have OKcombined : FnOk P w K mg base CX0 1 fcombined fdcombined ["many", "one", "times", "other"] spCm := okcombined B  Dcombined
  have OKpivot_of : FnOk P w K mg base CX0 1 fpivot_of fdpivot_of ["row"] spPv := okpivot_of B  Dpivot_of
  refine Dreduced.F.ok screduced (fun vs H Q E h => ?_) (fun cdv A outer s H vs Q E hr h => ?_)
  · obtain ⟨b, W, B0, n, m, y, gens, Z, rfl, _⟩ := h; rfl
  · have hu := hu_of hr
    refine ⟨_, (pss_cons (ps_set (i := 1) screduced.nd rfl (Or.inl rfl) (pe_lst pa_nil))
    (pss_cons (ps_set (i := 2) screduced.nd rfl (Or.inl rfl) (pe_lst pa_nil))
    (pss_cons (ps_for PassesOwn.never rfl (pi_reversed (by rfl) B.reversed_ (pa_cons (pv 0) pa_nil)) (pg_name (i := 3) screduced.nd rfl (Or.inl rfl))
      (pss_cons (ps_set (i := 4) screduced.nd rfl (Or.inl rfl) (pe_call OKpivot_of (hr.mono (by decide)) rfl Dpivot_of.m Dpivot_of.F.kp Dpivot_of.b .nil pass0 (pa_cons (pv 3) pa_nil)))
    (Evl.pss_cut (ps_if (pt_cmpR op_lt (pe_ix ix_list (pv 3) (pv 4) (fun _ _ => rfl)) pe_int (nomark _)) (pss_one (ps_setLc (i := 3) (own := [("item", 5)]) (g := gName 5) (tt := tYes) rfl screduced.nd rfl rfl (sw_true rfl rfl rfl (by decide +kernel)) (pi_list (pv 3)) (blkOk_by (own := [("item", 5)]) (N := ["rows", "pivots", "done", "row", "first", "item", "at", "below", "many"]) (sc := defScope streduced) (by decide +kernel)) (fun _ _ _ _ _ => (pg_name (i := 5) screduced.nd rfl (Or.inl rfl))) (fun _ _ _ _ _ => pts_nil) (fun _ _ _ _ _ => (pe_un un_neg (pv 5))))) pss_nil)
    (pss_cons (ps_for PassesOwn.never rfl (pi_zip (by rfl) B.zip_ (pa_cons (pv 1) (pa_cons (pv 2) pa_nil))) (pg_tup rfl (pgs_cons (pg_name (i := 6) screduced.nd rfl (Or.inl rfl)) (pgs_cons (pg_name (i := 7) screduced.nd rfl (Or.inl rfl)) pgs_nil)))
      (pss_cons (ps_set (i := 8) screduced.nd rfl (Or.inl rfl) (pe_op op_fdivB (pe_ix ix_list (pv 3) (pv 6) (fun _ _ => rfl)) (pe_ix ix_list (pv 7) (pv 6) (fun _ _ => rfl))))
    (pss_one (ps_if (pt_cmpR op_ne (pv 8) pe_int (nomark _)) (pss_one (ps_set (i := 3) screduced.nd rfl (Or.inl rfl) (pe_call OKcombined (hr.mono (by decide)) rfl Dcombined.m Dcombined.F.kp Dcombined.b .nil pass0 (pa_cons pe_int (pa_cons (pv 3) (pa_cons (pe_un un_neg (pv 8)) (pa_cons (pv 7) pa_nil))))))) pss_nil))))
    (pss_cons (ps_set (i := 1) screduced.nd rfl (Or.inl rfl) (pe_op op_cat (pe_lst (pa_cons (pv 4) pa_nil)) (pv 1)))
    (pss_one (ps_set (i := 2) screduced.nd rfl (Or.inl rfl) (pe_op op_cat (pe_lst (pa_cons (pv 3) pa_nil)) (pv 2)))))))))
    (pss_one (ps_ret (pv 2)))))), ?_⟩
    obtain ⟨b, W, B0, n, m, y, gens, Z, rfl, hb, hZ, bZ, lw, ln, hm, sz, q⟩ := h
    obtain ⟨zs, B1, B2⟩ := hb
    have lzs := prd_len B2
    have lZ := hZ.ln
    refine ⟨(by show 0 ≤ sizeLine; decide), fun P0 hP0 => ?_⟩
    have n1 := AL.Same.new (o := .lst []) hP0
    refine ⟨(by show 0 ≤ sizeLine; decide), fun D0 hD0 => ?_⟩
    have n2 := AL.Same.new (o := .lst []) hD0
    have s02 := n1.trans n2
    have hP2 := n2 _ _ (upd_same : upd H P0 (.lst []) P0 = _)
    refine ⟨_, rfl, b, _, rfl, SqL.of (s02 _ _ B1), for_it (walk_rev (K := K) (a := b) (xs := zs.map V.ref)) (fun i σ H' => ∃ (pa da : Addr) (fs : List Addr) (F : List Rw) (v3 v4 v6 v7 v8 : Option V), σ = [some (.ref b), some (.ref pa), some (.ref da), v3, v4, none, v6, v7, v8] ∧ Same H H' ∧ H' pa = some (.lst (F.map fun f => V.int (piv f : Int))) ∧ H' da = some (.lst (fs.map V.ref)) ∧ Paired (LI H') fs F ∧ Hnf W F ∧ Gen F (Z.drop (Z.length - i)) ∧ F.map piv = (Z.drop (Z.length - i)).map piv) ⟨P0, D0, [], [], none, none, none, none, none, rfl, s02, hP2, upd_same, .nil, ⟨(fun f hf => nomatch hf), (fun f hf => nomatch hf), .nil, .nil⟩, by rw [Nat.sub_zero, List.drop_length]; exact Gen.refl _, by rw [Nat.sub_zero, List.drop_length]⟩ (fun i σ H' _ hh => by obtain ⟨_, _, _, _, _, _, _, _, _, _, s, _⟩ := hh; exact SqL.of (s _ _ B1)) ?_ ?_⟩
    · rintro i x σ H0 H1 hi ⟨pa, da, fs, F, v3, v4, v6, v7, v8, rfl, s1, hpa, hda, prf, hF, gF, pF⟩ ⟨rfl, hx⟩
      rw [List.length_map, lzs] at hi hx
      obtain ⟨za, hza, rfl⟩ := map_ref hx
      obtain ⟨r, hr, hr0⟩ := prd_get B2 hza
      have mr := List.mem_of_getElem? hr
      have lr : r.length = W := hZ.E.len r mr
      have rn := hZ.E.nz r mr
      have pW := piv_lt_len rn
      have br := bZ r mr
      have dr : Z.drop (Z.length - (i + 1)) = r :: Z.drop (Z.length - i) := by
        have w := drop_at hr
        rw [show Z.length - 1 - i = Z.length - (i + 1) by omega, show Z.length - (i + 1) + 1 = Z.length - i by omega] at w
        exact w
      have ahd : ∀ g ∈ F, piv r < piv g := fun g hg => by
        have : piv g ∈ (Z.drop (Z.length - i)).map piv := by rw [← pF]; exact List.mem_map.mpr ⟨g, hg, rfl⟩
        obtain ⟨k, hk, e⟩ := List.mem_map.mp this
        have as := hZ.E.asc.sublist (List.drop_sublist (Z.length - (i + 1)) Z)
        rw [dr] at as
        have := (List.pairwise_cons.mp as).1 k hk
        omega
      have lF : F.length = i := by
        have := congrArg List.length pF
        rw [List.length_map, List.length_map, List.length_drop] at this
        omega
      have lfs := prd_len prf
      have bF : ∀ f ∈ F, BdR (2 ^ m) f := fun f hf => (red_bd (K1 := Z.take (Z.length - i)) (K2 := Z.drop (Z.length - i)) (by rw [List.take_append_drop]; exact hZ) hF gF pF f hf).mono hm
      have hr1 : LI H1 za r := s1 _ _ hr0
      refine ⟨_, rfl, za, r, rfl, hr1, fun H2 s2 => ?_⟩
      have gr : atI (r.map V.int) ((piv r : Nat) : Int) = some (.int (vl r (piv r))) := by rw [atI_of (by rw [List.length_map]; omega), List.getElem?_map, vl_at (by omega)]; rfl
      refine ⟨fun σ' H' => ∃ (ra : Addr) (row0 : Rw), σ' = [some (.ref b), some (.ref pa), some (.ref da), some (.ref ra), some (.int (piv r : Int)), none, v6, v7, v8] ∧ Same H1 H' ∧ LI H' ra row0 ∧ row0.length = W ∧ piv row0 = piv r ∧ 0 < vl row0 (piv r) ∧ BdR (2 ^ y) row0 ∧ Gen (row0 :: F) (r :: F), ?_, ?_⟩
      · refine ⟨_, rfl, _, rfl, za, _, _, _, rfl, rfl, SqL.of (hr1.same s2), gr, _, _, rfl, rfl, _, rfl, ?_⟩
        by_cases c : vl r (piv r) < 0
        · rw [decide_eq_true c]
          refine iteT ?_
          refine ⟨_, rfl, za, rfl, ⟨_, SqL.of (hr1.same s2)⟩, fun D hD => ?_⟩
          refine lc_list (K := K) (a := za) (xs := r.map V.int) (fun k H' => Same H2 H' ∧ H' D = some (.lst (((r.map fun v => -v).take k).map V.int))) ⟨AL.Same.new hD, upd_same⟩ (fun k H' _ hh => SqL.of (hh.1 _ _ (hr1.same s2))) ?_ ?_
          · rintro k x H3 hx ⟨s3, hd⟩
            obtain ⟨z, hz, rfl⟩ := map_int hx
            refine ⟨rfl, ?_⟩
            refine ⟨_, rfl, z, rfl, _, hd, ?_, AL.Same.updn s3 hD, ?_⟩
            · rw [List.length_map, List.length_take, List.length_map]; exact Nat.lt_of_le_of_lt (by omega : _ ≤ 1000) (by decide)
            · have g : (r.map fun v => -v)[k]? = some (-z) := by rw [List.getElem?_map, hz]; rfl
              rw [upd_same, List.take_add_one, g, List.map_append]; rfl
          rintro H3 ⟨s3, hd⟩
          rw [List.take_of_length_le (by rw [List.length_map, List.length_map]; exact Nat.le_refl _)] at hd
          have nv : ∀ j, vl (r.map fun v => -v) j = -vl r j := fun j => vl_map (by decide) j
          exact ⟨D, r.map fun v => -v, rfl, s2.trans s3, hd, by rw [List.length_map]; exact lr, piv_is (by rw [nv]; omega) fun j hj => by rw [nv, ahead_zero rn j hj]; rfl, by rw [nv]; omega, fun j => by rw [nv, Int.natAbs_neg]; exact br j, gen_neg nv⟩
        · rw [decide_eq_false c]
          refine iteF ?_
          exact ⟨za, r, rfl, s2, hr1.same s2, lr, rfl, by omega, br, Gen.refl _⟩
      clear s2 H2
      rintro σ' H2 ⟨ra, row0, rfl, s2, hra, lr0, p0, v0, b0, g0⟩
      have hpa2 := s2 _ _ hpa
      have hda2 := s2 _ _ hda
      have prf2 : Paired (LI H2) fs F := paired_mono prf fun _ _ z => z.same s2
      refine ⟨_, rfl, _, rfl, pa, da, _, _, rfl, SqL.of hpa2, SqL.of hda2, ?_⟩
      refine for_it (walk_zip (K := K) (a := pa) (b := da) (xs := F.map fun f => V.int (piv f : Int)) (ys := fs.map V.ref) (n := F.length) (by rw [List.length_map, List.length_map, lfs, Nat.min_self])) (fun j σ H' => ∃ (ra : Addr) (row : Rw) (v6 v7 v8 : Option V), σ = [some (.ref b), some (.ref pa), some (.ref da), some (.ref ra), some (.int (piv r : Int)), none, v6, v7, v8] ∧ Same H2 H' ∧ LI H' ra row ∧ RdI W row0 F j row ∧ BdR (2 ^ (y + (m + 1) * j)) row) ⟨ra, row0, _, _, _, rfl, fun _ _ h => h, hra, rd_start lr0, by rw [Nat.mul_zero, Nat.add_zero]; exact b0⟩ (fun j σ H' _ hh => by obtain ⟨_, _, _, _, _, _, s, _⟩ := hh; exact ⟨SqL.of (s _ _ hpa2), SqL.of (s _ _ hda2)⟩) ?_ ?_
      · rintro j x σ H3 H4 hj ⟨ra, row, v6, v7, v8, rfl, s3, hra3, t, bt⟩ ⟨T0, u1, u2, rfl, hT0, rfl, e1, e2⟩
        obtain ⟨f, hf, e1⟩ : ∃ f, F[j]? = some f ∧ V.int (piv f : Int) = u1 := by
          replace e1 : (F.map fun f => V.int (piv f : Int))[j]? = some u1 := e1
          rw [List.getElem?_map] at e1
          cases e : F[j]? with
          | none => rw [e] at e1; cases e1
          | some f => rw [e] at e1; exact ⟨f, rfl, Option.some.inj e1⟩
        subst e1
        obtain ⟨fa, hfa, rfl⟩ := map_ref e2
        obtain ⟨f', hf', hff⟩ := prd_get prf2 hfa
        rw [hf] at hf'
        cases Option.some.inj hf'
        have mf := List.mem_of_getElem? hf
        have nT := AL.Same.new (o := .tup [.int (piv f : Int), .ref fa]) hT0
        have sT := s3.trans nT
        have hra4 := hra3.same nT
        have hf4 := hff.same sT
        have hp := hF.pos f mf
        have lf := hF.len f mf
        have pf := piv_lt_len (by omega : vl f (piv f) ≠ 0)
        have lrow := t.lr
        have hn : row.length = f.length := by omega
        refine ⟨T0, _, rfl, SqT.of upd_same, rfl, _, _, rfl, _, _, rfl, rfl, ?_⟩
        have g1 : atI (row.map V.int) ((piv f : Nat) : Int) = some (.int (vl row (piv f))) := by rw [atI_of (by rw [List.length_map]; omega), List.getElem?_map, vl_at (by omega)]; rfl
        have g2 : atI (f.map V.int) ((piv f : Nat) : Int) = some (.int (vl f (piv f))) := by rw [atI_of (by rw [List.length_map]; omega), List.getElem?_map, vl_at (by omega)]; rfl
        have brow := bt (piv f)
        have ej : (m + 1) * (j + 1) = (m + 1) * j + (m + 1) := Nat.mul_succ (m + 1) j
        have ej2 : (m + 1) * (j + 1) ≤ (m + 1) * (n + 1) := Nat.mul_le_mul_left _ (by omega)
        have x1 : 2 ^ (y + (m + 1) * j) < 2 ^ 13000 := Nat.pow_lt_pow_right (by decide) (by omega)
        have l35 : 2 ^ 13000 ≤ 2 ^ 13500 := Nat.pow_le_pow_right (by decide) (by decide)
        have st := rd_step hF (fun g hg => by rw [p0]; exact ahd g hg) t hf
        refine ⟨_, rfl, _, rfl, ra, _, _, _, rfl, rfl, SqL.of hra4, g1, _, rfl, _, rfl, fa, _, _, _, rfl, rfl, SqL.of hf4, g2, _, _, rfl, rfl, ⟨by omega, by omega⟩, ?_⟩
        have qb := fdivA_le (vl row (piv f)) (b := vl f (piv f)) (by omega)
        dsimp only
        generalize (vl row (piv f)).fdiv (vl f (piv f)) = qq at *
        have bst : BdR (2 ^ (y + (m + 1) * (j + 1))) (comb 1 row (-qq) f) := by
          refine (comb_bd (a := 1) (b := 2 ^ (y + (m + 1) * j)) (c := 2 ^ (y + (m + 1) * j)) (d := 2 ^ m) hn (by decide) bt (by omega) (bF f mf)).mono ?_
          have h1 : 2 ^ (y + (m + 1) * j) * 1 ≤ 2 ^ (y + (m + 1) * j) * 2 ^ m := Nat.mul_le_mul_left _ (Nat.two_pow_pos m)
          have h2 : 2 ^ (y + (m + 1) * j) * 2 ^ m + 2 ^ (y + (m + 1) * j) * 2 ^ m = 2 ^ (y + (m + 1) * (j + 1)) := by rw [← Nat.pow_add, ej, show y + ((m + 1) * j + (m + 1)) = (y + (m + 1) * j + m) + 1 by omega, Nat.pow_succ 2 (y + (m + 1) * j + m), Nat.mul_two]
          omega
        refine ⟨_, rfl, rfl, _, rfl, ?_⟩
        by_cases c : qq = 0
        · rw [show (!decide (V.int qq = V.int 0)) = false by rw [c, decide_eq_true rfl]; rfl]
          refine iteF ?_
          subst c
          rw [comb_zero hn] at st bst
          exact ⟨ra, row, _, _, _, rfl, sT, hra4, st, bst⟩
        · rw [show (!decide (V.int qq = V.int 0)) = true by rw [decide_eq_false (fun w => c (by injection w))]; rfl]
          refine iteT ?_
          refine ⟨_, rfl, _, rfl, _, rfl, _, rfl, 1, -qq, ra, fa, row, f, rfl, hra4, hf4, hn, by omega, (by show 1 < 2 ^ 13000; exact Nat.lt_of_lt_of_le (by decide : 1 < 2 ^ 1) (Nat.pow_le_pow_right (by decide) (by decide))), by omega, bt.bd (by omega), (bF f mf).bd (by omega), fun D2 H5 hD2 s5 h5 => ?_⟩
          exact ⟨D2, _, _, _, _, rfl, sT.trans s5, h5, st, bst⟩
      · rintro σ H3 ⟨ra, row, v6, v7, v8, rfl, s3, hra3, t, bt⟩
        obtain ⟨h1, h2, h3⟩ := rd_end hF (by rw [p0]; exact v0) (fun g hg => by rw [p0]; exact ahd g hg) t (Nat.le_refl _)
        have hpa3 := s3 _ _ hpa2
        refine ⟨_, rfl, (by show 1 ≤ sizeLine; decide), fun z hz => ?_⟩
        have nz := AL.Same.new (o := .lst [.int (piv r : Int)]) hz
        refine ⟨_, rfl, z, pa, _, _, rfl, rfl, upd_same, nz _ _ hpa3, ?_, fun p hp => ?_⟩
        · rw [List.length_map]; exact Nat.le_of_lt (Nat.lt_of_le_of_lt (show 1 + F.length ≤ 1000 by omega) (by decide))
        have np := AL.Same.new (o := .lst ([.int (piv r : Int)] ++ F.map fun f => V.int (piv f : Int))) hp
        have s35 := nz.trans np
        have s5 := s3.trans s35
        have hp5 : upd (upd H3 z (.lst [.int (piv r : Int)])) p (.lst ([.int (piv r : Int)] ++ F.map fun f => V.int (piv f : Int))) p = some (.lst ((row :: F).map fun f => V.int (piv f : Int))) := by
          rw [upd_same, List.map_cons, h3, p0]; rfl
        generalize upd (upd H3 z (.lst [.int (piv r : Int)])) p (.lst ([.int (piv r : Int)] ++ F.map fun f => V.int (piv f : Int))) = H5 at s35 s5 hp5 ⊢
        have hra5 : LI H5 ra row := s35 _ _ hra3
        refine ⟨_, rfl, (by show 1 ≤ sizeLine; decide), fun z2 hz2 => ?_⟩
        have nz2 := AL.Same.new (o := .lst [.ref ra]) hz2
        refine ⟨_, rfl, z2, da, _, _, rfl, rfl, upd_same, nz2 _ _ (s5 _ _ hda2), ?_, fun p2 hp2 => ?_⟩
        · rw [List.length_map, lfs]; exact Nat.le_of_lt (Nat.lt_of_le_of_lt (show 1 + F.length ≤ 1000 by omega) (by decide))
        have np2 := AL.Same.new (o := .lst ([.ref ra] ++ fs.map V.ref)) hp2
        have s7 := nz2.trans np2
        refine ⟨p, p2, ra :: fs, row :: F, _, _, _, _, _, rfl, s1.trans (s2.trans (s5.trans s7)), s7 _ _ hp5, upd_same, .cons (hra5.same s7) (paired_mono prf2 fun _ _ z => (z.same s5).same s7), h1, ?_, ?_⟩
        · rw [dr]
          exact h2.trans (g0.trans (gen_app (Gen.refl [r]) gF))
        · rw [dr, List.map_cons, List.map_cons, h3, p0, pF]
    · rintro σ H1 ⟨pa, da, fs, F, v3, v4, v6, v7, v8, rfl, s1, hpa, hda, prf, hF, gF, pF⟩
      rw [List.length_map, lzs, Nat.sub_self, List.drop_zero] at gF pF
      refine ⟨_, rfl, q da H1 F s1 ⟨fs, hda, prf⟩ hF gF ?_ fun f hf => ?_⟩
      · have := congrArg List.length pF
        rwa [List.length_map, List.length_map] at this
      · exact (red_bd (K1 := []) hZ hF gF pF f hf).mono hm
end
end AL
set_option Elab.async false
set_option maxRecDepth 100000
set_option exponentiation.threshold 70000
set_option maxHeartbeats 1000000
namespace AL
open PySem PySem.Spec PyProof.Rows L2 RZ
section
variable {P : Program} {w : World} {K : PySem.W.Frag} {mg : Str → Option Value} {base : Heap}

def rListK (K : PySem.W.Frag) : List V → Hp → VK → Prop := fun xs H Q => ∃ p ys, xs = [V.ref p] ∧ (SqL K H p ys ∨ SqT K H p ys) ∧ ∀ l, H l = none → Q (.ref l) (upd H l (.lst ys))
theorem call_listK {X : Cx} : CallR X (.type "list") (rListK X.K) := call_list_of
/-- hermite_rows(rows) -/
def spHr : Sp := fun vs H Q _ => ∃ (w : Addr) (W B m C : Nat) (rows : List Rw), vs = [.ref w] ∧ RowsA H w rows ∧ (∀ r ∈ rows, r.length = W) ∧ W ≤ 100 ∧ rows.length ≤ 19 ∧ (∀ r ∈ rows, ∀ v ∈ r, v.natAbs ≤ B) ∧ B ≤ 2 ^ (m + 1) ∧ Mn rows.length C rows ∧ rows.length * C ≤ 2 ^ m ∧ (m + 1) * (3 * rows.length + 1) + 2 < 13000 ∧
  ∀ D H' F, Same H H' → RowsZ H' D F → Hnf W F → Gen F rows → F.length ≤ rows.length → (∀ f ∈ F, BdR (2 ^ m) f) → Q (.ref D) H'
theorem gen_take {rows F Z : List Rw} {i : Nat} {r : Rw} (h : rows[i]? = some r) (g : Gen F (rows.take i)) (k : Gen Z (F ++ [r])) : Gen Z (rows.take (i + 1)) := by
  rw [List.take_add_one, h]
  exact k.trans (gen_app g (Gen.refl [r]))

abbrev sthermite_rows : Stmt := top 5
theorem schermite_rows : FnScope ["rows", "basis", "row"] ["rows"] (defScope sthermite_rows) := ⟨rfl, rfl, rfl, by decide +kernel, rfl, by decide +kernel, by decide +kernel⟩
theorem okhermite_rows (B : Blt mg)  {fcombined : Addr} {fdcombined : FuncData} (Dcombined : DefAt K mg "combined" stcombined ["many", "one", "times", "other"] fcombined fdcombined) {fpivot_of : Addr} {fdpivot_of : FuncData} (Dpivot_of : DefAt K mg "pivot_of" stpivot_of ["row"] fpivot_of fdpivot_of) {freduced : Addr} {fdreduced : FuncData} (Dreduced : DefAt K mg "reduced" streduced ["rows"] freduced fdreduced) {fbezout : Addr} {fdbezout : FuncData} (Dbezout : DefAt K mg "bezout" stbezout ["one", "other"] fbezout fdbezout) {ftaken_in : Addr} {fdtaken_in : FuncData} (Dtaken_in : DefAt K mg "taken_in" sttaken_in ["basis", "row"] ftaken_in fdtaken_in) {fhermite_rows : Addr} {fdhermite_rows : FuncData} (Dhermite_rows : DefAt K mg "hermite_rows" sthermite_rows ["rows"] fhermite_rows fdhermite_rows) : FnOk P w K mg base CX0 3 fhermite_rows fdhermite_rows ["rows"] spHr := by
  have OKreduced : FnOk P w K mg base CX0 2 freduced fdreduced ["rows"] spRd := okreduced B  Dcombined Dpivot_of Dreduced
  have OKtaken_in : FnOk P w K mg base CX0 2 ftaken_in fdtaken_in ["basis", "row"] spTk := oktaken_in B  Dbezout Dcombined Dpivot_of Dtaken_in
  refine Dhermite_rows.F.ok schermite_rows (fun vs H Q E h => ?_) (fun cdv A outer s H vs Q E hr h => ?_)
  · obtain ⟨w, W, B0, m, C0, rows, rfl, _⟩ := h; rfl
  · have hu := hu_of hr
    refine ⟨_, (pss_cons (ps_set (i := 1) schermite_rows.nd rfl (Or.inl rfl) (pe_lst pa_nil))
    (pss_cons (ps_for PassesOwn.never rfl (pi_seq (pv 0)) (pg_name (i := 2) schermite_rows.nd rfl (Or.inl rfl))
      (pss_one (ps_set (i := 1) schermite_rows.nd rfl (Or.inl rfl) (pe_call OKreduced (hr.mono (by decide)) rfl Dreduced.m Dreduced.F.kp Dreduced.b .nil pass0 (pa_cons (pe_call OKtaken_in (hr.mono (by decide)) rfl Dtaken_in.m Dtaken_in.F.kp Dtaken_in.b .nil pass0 (pa_cons (pv 1) (pa_cons (pe_callTy (call_listK : CallR _ _ (rListK K)) (by rfl) B.list_ (by decide +kernel) (pa_cons (pv 2) pa_nil)) pa_nil))) pa_nil)))))
    (pss_one (ps_ret (pv 1))))), ?_⟩
    obtain ⟨w, W, B0, m, C0, rows, rfl, hw, hl, lw, lr, hB, Bm, hC, hm, sz, q⟩ := h
    obtain ⟨as, W1, W2⟩ := hw
    obtain ⟨kk, sq⟩ := sq_of0 (K := K) W1
    have las := prd_len W2
    refine ⟨(by show 0 ≤ sizeLine; decide), fun b0 hb0 => ?_⟩
    have n1 := AL.Same.new (o := .lst []) hb0
    refine ⟨_, rfl, w, kk, rfl, ⟨_, sq _ n1⟩, for_seq (K := K) (a := w) (k := kk) (xs := as.map V.ref) (fun i σ H' => ∃ (ba : Addr) (F : List Rw) (v2 : Option V), σ = [some (.ref w), some (.ref ba), v2] ∧ Same H H' ∧ RowsZ H' ba F ∧ Hnf W F ∧ Gen F (rows.take i) ∧ F.length ≤ i ∧ ∀ f ∈ F, BdR (2 ^ m) f) ⟨b0, [], none, rfl, n1, ⟨[], upd_same, .nil⟩, ⟨(fun f hf => nomatch hf), (fun f hf => nomatch hf), .nil, .nil⟩, by rw [List.take_zero]; exact Gen.refl _, Nat.le_refl _, (fun f hf => nomatch hf)⟩ (fun i σ H' _ hh => by obtain ⟨_, _, _, _, s, _⟩ := hh; exact sq _ s) ?_ ?_⟩
    · rintro i x σ H1 hx ⟨ba, F, v2, rfl, s1, hba, hF, gF, lF, bF⟩
      obtain ⟨a, ha, rfl⟩ := map_ref hx
      obtain ⟨r, hr, hra⟩ := prd_get W2 ha
      have il := (List.getElem?_eq_some_iff.mp hr).1
      have mr := List.mem_of_getElem? hr
      have lrr := hl r mr
      have hra1 := hra.same s1
      have br : BdR B0 r := bd_len (W := W).mpr (hB r mr)
      have e0 : (m + 1) * (F.length + 1) ≤ (m + 1) * rows.length := Nat.mul_le_mul_left _ (by omega)
      have e1 : (m + 1) * (3 * rows.length + 1) = 3 * ((m + 1) * rows.length) + (m + 1) := by rw [Nat.mul_add, Nat.mul_one, Nat.mul_left_comm]
      have e2 : (m + 1) * (rows.length + 1) = (m + 1) * rows.length + (m + 1) := Nat.mul_succ _ _
      refine ⟨_, rfl, _, rfl, a, _, rfl, hra1.seq, fun D0 hD0 => ?_⟩
      have n0 := AL.Same.new (o := .lst (r.map V.int)) hD0
      refine ⟨ba, D0, W, m, F, r, rfl, hba.same n0, upd_same, hF, bF, lrr, br.mono Bm, lw, by omega, by omega, fun D2 H3 Z s3 hZ eZ gZ bZ lZ => ?_⟩
      have gZ' := gen_take hr gF gZ
      have tk : ∀ q ∈ rows.take (i + 1), q ∈ rows := fun q hq => List.mem_of_mem_take hq
      refine ⟨D2, W, C0, rows.length, m, 2 * ((m + 1) * (F.length + 1)) + 2, rows.take (i + 1), Z, rfl, hZ, ⟨eZ, fun q hq => hl q (tk q hq), gZ'.1, gZ'.2, hC.sub tk, by omega⟩, bZ, lw, by omega, hm, by omega, fun D3 H4 F' s4 hF' eF' gF' lF' bF' => ?_⟩
      exact ⟨D3, F', _, rfl, s1.trans (n0.trans (s3.trans s4)), hF', eF', gF'.trans gZ', by omega, bF'⟩
    · rintro σ H1 ⟨ba, F, v2, rfl, s1, hba, hF, gF, lF, bF⟩
      rw [List.length_map, las] at gF lF
      rw [List.take_length] at gF
      exact ⟨_, rfl, q ba H1 F s1 hba hF gF lF bF⟩
end
end AL
set_option Elab.async false
set_option maxRecDepth 100000
set_option exponentiation.threshold 70000
set_option maxHeartbeats 1000000
namespace AL
open PySem PySem.Spec PyProof.Rows L2 RZ
section
variable {P : Program} {w : World} {K : PySem.W.Frag} {mg : Str → Option Value} {base : Heap}
theorem cutV_from {xs : List V} (i : Nat) : cutV xs (some (i : Int)) none = xs.drop i := by
  unfold cutV
  rw [HT.sIx_nat, HT.sIx_none]
  by_cases h : i ≤ xs.length
  · rw [Nat.min_eq_left h, List.take_of_length_le (by rw [List.length_drop]; omega)]
  · rw [Nat.min_eq_right (by omega), List.drop_eq_nil_of_le (by omega), List.drop_eq_nil_of_le (by omega)]; simp
theorem cutV_to {xs : List V} (i : Nat) : cutV xs none (some (i : Int)) = xs.take i := by
  unfold cutV
  rw [HT.sIx_none, HT.sIx_nat, List.drop_zero, Nat.sub_zero]
  by_cases h : i ≤ xs.length
  · rw [Nat.min_eq_left h]
  · rw [Nat.min_eq_right (by omega), List.take_of_length_le (Nat.le_refl _), List.take_of_length_le (by omega)]

/-- rows with an identity beside them -/
def wideR (rows : List Rw) : List Rw := List.zipWith (fun r u => r ++ u) rows (idM rows.length)
theorem wideR_len (rows : List Rw) : (wideR rows).length = rows.length := by unfold wideR; rw [List.length_zipWith, idM_len, Nat.min_self]
theorem wideR_at {rows : List Rw} {i : Nat} {r : Rw} (h : rows[i]? = some r) : (wideR rows)[i]? = some (r ++ unitR rows.length i) := by
  have il := (List.getElem?_eq_some_iff.mp h).1
  unfold wideR
  rw [List.getElem?_zipWith, h]
  unfold idM
  rw [List.getElem?_map, List.getElem?_range il]; rfl
/-- hermite_pair(rows) -/
def spHp : Sp := fun vs H Q _ => ∃ (w : Addr) (n B m C : Nat) (rows : List Rw), vs = [.ref w] ∧ RowsT H w rows ∧ rows ≠ [] ∧ (∀ r ∈ rows, r.length = n) ∧ n + rows.length ≤ 100 ∧ rows.length ≤ 19 ∧ (∀ r ∈ rows, ∀ v ∈ r, v.natAbs ≤ B) ∧ 1 ≤ B ∧ B ≤ 2 ^ (m + 1) ∧ Mn rows.length C (wideR rows) ∧ rows.length * C ≤ 2 ^ m ∧ (m + 1) * (3 * rows.length + 1) + 2 < 13000 ∧
  ∀ t l z H' F, Same H H' → H' t = some (.tup [.ref l, .ref z]) → RowsZ H' l (F.map (List.drop n)) → RowsZ H' z (F.map (List.take n)) → Hnf (n + rows.length) F → Gen F (wideR rows) → F.length ≤ rows.length → (∀ f ∈ F, BdR (2 ^ m) f) → Q (.ref t) H'

abbrev sthermite_pair : Stmt := top 9
theorem schermite_pair : FnScope ["rows", "width", "wide", "row", "unit", "done"] ["rows"] (defScope sthermite_pair) := ⟨rfl, rfl, rfl, by decide +kernel, rfl, by decide +kernel, by decide +kernel⟩
theorem okhermite_pair (B : Blt mg)  {fcombined : Addr} {fdcombined : FuncData} (Dcombined : DefAt K mg "combined" stcombined ["many", "one", "times", "other"] fcombined fdcombined) {fpivot_of : Addr} {fdpivot_of : FuncData} (Dpivot_of : DefAt K mg "pivot_of" stpivot_of ["row"] fpivot_of fdpivot_of) {freduced : Addr} {fdreduced : FuncData} (Dreduced : DefAt K mg "reduced" streduced ["rows"] freduced fdreduced) {fbezout : Addr} {fdbezout : FuncData} (Dbezout : DefAt K mg "bezout" stbezout ["one", "other"] fbezout fdbezout) {ftaken_in : Addr} {fdtaken_in : FuncData} (Dtaken_in : DefAt K mg "taken_in" sttaken_in ["basis", "row"] ftaken_in fdtaken_in) {fhermite_rows : Addr} {fdhermite_rows : FuncData} (Dhermite_rows : DefAt K mg "hermite_rows" sthermite_rows ["rows"] fhermite_rows fdhermite_rows) {fidentity : Addr} {fdidentity : FuncData} (Didentity : DefAt K mg "identity" stidentity ["many"] fidentity fdidentity) {fhermite_pair : Addr} {fdhermite_pair : FuncData} (Dhermite_pair : DefAt K mg "hermite_pair" sthermite_pair ["rows"] fhermite_pair fdhermite_pair) : FnOk P w K mg base CX0 4 fhermite_pair fdhermite_pair ["rows"] spHp := by
  have OKhermite_rows : FnOk P w K mg base CX0 3 fhermite_rows fdhermite_rows ["rows"] spHr := okhermite_rows B  Dcombined Dpivot_of Dreduced Dbezout Dtaken_in Dhermite_rows
  have OKidentity : FnOk P w K mg base CX0 1 fidentity fdidentity ["many"] spId := okidentity B  Didentity
  refine Dhermite_pair.F.ok schermite_pair (fun vs H Q E h => ?_) (fun cdv A outer s H vs Q E hr h => ?_)
  · obtain ⟨w, n, B0, m, C0, rows, rfl, _⟩ := h; rfl
  · have hu := hu_of hr
    refine ⟨_, (pss_cons (ps_set (i := 1) schermite_pair.nd rfl (Or.inr rfl) (pe_callB call_len_seq (by rfl) B.len_ (by decide +kernel) (pa_cons (pe_ix ix_list (pv 0) pe_int (fun _ _ => rfl)) pa_nil)))
    (pss_cons (ps_setLc (i := 2) (own := [("row", 3), ("unit", 4)]) (g := (gTup K 2 (gCons (gName 3) (gCons (gName 4) gNil)))) (tt := tYes) rfl schermite_pair.nd rfl rfl (sw_true rfl rfl rfl (by decide +kernel)) (pi_zip (by rfl) B.zip_ (pa_cons (pv 0) (pa_cons (pe_call OKidentity (hr.mono (by decide)) rfl Didentity.m Didentity.F.kp Didentity.b .nil pass0 (pa_cons (pe_callB (call_lenK : CallR _ (.builtin "len") (rLenK K)) (by rfl) B.len_ (by decide +kernel) (pa_cons (pv 0) pa_nil)) pa_nil)) pa_nil))) (blkOk_by (own := [("row", 3), ("unit", 4)]) (N := ["rows", "width", "wide", "row", "unit", "done"]) (sc := defScope sthermite_pair) (by decide +kernel)) (fun _ _ _ _ _ => (pg_tup rfl (pgs_cons (pg_name (i := 3) schermite_pair.nd rfl (Or.inl rfl)) (pgs_cons (pg_name (i := 4) schermite_pair.nd rfl (Or.inl rfl)) pgs_nil)))) (fun _ _ _ _ _ => pts_nil) (fun _ _ _ _ _ => (pe_op op_cat (pe_callTy (call_listK : CallR _ _ (rListK K)) (by rfl) B.list_ (by decide +kernel) (pa_cons (pv 3) pa_nil)) (pv 4))))
    (pss_cons (ps_set (i := 5) schermite_pair.nd rfl (Or.inl rfl) (pe_call OKhermite_rows (hr.mono (by decide)) rfl Dhermite_rows.m Dhermite_rows.F.kp Dhermite_rows.b .nil pass0 (pa_cons (pv 2) pa_nil)))
    (pss_one (ps_ret (pe_tup (pa_cons (pe_lc (own := [("row", 3)]) (g := gName 3) (tt := tYes) rfl schermite_pair.nd (pi_list (pv 5)) (blkOk_by (own := [("row", 3)]) (N := ["rows", "width", "wide", "row", "unit", "done"]) (sc := defScope sthermite_pair) (by decide +kernel)) (fun _ _ _ _ _ => (pg_name (i := 3) schermite_pair.nd rfl (Or.inl rfl))) (fun _ _ _ _ _ => pts_nil) (fun _ _ _ _ _ => (pe_slice (sl_list : SlR _ (rSlL K)) (pv 3) (po_some (pv 1)) po_none))) (pa_cons (pe_lc (own := [("row", 3)]) (g := gName 3) (tt := tYes) rfl schermite_pair.nd (pi_list (pv 5)) (blkOk_by (own := [("row", 3)]) (N := ["rows", "width", "wide", "row", "unit", "done"]) (sc := defScope sthermite_pair) (by decide +kernel)) (fun _ _ _ _ _ => (pg_name (i := 3) schermite_pair.nd rfl (Or.inl rfl))) (fun _ _ _ _ _ => pts_nil) (fun _ _ _ _ _ => (pe_slice (sl_list : SlR _ (rSlL K)) (pv 3) po_none (po_some (pv 1))))) pa_nil)))))))), ?_⟩
    obtain ⟨w, n, B0, m, C0, rows, rfl, hw, ne, hl, lw, lr, hB, B1, Bm, hC, hm, sz, q⟩ := h
    obtain ⟨as, W1, W2⟩ := id hw
    have las := prd_len W2
    obtain ⟨r0, rows', hrs⟩ : ∃ r0 rows', rows = r0 :: rows' := by
      cases rows with
      | nil => exact absurd rfl ne
      | cons r0 rows' => exact ⟨r0, rows', rfl⟩
    obtain ⟨a0, as', has⟩ : ∃ a0 as', as = a0 :: as' := by
      cases as with
      | nil => rw [hrs] at las; simp at las
      | cons a0 as' => exact ⟨a0, as', rfl⟩
    have h0 : LT H a0 r0 := by rw [hrs, has] at W2; cases W2 with | cons z _ => exact z
    have l0 := hl r0 (by rw [hrs]; exact List.mem_cons_self ..)
    have g0 : atI (as.map V.ref) 0 = some (.ref a0) := by rw [has]; exact (atI_of (by rw [List.length_map, List.length_cons]; omega : 0 < _))
    refine ⟨_, rfl, w, _, _, _, rfl, rfl, SqL.of W1, g0, a0, _, rfl, h0.seq, ?_⟩
    rw [List.length_map, l0]
    refine ⟨_, rfl, _, rfl, w, _, rfl, .inl (SqL.of W1), rows.length, by rw [List.length_map, las]; rfl, by omega, fun ia H1 hia s1 hI => ?_⟩
    obtain ⟨us, I1, I2⟩ := hI
    have lus := prd_len I2
    rw [idM_len] at lus
    refine ⟨w, ia, _, _, rfl, SqL.of (s1 _ _ W1), SqL.of I1, fun D hD => ?_⟩
    refine lc_it (walk_zip (K := K) (a := w) (b := ia) (xs := as.map V.ref) (ys := us.map V.ref) (n := rows.length) (by rw [List.length_map, List.length_map, las, lus, Nat.min_self])) (fun i H' => Same H1 H' ∧ ∃ bs : List Addr, H' D = some (.lst (bs.map V.ref)) ∧ Paired (fun a r => a ≠ D ∧ H' a = some (.lst (r.map V.int))) bs ((wideR rows).take i)) ⟨AL.Same.new hD, [], upd_same, .nil⟩ (fun i H' _ hh => ⟨SqL.of (hh.1 _ _ (s1 _ _ W1)), SqL.of (hh.1 _ _ I1)⟩) ?_ ?_
    · rintro i x H2 H3 hi ⟨s2, bs, hd, pr⟩ ⟨T0, u1, u2, rfl, hT0, rfl, e1, e2⟩
      obtain ⟨a, ha, rfl⟩ := map_ref e1
      obtain ⟨ua, hua, rfl⟩ := map_ref e2
      obtain ⟨r, hr, hra⟩ := prd_get W2 ha
      obtain ⟨u, hu, hua0⟩ := prd_get I2 hua
      have eu : u = unitR rows.length i := by
        unfold idM at hu
        rw [List.getElem?_map, List.getElem?_range hi] at hu
        exact (Option.some.inj hu).symm
      subst eu
      have nT := AL.Same.new (o := .tup [.ref a, .ref ua]) hT0
      have sT := s2.trans nT
      have hra4 := hra.same (s1.trans sT)
      have hu4 : LI (upd H2 T0 (.tup [.ref a, .ref ua])) ua (unitR rows.length i) := sT _ _ hua0
      have lrr := hl r (List.mem_of_getElem? hr)
      refine ⟨T0, _, rfl, SqT.of upd_same, rfl, _, _, rfl, _, _, rfl, rfl, rfl, ?_⟩
      refine ⟨_, rfl, a, _, rfl, hra4.seq, fun D0 hD0 => ?_⟩
      have n0 := AL.Same.new (o := .lst (r.map V.int)) hD0
      refine ⟨_, rfl, D0, ua, _, _, rfl, rfl, upd_same, n0 _ _ hu4, ?_, fun p hp => ?_⟩
      · rw [List.length_map, List.length_map, lrr, unitR_len]; exact Nat.le_of_lt (Nat.lt_of_le_of_lt (by omega : _ ≤ 1000) (by decide))
      have np := AL.Same.new (o := .lst (r.map V.int ++ (unitR rows.length i).map V.int)) hp
      have s04 := nT.trans (n0.trans np)
      have hp5 : upd (upd (upd H2 T0 (.tup [.ref a, .ref ua])) D0 (.lst (r.map V.int))) p (.lst (r.map V.int ++ (unitR rows.length i).map V.int)) p = some (.lst ((r ++ unitR rows.length i).map V.int)) := by rw [upd_same, List.map_append]
      generalize upd (upd (upd H2 T0 (.tup [.ref a, .ref ua])) D0 (.lst (r.map V.int))) p (.lst (r.map V.int ++ (unitR rows.length i).map V.int)) = H5 at s04 hp5 ⊢
      have hd5 := s04 _ _ hd
      have pD : p ≠ D := fun z => by rw [z, n0 _ _ (nT _ _ hd)] at hp; cases hp
      have lbs := prd_len pr
      rw [List.length_take, wideR_len] at lbs
      obtain ⟨r1, r2⟩ := rowsZ_snoc hd5 (paired_mono pr fun _ _ z => ⟨z.1, s04 _ _ z.2⟩) pD hp5
      refine ⟨_, hd5, ?_, AL.Same.updn (s2.trans s04) hD, bs ++ [p], r1, ?_⟩
      · rw [List.length_map, lbs]; exact Nat.lt_of_le_of_lt (by omega : _ ≤ 1000) (by decide)
      · rw [List.take_add_one, wideR_at hr]; exact r2
    rintro H2 ⟨s2, bs, hd, pr⟩
    rw [List.take_of_length_le (by rw [wideR_len]; exact Nat.le_refl _)] at pr
    have wl : ∀ r ∈ wideR rows, r.length = n + rows.length ∧ ∀ v ∈ r, v.natAbs ≤ B0 := fun r hr => by
      obtain ⟨i, hi⟩ := List.mem_iff_getElem?.mp hr
      have il := (List.getElem?_eq_some_iff.mp hi).1
      rw [wideR_len] at il
      rw [wideR_at (List.getElem?_eq_getElem il)] at hi
      obtain rfl := Option.some.inj hi
      have m0 := List.getElem_mem il
      refine ⟨by rw [List.length_append, unitR_len, hl _ m0], fun v hv => ?_⟩
      rcases List.mem_append.mp hv with z | z
      · exact hB _ m0 v z
      · unfold unitR at z
        obtain ⟨k, _, rfl⟩ := List.mem_map.mp z
        split
        · exact B1
        · exact Nat.zero_le _
    refine ⟨_, rfl, D, n + rows.length, B0, m, C0, wideR rows, rfl, RowsT.toA <| RowsZ.toT ⟨bs, hd, paired_mono pr fun _ _ z => z.2⟩, fun r hr => (wl r hr).1, by omega, by rw [wideR_len]; exact lr, fun r hr => (wl r hr).2, Bm, by rw [wideR_len]; exact hC, by rw [wideR_len]; exact hm, by rw [wideR_len]; exact sz, fun dn H3 F s3 hF hnf gF lF bF => ?_⟩
    rw [wideR_len] at lF
    obtain ⟨fs, F1, F2⟩ := hF
    have lfs := prd_len F2
    refine ⟨_, rfl, dn, rfl, ⟨_, SqL.of F1⟩, fun L1 hL1 => ?_⟩
    refine lc_list (K := K) (a := dn) (xs := fs.map V.ref) (fun i H' => Same H3 H' ∧ ∃ ls : List Addr, H' L1 = some (.lst (ls.map V.ref)) ∧ Paired (fun a r => a ≠ L1 ∧ H' a = some (.lst (r.map V.int))) ls ((F.map (List.drop n)).take i)) ⟨AL.Same.new hL1, [], upd_same, .nil⟩ (fun i H' _ hh => SqL.of (hh.1 _ _ F1)) ?_ ?_
    · rintro i x H4 hx ⟨s4, ls, hd, pr⟩
      obtain ⟨a, ha, rfl⟩ := map_ref hx
      obtain ⟨f, hf, hfa⟩ := prd_get F2 ha
      refine ⟨rfl, ?_⟩
      refine ⟨_, rfl, _, rfl, _, rfl, a, _, rfl, SqL.of (s4 _ _ hfa), fun p hp => ?_⟩
      rw [cutV_from, show (f.map V.int).drop n = (f.drop n).map V.int from List.map_drop.symm]
      have np := AL.Same.new (o := .lst ((f.drop n).map V.int)) hp
      have hd5 := np _ _ hd
      have pD : p ≠ L1 := fun z => by rw [z, hd] at hp; cases hp
      have lls := prd_len pr
      rw [List.length_take, List.length_map] at lls
      obtain ⟨r1, r2⟩ := rowsZ_snoc hd5 (paired_mono pr fun _ _ z => ⟨z.1, np _ _ z.2⟩) pD upd_same
      refine ⟨_, hd5, ?_, AL.Same.updn (s4.trans np) hL1, ls ++ [p], r1, ?_⟩
      · rw [List.length_map, lls]; exact Nat.lt_of_le_of_lt (by omega : _ ≤ 1000) (by decide)
      · rw [List.take_add_one, List.getElem?_map, hf]; exact r2
    
    rintro H4 ⟨s4, ls, hL, prL⟩
    rw [List.take_of_length_le (by rw [List.length_map, List.length_map, lfs]; exact Nat.le_refl _)] at prL
    replace F1 := s4 _ _ F1
    replace F2 : Paired (fun a r => H4 a = some (.lst (r.map V.int))) fs F := paired_mono F2 fun _ _ z => s4 _ _ z
    refine ⟨_, rfl, dn, rfl, ⟨_, SqL.of F1⟩, fun L2 hL2 => ?_⟩
    refine lc_list (K := K) (a := dn) (xs := fs.map V.ref) (fun i H' => Same H4 H' ∧ ∃ ls : List Addr, H' L2 = some (.lst (ls.map V.ref)) ∧ Paired (fun a r => a ≠ L2 ∧ H' a = some (.lst (r.map V.int))) ls ((F.map (List.take n)).take i)) ⟨AL.Same.new hL2, [], upd_same, .nil⟩ (fun i H' _ hh => SqL.of (hh.1 _ _ F1)) ?_ ?_
    · rintro i x H5 hx ⟨s5, ls, hd, pr⟩
      obtain ⟨a, ha, rfl⟩ := map_ref hx
      obtain ⟨f, hf, hfa⟩ := prd_get F2 ha
      refine ⟨rfl, ?_⟩
      refine ⟨_, rfl, _, rfl, _, rfl, a, _, rfl, SqL.of (s5 _ _ hfa), fun p hp => ?_⟩
      rw [cutV_to, show (f.map V.int).take n = (f.take n).map V.int from List.map_take.symm]
      have np := AL.Same.new (o := .lst ((f.take n).map V.int)) hp
      have hd5 := np _ _ hd
      have pD : p ≠ L2 := fun z => by rw [z, hd] at hp; cases hp
      have lls := prd_len pr
      rw [List.length_take, List.length_map] at lls
      obtain ⟨r1, r2⟩ := rowsZ_snoc hd5 (paired_mono pr fun _ _ z => ⟨z.1, np _ _ z.2⟩) pD upd_same
      refine ⟨_, hd5, ?_, AL.Same.updn (s5.trans np) hL2, ls ++ [p], r1, ?_⟩
      · rw [List.length_map, lls]; exact Nat.lt_of_le_of_lt (by omega : _ ≤ 1000) (by decide)
      · rw [List.take_add_one, List.getElem?_map, hf]; exact r2
    
    rintro H5 ⟨s5, zs, hZ, prZ⟩
    rw [List.take_of_length_le (by rw [List.length_map, List.length_map, lfs]; exact Nat.le_refl _)] at prZ
    refine ⟨(by show 2 ≤ sizeLine; decide), fun t ht => ?_⟩
    have nt := AL.Same.new (o := .tup [.ref L1, .ref L2]) ht
    have s45 := s5.trans nt
    exact q t L1 L2 _ F (s1.trans (s2.trans (s3.trans (s4.trans s45)))) upd_same ⟨ls, s45 _ _ hL, paired_mono prL fun _ _ z => s45 _ _ z.2⟩ ⟨zs, nt _ _ hZ, paired_mono prZ fun _ _ z => nt _ _ z.2⟩ hnf gF lF bF
end
end AL
set_option Elab.async false
set_option maxRecDepth 100000
set_option exponentiation.threshold 70000
set_option maxHeartbeats 1000000
namespace AL
open PySem PySem.Spec PyProof.Rows L2 RZ
section
variable {P : Program} {w : World} {K : PySem.W.Frag} {mg : Str → Option Value} {base : Heap}

/-- whether what stands ahead is 0 -/
def kzB (u : Nat) (f : Rw) : Bool := !((f.take u).any fun k => decide (k ≠ 0))
def kerF (u : Nat) (F : List Rw) : List Rw := (F.filter (kzB u)).map (List.drop u)
/-- kernel_rows(rows) -/
def spKr : Sp := fun vs H Q _ => ∃ (w : Addr) (L B m : Nat) (rows : List Rw), vs = [.ref w] ∧ RowsT H w rows ∧ rows ≠ [] ∧ (∀ r ∈ rows, r.length = L) ∧ 0 < L ∧ rows.length + L ≤ 100 ∧ L ≤ 19 ∧ (∀ r ∈ rows, ∀ v ∈ r, v.natAbs ≤ B) ∧ 1 ≤ B ∧ B ≤ 2 ^ (m + 1) ∧ L * (facB B L * facB B L) ≤ 2 ^ m ∧ (m + 1) * (3 * L + 1) + 2 < 13000 ∧
  ∀ D H' F, Same H H' → RowsZ H' D (kerF rows.length F) → Hnf (rows.length + L) F → Gen F (wideR (trM L rows)) → F.length ≤ L → (∀ f ∈ F, BdR (2 ^ m) f) → Q (.ref D) H'
theorem trM_row {L : Nat} {rows : List Rw} {r : Rw} (h : r ∈ trM L rows) : r.length = rows.length ∧ ∃ j, j < L ∧ r = rows.map fun q => vl q j := by
  unfold trM at h
  obtain ⟨j, hj, rfl⟩ := List.mem_map.mp h
  exact ⟨List.length_map _, j, List.mem_range.mp hj, rfl⟩
theorem trM_bd {L B : Nat} {rows : List Rw} (h : ∀ r ∈ rows, ∀ v ∈ r, v.natAbs ≤ B) : ∀ r ∈ trM L rows, ∀ v ∈ r, v.natAbs ≤ B := fun r hr v hv => by
  obtain ⟨_, j, _, rfl⟩ := trM_row hr
  obtain ⟨q, hq, rfl⟩ := List.mem_map.mp hv
  exact bd_len (W := 0).mpr (h q hq) j

end
end AL
set_option Elab.async false
set_option maxRecDepth 100000
set_option exponentiation.threshold 70000
set_option maxHeartbeats 1000000
namespace AL
open PySem PySem.Spec PyProof.Rows L2 RZ
section
variable {P : Program} {w : World} {K : PySem.W.Frag} {mg : Str → Option Value} {base : Heap}
/-- a sum over the first n -/
def sm : Nat → (Nat → Int) → Int
  | 0, _ => 0
  | n + 1, f => sm n f + f n
theorem sm_congr {f g : Nat → Int} : ∀ {n : Nat}, (∀ t, t < n → f t = g t) → sm n f = sm n g
  | 0, _ => rfl
  | n + 1, h => by unfold sm; rw [sm_congr fun t ht => h t (by omega), h n (by omega)]
theorem sm_zero : ∀ n : Nat, sm n (fun _ => 0) = 0
  | 0 => rfl
  | n + 1 => by unfold sm; rw [sm_zero n]; rfl
theorem sm_lin (a b : Int) (f g : Nat → Int) : ∀ n : Nat, sm n (fun t => a * f t + b * g t) = a * sm n f + b * sm n g
  | 0 => by unfold sm; grind
  | n + 1 => by unfold sm; rw [sm_lin a b f g n]; grind
theorem sm_one {f : Nat → Int} {k : Nat} : ∀ {n : Nat}, k < n → (∀ t, t < n → t ≠ k → f t = 0) → sm n f = f k
  | 0, h, _ => by omega
  | n + 1, h, z => by
    unfold sm
    by_cases e : k = n
    · rw [sm_congr (g := fun _ => 0) fun t ht => z t (by omega) (by omega), sm_zero, e]; grind
    · rw [sm_one (n := n) (by omega) fun t ht => z t (by omega), z n (by omega) (by omega)]; grind
theorem unitR_vl {n j t : Nat} (ht : t < n) : vl (unitR n j) t = if t = j then 1 else 0 := by
  unfold vl unitR
  rw [List.getD_eq_getElem?_getD, List.getElem?_map, List.getElem?_range ht]; rfl

theorem app_vl {a b : Rw} (c : Nat) : vl (a ++ b) c = if c < a.length then vl a c else vl b (c - a.length) := by
  unfold vl
  rw [List.getD_eq_getElem?_getD]
  split
  · rename_i h; rw [List.getElem?_append_left h, ← List.getD_eq_getElem?_getD]
  · rename_i h; rw [List.getElem?_append_right (by omega), ← List.getD_eq_getElem?_getD]
theorem take_vl {f : Rw} {u c : Nat} : vl (f.take u) c = if c < u then vl f c else 0 := by
  by_cases h : c < u
  · rw [if_pos h]; unfold vl
    rw [List.getD_eq_getElem?_getD, List.getElem?_take, if_pos h, ← List.getD_eq_getElem?_getD]
  · rw [if_neg h]; exact vl_out (by rw [List.length_take]; omega)
theorem drop_vl {f : Rw} {u c : Nat} : vl (f.drop u) c = vl f (u + c) := by
  unfold vl
  rw [List.getD_eq_getElem?_getD, List.getElem?_drop, ← List.getD_eq_getElem?_getD]
/-- what stands ahead is the sum of the rows by what stands behind -/
def LinW (U N : Nat) (A : List Rw) (x : Fn) : Prop := ∀ c, c < U → x c = sm N fun i => x (U + i) * vl (A.getD i []) c
theorem linW_cls (U N : Nat) (A : List Rw) : Cls0 (LinW U N A) := by
  refine ⟨fun c _ => ?_, fun {x y} m t hx hy c hc => ?_, fun {x s} s0 h c hc => ?_⟩
  · rw [sm_congr (g := fun _ => 0) fun i _ => Int.zero_mul _, sm_zero]
  · dsimp only
    rw [hx c hc, hy c hc, ← sm_lin]
    exact sm_congr fun i _ => by grind
  · have w := h c hc
    dsimp only at w
    rw [sm_congr (g := fun i => s * (x (U + i) * vl (A.getD i []) c) + 0 * 0) fun i _ => by grind, sm_lin s 0 (fun i => x (U + i) * vl (A.getD i []) c) (fun _ => 0) N] at w
    exact Int.eq_of_mul_eq_mul_left s0 (by omega)
theorem wide_lin {U N : Nat} {A : List Rw} (hA : ∀ r ∈ A, r.length = U) (lA : A.length = N) : ∀ w ∈ wideR A, LinW U N A (vl w) := fun w hw c hc => by
  obtain ⟨i, hi⟩ := List.mem_iff_getElem?.mp hw
  have il := (List.getElem?_eq_some_iff.mp hi).1
  rw [wideR_len] at il
  rw [wideR_at (List.getElem?_eq_getElem il)] at hi
  obtain rfl := Option.some.inj hi
  have lr := hA _ (List.getElem_mem il)
  have e : ∀ k, k < N → vl (A[i] ++ unitR A.length i) (U + k) = if k = i then 1 else 0 := fun k hk => by
    rw [app_vl, if_neg (by omega), lr, show U + k - U = k by omega]
    exact unitR_vl (by omega)
  rw [app_vl, if_pos (by omega), sm_one (k := i) (by omega) fun t ht ne => by rw [e t ht, if_neg ne, Int.zero_mul], e i (by omega), if_pos rfl, Int.one_mul, List.getD_eq_getElem?_getD, List.getElem?_eq_getElem il]; rfl
theorem spn_lin {U N : Nat} {A : List Rw} (hA : ∀ r ∈ A, r.length = U) (lA : A.length = N) {x : Fn} (h : Spn (inR (wideR A)) x) : LinW U N A x :=
  h.clo (linW_cls U N A) fun y ⟨w, hw, e⟩ => by rw [e]; exact wide_lin hA lA w hw
theorem sm_spn {S : Fn → Prop} {A : List Rw} {a : Nat → Int} : ∀ {n : Nat}, (∀ i, i < n → a i = 0 ∨ Spn S (vl (A.getD i []))) → Spn S fun c => sm n fun i => a i * vl (A.getD i []) c
  | 0, _ => Spn.zero
  | n + 1, h => by
    have ih := sm_spn (n := n) fun i hi => h i (by omega)
    rcases h n (by omega) with z | z
    · exact ih.of fun c => by show sm n _ + a n * _ = _; rw [z]; omega
    · exact (Spn.lin 1 (a n) ih z).of fun c => by show sm n _ + a n * _ = _; omega
theorem exq_pzero {r : Fn} : ∀ {P : List Nat} {F : List Nat → Int}, (∀ p ∈ P, r p = 0) → exq r F P = 0
  | [], _, _ => rfl
  | p :: P, F, h => by
    show r p * F P - exq r _ P = 0
    rw [h p (List.mem_cons_self ..), exq_pzero fun q hq => h q (List.mem_cons_of_mem _ hq)]; omega
theorem det_diag : ∀ {R : List Fn} {P : List Nat}, R.length = P.length → (∀ (i j : Nat) (r : Fn) (p : Nat), R[i]? = some r → P[j]? = some p → r p = if i = j then 1 else 0) → det R P = 1
  | [], [], _, _ => rfl
  | [], _ :: _, l, _ => by simp at l
  | _ :: _, [], l, _ => by simp at l
  | r :: R, p :: P, l, h => by
    have ih := det_diag (R := R) (P := P) (by simpa using l) fun i j q k hq hk => by
      have := h (i + 1) (j + 1) q k (by simpa using hq) (by simpa using hk)
      rw [this]
      by_cases e : i = j
      · rw [if_pos e, if_pos (by omega)]
      · rw [if_neg e, if_neg (by omega)]
    have h0 := h 0 0 r p rfl rfl
    rw [if_pos rfl] at h0
    show r p * det R P - exq r (fun Q => det R (p :: Q)) P = 1
    rw [ih, h0, exq_pzero fun q hq => by
      obtain ⟨j, hj⟩ := List.mem_iff_getElem?.mp hq
      have := h 0 (j + 1) r q rfl (by simpa using hj)
      rw [this, if_neg (by omega)]]
    rfl
theorem wide_full {U N W : Nat} {A F : List Rw} (hA : ∀ r ∈ A, r.length = U) (lA : A.length = N) (g : ∀ w ∈ wideR A, Spn (inR F) (vl w)) : N ≤ F.length := by
  have d : det (vR (wideR A)) ((List.range N).map (U + ·)) = 1 := by
    refine det_diag (by rw [List.length_map, wideR_len, List.length_map, List.length_range, lA]) fun i j r p hr hp => ?_
    rw [List.getElem?_map] at hr hp
    cases e : (wideR A)[i]? with
    | none => rw [e] at hr; cases hr
    | some w =>
      rw [e] at hr
      obtain rfl := Option.some.inj hr
      have il := (List.getElem?_eq_some_iff.mp e).1
      rw [wideR_len] at il
      rw [wideR_at (List.getElem?_eq_getElem il)] at e
      obtain rfl := Option.some.inj e
      by_cases hj : j < N
      · rw [List.getElem?_range hj] at hp
        obtain rfl := Option.some.inj hp
        have lr := hA _ (List.getElem_mem il)
        show vl (A[i] ++ unitR A.length i) (U + j) = _
        rw [app_vl, if_neg (by omega), lr, show U + j - U = j by omega, unitR_vl (by omega)]
        by_cases e : i = j
        · rw [if_pos e, if_pos e.symm]
        · rw [if_neg e, if_neg (fun z => e z.symm)]
      · rw [List.getElem?_eq_none (by rw [List.length_range]; omega)] at hp; cases hp
  have := minor_le (F := F) (B := wideR A) (P := (List.range N).map (U + ·)) g (by rw [d]; decide)
  rwa [wideR_len, lA] at this
theorem kz_iff {U : Nat} {f : Rw} (lf : U ≤ f.length) : kzB U f = true ↔ ∀ c, c < U → vl f c = 0 := by
  unfold kzB
  rw [Bool.not_eq_true', List.any_eq_false]
  constructor
  · intro h c hc
    have m : vl (f.take U) c ∈ f.take U := vl_mem (by rw [List.length_take]; omega)
    have := h _ m
    rw [take_vl, if_pos hc] at this
    exact Classical.byContradiction fun z => this (decide_eq_true z)
  · intro h k hk
    obtain ⟨c, hc⟩ := List.mem_iff_getElem?.mp hk
    have cl := (List.getElem?_eq_some_iff.mp hc).1
    rw [List.length_take] at cl
    have e := vl_get hc
    rw [take_vl, if_pos (by omega), h c (by omega)] at e
    rw [← e]; decide
section
variable {U N s : Nat} {A F : List Rw}
/-- a row of the kernel -/
theorem ker_item (hF : Hnf (U + N) F) (g : Gen F (wideR A)) (hA : ∀ r ∈ A, r.length = U) (lA : A.length = N) {u : Rw} (hu : u ∈ kerF U F) : u.length = N ∧ (∃ i, i < N ∧ vl u i ≠ 0) ∧ ∀ c, c < U → (sm N fun i => vl u i * vl (A.getD i []) c) = 0 := by
  unfold kerF at hu
  obtain ⟨f, hf, rfl⟩ := List.mem_map.mp hu
  obtain ⟨mf, kz⟩ := List.mem_filter.mp hf
  have lf := hF.len f mf
  have z := (kz_iff (by omega)).mp kz
  refine ⟨by rw [List.length_drop, lf]; omega, ?_, fun c hc => ?_⟩
  · have p := hF.pos f mf
    have pl := piv_lt_len (by omega : vl f (piv f) ≠ 0)
    have pu : U ≤ piv f := Classical.byContradiction fun c => by have := z (piv f) (by omega); omega
    refine ⟨piv f - U, by omega, ?_⟩
    rw [drop_vl, show U + (piv f - U) = piv f by omega]; omega
  · have w := spn_lin hA lA (g.1 f mf).spn c hc
    rw [z c hc] at w
    rw [sm_congr (g := fun i => vl f (U + i) * vl (A.getD i []) c) fun i _ => by rw [drop_vl]]
    exact w.symm
theorem rel_lt (lA : A.length = N) (rk : RankIs A s) {u : Nat → Int} {k : Nat} (hk : k < N) (uk : u k ≠ 0) (h : ∀ c, (sm N fun i => u i * vl (A.getD i []) c) = 0) : s < N := by
  have lk : k < A.length := by omega
  have le := rk.le (F := A.eraseIdx k) fun r hr => by
    obtain ⟨i, hi⟩ := List.mem_iff_getElem?.mp hr
    have il := (List.getElem?_eq_some_iff.mp hi).1
    have oth : ∀ i, i < A.length → i ≠ k → Spn (inR (A.eraseIdx k)) (vl (A.getD i [])) := fun i hi ne => by
      refine .mem ⟨_, List.mem_eraseIdx_iff_getElem.mpr ⟨i, hi, ne, ?_⟩, rfl⟩
      rw [List.getD_eq_getElem?_getD, List.getElem?_eq_getElem hi]; rfl
    by_cases e : i = k
    · subst e
      have gi : A.getD i [] = r := by rw [List.getD_eq_getElem?_getD, hi]; rfl
      refine Spn.div (s := u i) uk ((Spn.lin (-1) 0 (sm_spn (A := A) (a := fun t => if t = i then 0 else u t) (n := N) fun t ht => ?_) Spn.zero).of fun c => ?_)
      · by_cases e : t = i
        · exact .inl (if_pos e)
        · exact .inr (oth t (by omega) e)
      · have w := h c
        have e1 : (sm N fun t => u t * vl (A.getD t []) c) = 1 * (sm N fun t => (if t = i then 0 else u t) * vl (A.getD t []) c) + 1 * (sm N fun t => if t = i then u i * vl r c else 0) := by
          rw [← sm_lin]
          refine sm_congr fun t _ => ?_
          by_cases e : t = i
          · rw [if_pos e, if_pos e, e, gi]; omega
          · rw [if_neg e, if_neg e]; omega
        have e2 : (sm N fun t => if t = i then u i * vl r c else 0) = u i * vl r c := by
          rw [sm_one (k := i) hk fun t _ ne => if_neg ne, if_pos rfl]
        rw [e1, e2] at w
        omega
    · have := oth i il e
      rwa [List.getD_eq_getElem?_getD, hi] at this
  rw [List.length_eraseIdx, if_pos lk] at le
  omega
/-- the kernel is empty just where all rows are independent -/
theorem ker_rank (hF : Hnf (U + N) F) (g : Gen F (wideR A)) (hA : ∀ r ∈ A, r.length = U) (lA : A.length = N) (rk : RankIs A s) : kerF U F = [] ↔ s = N := by
  have sN : s ≤ N := by
    rw [← lA]
    exact rk.le fun r hr => .mem ⟨r, hr, rfl⟩
  constructor
  · intro h
    have fl : N ≤ F.length := wide_full (W := 0) hA lA fun w hw => (g.2 w hw).spn
    have low : ∀ f ∈ F, piv f < U := fun f hf => Classical.byContradiction fun c => by
      have lf := hF.len f hf
      have kz : kzB U f = true := (kz_iff (by omega)).mpr fun c hc => ahead_zero (hF.ech.nz f hf) c (by omega)
      have : f.drop U ∈ kerF U F := List.mem_map.mpr ⟨f, List.mem_filter.mpr ⟨hf, kz⟩, rfl⟩
      rw [h] at this
      exact nomatch this
    have pv : ∀ f ∈ F, piv (f.take U) = piv f := fun f hf => piv_is (by rw [take_vl, if_pos (low f hf)]; exact hF.ech.nz f hf) fun j hj => by
      rw [take_vl]
      split
      · exact ahead_zero (hF.ech.nz f hf) j hj
      · rfl
    have E : Ech U (F.map (List.take U)) := by
      refine ⟨fun m hm => ?_, fun m hm => ?_, ?_⟩
      · obtain ⟨f, hf, rfl⟩ := List.mem_map.mp hm
        rw [List.length_take, hF.len f hf]; omega
      · obtain ⟨f, hf, rfl⟩ := List.mem_map.mp hm
        rw [pv f hf, take_vl, if_pos (low f hf)]; exact hF.ech.nz f hf
      · rw [List.pairwise_map]
        refine List.Pairwise.imp_of_mem (fun {a b} ha hb o => ?_) hF.asc
        rw [pv a ha, pv b hb]; exact o
    obtain ⟨B, P, lB, _, _, _, hB⟩ := rk.ex
    have le := minor_le (F := B) (B := F.map (List.take U)) (fun m hm => ?_) (ech_det E)
    · rw [List.length_map] at le
      omega
    · obtain ⟨f, hf, rfl⟩ := List.mem_map.mp hm
      have w := spn_lin hA lA (g.1 f hf).spn
      refine (sm_spn (S := inR B) (A := A) (a := fun i => vl f (U + i)) (n := N) fun i hi => .inr ?_).of fun c => ?_
      · rw [List.getD_eq_getElem?_getD, List.getElem?_eq_getElem (by omega)]
        exact hB _ (List.getElem_mem _)
      · rw [take_vl]
        split
        · rename_i hc; exact w c hc
        · rename_i hc
          rw [sm_congr (g := fun _ => 0) fun i hi => by
            rw [vl_out (x := A.getD i []) (by
              rw [List.getD_eq_getElem?_getD, List.getElem?_eq_getElem (by omega)]
              show (A[i]).length ≤ c
              rw [hA _ (List.getElem_mem _)]; omega), Int.mul_zero], sm_zero]
  · intro h
    refine List.eq_nil_iff_forall_not_mem.mpr fun u hu => ?_
    obtain ⟨_, ⟨i, hi, ui⟩, z⟩ := ker_item hF g hA lA hu
    have := rel_lt lA rk (u := vl u) hi ui fun c => by
      by_cases hc : c < U
      · exact z c hc
      · rw [sm_congr (g := fun _ => 0) fun i hi => by
          rw [vl_out (x := A.getD i []) (by
            rw [List.getD_eq_getElem?_getD, List.getElem?_eq_getElem (by omega)]
            show (A[i]).length ≤ c
            rw [hA _ (List.getElem_mem _)]; omega), Int.mul_zero], sm_zero]
    omega
end

end
end AL
set_option Elab.async false
set_option maxRecDepth 100000
set_option exponentiation.threshold 70000
set_option maxHeartbeats 1000000
namespace AL
open PySem PySem.Spec PyProof.Rows L2 RZ
section
variable {P : Program} {w : World} {K : PySem.W.Frag} {mg : Str → Option Value} {base : Heap}

/-- rank_of(rows) -/
def spRo : Sp := fun vs H Q _ => ∃ (w : Addr) (rows : List Rw) (W b M : Nat), vs = [.ref w] ∧ RowsA H w rows ∧ (∀ r ∈ rows, r.length = W) ∧ W ≤ 60 ∧ rows.length ≤ 20 ∧ (∀ r ∈ rows, Bb b r) ∧ (∀ i, ∀ f ∈ spn (rows.take i), Bb M f) ∧ M ≤ 13000 ∧ b + rows.length * (M + 1) ≤ 13000 ∧ ∀ H', Same H H' → Q (.int ((spn rows).length : Nat)) H'

abbrev strank_of : Stmt := top 23
theorem scrank_of : FnScope ["rows"] ["rows"] (defScope strank_of) := ⟨rfl, rfl, rfl, by decide +kernel, rfl, by decide +kernel, by decide +kernel⟩
theorem okrank_of (B : Blt mg) {CGroups : Addr} (Es : ErH K mg CGroups) {fpivot_of : Addr} {fdpivot_of : FuncData} (Dpivot_of : DefAt K mg "pivot_of" stpivot_of ["row"] fpivot_of fdpivot_of) {fcombined : Addr} {fdcombined : FuncData} (Dcombined : DefAt K mg "combined" stcombined ["many", "one", "times", "other"] fcombined fdcombined) {fwithout_item : Addr} {fdwithout_item : FuncData} (Dwithout_item : DefAt K mg "without_item" stwithout_item ["row", "at", "held"] fwithout_item fdwithout_item) {fcleared : Addr} {fdcleared : FuncData} (Dcleared : DefAt K mg "cleared" stcleared ["reduced_rows", "row"] fcleared fdcleared) {fprimitive : Addr} {fdprimitive : FuncData} (Dprimitive : DefAt K mg "primitive" stprimitive ["row"] fprimitive fdprimitive) {fspan_of : Addr} {fdspan_of : FuncData} (Dspan_of : DefAt K mg "span_of" stspan_of ["rows"] fspan_of fdspan_of) {frank_of : Addr} {fdrank_of : FuncData} (Drank_of : DefAt K mg "rank_of" strank_of ["rows"] frank_of fdrank_of) : FnOk P w K mg base CX0 5 frank_of fdrank_of ["rows"] spRo := by
  have OKspan_of : FnOk P w K mg base CX0 4 fspan_of fdspan_of ["rows"] spSpn := okspan_of B Es Dpivot_of Dcombined Dwithout_item Dcleared Dprimitive Dspan_of
  refine Drank_of.F.ok scrank_of (fun vs H Q E h => ?_) (fun cdv A outer s H vs Q E hr h => ?_)
  · obtain ⟨w, rows, W, b, M, rfl, _⟩ := h; rfl
  · have hu := hu_of hr
    refine ⟨_, (pss_one (ps_ret (pe_callB call_len_seq (by rfl) B.len_ (by decide +kernel) (pa_cons (pe_call OKspan_of (hr.mono (by decide)) rfl Dspan_of.m Dspan_of.F.kp Dspan_of.b .nil pass0 (pa_cons (pv 0) pa_nil)) pa_nil)))), ?_⟩
    obtain ⟨w, rows, W, b, M, rfl, hw, hl, hW, hn, hb, hM, h1, h2, q⟩ := h
    refine ⟨_, rfl, w, rows, W, b, M, rfl, hw, hl, hW, hn, hb, hM, h1, h2, fun D H1 G hD s1 hG pG asc => ?_⟩
    obtain ⟨gs, G1, G2⟩ := hG
    refine ⟨D, _, rfl, .inl (SqL.of G1), ?_⟩
    rw [List.length_map, prd_len G2, pG.length_eq]
    exact q H1 s1
end
end AL
set_option Elab.async false
set_option maxRecDepth 100000
set_option exponentiation.threshold 70000
set_option maxHeartbeats 1000000
namespace AL
open PySem PySem.Spec PyProof.Rows L2 RZ
section
variable {P : Program} {w : World} {K : PySem.W.Frag} {mg : Str → Option Value} {base : Heap}
theorem RankIs.uniq {A : List Rw} {s t : Nat} (h : RankIs A s) (h' : RankIs A t) : s = t := by
  have a := h.le_of h' fun r hr => .mem ⟨r, hr, rfl⟩
  have b := h'.le_of h fun r hr => .mem ⟨r, hr, rfl⟩
  omega
theorem hnf_rank {W : Nat} {F : List Rw} (h : Hnf W F) : RankIs F F.length := ⟨F, F.map piv, rfl, List.length_map _, fun b hb => .mem ⟨b, hb, rfl⟩, ech_det h.ech, fun r hr => .mem ⟨r, hr, rfl⟩⟩
/-- minors of rows of one span are in one ratio -/
theorem plk_sub {rows : List Rw} {P Q : List Nat} {N : Nat} {a b : Int} (h : ∀ G : List Fn, (∀ g ∈ G, g ∈ vR rows) → G.length = N → a * det G P = b * det G Q) : ∀ {X G : List Fn}, (∀ g ∈ G, g ∈ vR rows) → (∀ x ∈ X, Spn (fun y => y ∈ vR rows) x) → G.length + X.length = N → a * det (G ++ X) P = b * det (G ++ X) Q
  | [], G, hg, _, l => by rw [List.append_nil]; exact h G hg (by simpa using l)
  | x :: X, G, hg, hx, l => by
    have cls : Cls0 fun x => a * det (G ++ x :: X) P = b * det (G ++ x :: X) Q := by
      refine ⟨?_, fun {x y} m t hx hy => ?_, fun {x s} s0 h => ?_⟩
      · rw [det_zero, det_zero, Int.mul_zero, Int.mul_zero]
      · (try dsimp only at hx hy ⊢)
        rw [det_lin, det_lin, Int.mul_add, Int.mul_add]
        rw [show a * (m * det (G ++ x :: X) P) = m * (a * det (G ++ x :: X) P) by grind, show a * (t * det (G ++ y :: X) P) = t * (a * det (G ++ y :: X) P) by grind, hx, hy]
        grind
      · (try dsimp only at h ⊢)
        have e := fun P => det_lin x x s 0 X G P
        rw [show (fun j => s * x j) = fun j => s * x j + 0 * x j from funext fun j => by omega, e, e] at h
        refine Int.eq_of_mul_eq_mul_left s0 ?_
        rw [show s * (a * det (G ++ x :: X) P) = a * (s * det (G ++ x :: X) P + 0 * det (G ++ x :: X) P) by grind, h]
        grind
    refine Spn.clo cls (hx x (List.mem_cons_self ..)) fun y hy => ?_
    have ih := plk_sub h (X := X) (G := G ++ [y]) (fun g hh => by
      rcases List.mem_append.mp hh with e | e
      · exact hg g e
      · rw [List.mem_singleton.mp e]; exact hy) (fun z hz => hx z (List.mem_cons_of_mem _ hz)) (by rw [List.length_append, List.length_singleton]; rw [List.length_cons] at l; omega)
    rw [List.append_assoc] at ih
    exact ih
theorem det_pmE {l l' : List Fn} (h : l.Perm l') : ∃ e : Int, e * e = 1 ∧ ∀ (A : List Fn) (P : List Nat), det (A ++ l) P = e * det (A ++ l') P := by
  induction h with
  | nil => exact ⟨1, rfl, fun A P => (Int.one_mul _).symm⟩
  | cons x h ih =>
    obtain ⟨e, e1, k⟩ := ih
    refine ⟨e, e1, fun A P => ?_⟩
    have := k (A ++ [x]) P
    rwa [List.append_assoc, List.append_assoc] at this
  | swap x y l => exact ⟨-1, rfl, fun A P => by rw [det_swap y x l A P]; omega⟩
  | trans _ _ i1 i2 =>
    obtain ⟨a, a1, k1⟩ := i1
    obtain ⟨b, b1, k2⟩ := i2
    refine ⟨a * b, by rw [show a * b * (a * b) = (a * a) * (b * b) by grind, a1, b1]; rfl, fun A P => by rw [k1, k2, Int.mul_assoc]⟩
theorem asc_eq : ∀ {m l : List Nat}, l.Pairwise (· < ·) → m.Pairwise (· < ·) → (∀ x ∈ l, x ∈ m) → m.length ≤ l.length → l = m
  | [], l, _, _, h, _ => by
    cases l with
    | nil => rfl
    | cons a l => exact nomatch h a (List.mem_cons_self ..)
  | b :: m, [], _, _, _, k => by simp at k
  | b :: m, a :: l, hl, hm, h, k => by
    obtain ⟨l1, l2⟩ := List.pairwise_cons.mp hl
    obtain ⟨m1, m2⟩ := List.pairwise_cons.mp hm
    have ab : a = b := by
      rcases List.mem_cons.mp (h a (List.mem_cons_self ..)) with e | e
      · exact e
      · have ba := m1 a e
        have sub : ∀ x ∈ a :: l, x ∈ m := fun x hx => by
          rcases List.mem_cons.mp (h x hx) with e2 | e2
          · rcases List.mem_cons.mp hx with e3 | e3
            · omega
            · have := l1 x e3; omega
          · exact e2
        have := nodup_sub (G := a :: l) (F := m) (hl.imp fun h => Nat.ne_of_lt h) sub
        rw [List.length_cons] at this k
        rw [List.length_cons] at k
        omega
    subst ab
    congr 1
    refine asc_eq l2 m2 (fun x hx => ?_) (by simpa using k)
    rcases List.mem_cons.mp (h x (List.mem_cons_of_mem _ hx)) with e | e
    · have := l1 x hx; omega
    · exact e

theorem rref_det {W : Nat} : ∀ {F : List Rw}, Rref W F → det (vR F) (F.map piv) ≠ 0
  | [], _ => by decide
  | f :: F, E => by
    have T : Rref W F := ⟨fun g hg => E.len g (List.mem_cons_of_mem _ hg), fun g hg => E.pos g (List.mem_cons_of_mem _ hg), (List.pairwise_cons.mp E.off).2⟩
    have ih := rref_det T
    have e : det (vR (f :: F)) ((f :: F).map piv) = vl f (piv f) * det (vR F) (F.map piv) - exq (vl f) (fun Q => det (vR F) (piv f :: Q)) (F.map piv) := rfl
    rw [e, exq_congr (G := fun _ => 0) fun Q _ _ => det_zcol (p := piv f) (fun r hr => by
      obtain ⟨g, hg, rfl⟩ := List.mem_map.mp hr
      exact ((List.pairwise_cons.mp E.off).1 g hg).2) (List.mem_cons_self ..), exq_zero, Int.sub_zero]
    have := E.pos f (List.mem_cons_self ..)
    exact Int.mul_ne_zero (by omega) ih
theorem spn_rank {W : Nat} {rows : List Rw} (hl : ∀ r ∈ rows, r.length = W) : RankIs rows (spn rows).length := by
  obtain ⟨R, h1, h2⟩ := spn_spec hl
  exact ⟨spn rows, (spn rows).map piv, rfl, List.length_map _, fun b hb => h2 b hb, rref_det R, fun r hr => h1 r hr⟩
theorem ech_split {W : Nat} {f : Rw} {F : List Rw} (E : Ech W (f :: F)) (G : List Rw) (g : Rw) (z : ∀ x ∈ G, vl x (piv f) = 0) : det (vR (g :: G)) (piv f :: F.map piv) = vl g (piv f) * det (vR G) (F.map piv) := by
  have e : det (vR (g :: G)) (piv f :: F.map piv) = vl g (piv f) * det (vR G) (F.map piv) - exq (vl g) (fun Q => det (vR G) (piv f :: Q)) (F.map piv) := rfl
  rw [e, exq_congr (G := fun _ => 0) fun Q _ _ => det_zcol (p := piv f) (fun r hr => by
    obtain ⟨x, hx, rfl⟩ := List.mem_map.mp hr
    exact z x hx) (List.mem_cons_self ..), exq_zero, Int.sub_zero]
theorem det_dvd_self {F : List Rw} {P : List Nat} : ∀ G : List Fn, (∀ g ∈ G, g ∈ vR F) → G.length = F.length → det (vR F) P ∣ det G P := fun G hG lG => by
  by_cases nd : G.Nodup
  · obtain ⟨e, e1, k⟩ := det_pmE (MM.perm_of nd hG (by rw [List.length_map]; omega))
    have := k [] P
    rw [List.nil_append, List.nil_append] at this
    rw [this]; exact Int.dvd_mul_left _ _
  · rw [det_dup nd]; exact Int.dvd_zero _
/-- a lattice in another with as great a minor is the other -/
theorem lat_ind {W : Nat} : ∀ {F G : List Rw}, Ech W F → Ech W G → G.map piv = F.map piv → (∀ g ∈ G, Lat (inR F) (vl g)) → (det (vR G) (F.map piv)).natAbs = (det (vR F) (F.map piv)).natAbs → ∀ f ∈ F, Lat (inR G) (vl f)
  | [], _, _, _, _, _, _, f, hf => nomatch hf
  | _ :: _, [], _, _, e, _, _, _, _ => by simp at e
  | f :: F, g :: G, EF, EG, pe, sub, eq, x, hx => by
    rw [List.map_cons, List.map_cons] at pe
    obtain ⟨p1, p2⟩ := List.cons.inj pe
    obtain ⟨a, y, hy, ea⟩ := lat_cons (sub g (List.mem_cons_self ..))
    have zF : ∀ u ∈ F, vl u (piv f) = 0 := fun u hu => EF.head u hu _ (Nat.le_refl _)
    have zG : ∀ u ∈ G, vl u (piv f) = 0 := fun u hu => EG.head u hu _ (by omega)
    have y0 : y (piv f) = 0 := spn_z EF hy.spn (Nat.le_refl _)
    have gp : vl g (piv f) = a * vl f (piv f) := by rw [ea, y0, Int.add_zero]
    have fn := EF.nz f (List.mem_cons_self ..)
    have sub' : ∀ u ∈ G, Lat (inR F) (vl u) := fun u hu => by
      obtain ⟨b, v, hv, eb⟩ := lat_cons (sub u (List.mem_cons_of_mem _ hu))
      have v0 : v (piv f) = 0 := spn_z EF hv.spn (Nat.le_refl _)
      have := eb (piv f)
      rw [zG u hu, v0, Int.add_zero] at this
      have b0 : b = 0 := (Int.mul_eq_zero.mp this.symm).resolve_right fn
      exact hv.of fun j => by rw [eb, b0]; omega
    rw [List.map_cons, ech_split EF G g zG, ech_split EF F f zF, gp] at eq
    have dF := ech_det EF.tail
    have dv : det (vR F) (F.map piv) ∣ det (vR G) (F.map piv) := by
      have := MM.dvd_lat (rows := F) (P := F.map piv) (d := det (vR F) (F.map piv)) (N := F.length) det_dvd_self (X := vR G) (G := []) (fun g hg => nomatch hg) (fun x hx => by
        obtain ⟨u, hu, rfl⟩ := List.mem_map.mp hx
        exact sub' u hu) (by
        have := congrArg List.length p2
        rw [List.length_map, List.length_map] at this
        rw [List.length_map]; show 0 + G.length = F.length; omega)
      exact this
    obtain ⟨t, et⟩ := dv
    rw [et, Int.natAbs_mul, Int.natAbs_mul, Int.natAbs_mul, Int.natAbs_mul] at eq
    have f0 : 0 < (vl f (piv f)).natAbs := by omega
    have d0 : 0 < (det (vR F) (F.map piv)).natAbs := by omega
    have e2 : a.natAbs * t.natAbs = 1 := by
      have h3 : (vl f (piv f)).natAbs * (det (vR F) (F.map piv)).natAbs * (a.natAbs * t.natAbs) = (vl f (piv f)).natAbs * (det (vR F) (F.map piv)).natAbs * 1 := by
        rw [Nat.mul_one]
        calc (vl f (piv f)).natAbs * (det (vR F) (F.map piv)).natAbs * (a.natAbs * t.natAbs) = a.natAbs * (vl f (piv f)).natAbs * ((det (vR F) (F.map piv)).natAbs * t.natAbs) := by ac_rfl
          _ = _ := eq
      exact Nat.eq_of_mul_eq_mul_left (Nat.mul_pos f0 d0) h3
    have a1 : a.natAbs = 1 := Nat.eq_one_of_mul_eq_one_right e2
    have t1 : t.natAbs = 1 := Nat.eq_one_of_mul_eq_one_left e2
    have aa : a * a = 1 := by
      have := Int.natAbs_mul a a
      rw [a1] at this
      have nn : 0 ≤ a * a := by
        rcases Int.le_total 0 a with h | h
        · exact Int.mul_nonneg h h
        · exact Int.mul_nonneg_of_nonpos_of_nonpos h h
      omega
    have ih := lat_ind EF.tail EG.tail p2 sub' (by rw [et, Int.natAbs_mul, t1, Nat.mul_one])
    have up : ∀ u, Lat (inR G) u → Lat (inR (g :: G)) u := fun u hu => hu.trans fun v ⟨r, hr, e⟩ => by rw [e]; exact .mem ⟨r, List.mem_cons_of_mem _ hr, rfl⟩
    rcases List.mem_cons.mp hx with rfl | hx
    · have ly : Lat (inR G) y := hy.trans fun v ⟨r, hr, e⟩ => by rw [e]; exact ih r hr
      refine (Lat.lin a (-a) (.mem ⟨g, List.mem_cons_self .., rfl⟩) (up y ly)).of fun j => ?_
      rw [ea j]
      have : a * (a * vl x j + y j) + -a * y j = (a * a) * vl x j := by grind
      rw [this, aa, Int.one_mul]
    · exact up _ (ih x hx)
/-- chosen rows make the same lattice just where their minors have the same divisor -/
theorem min_gen {W s g g' : Nat} {A C F G : List Rw} (sub : ∀ c ∈ C, Lat (inR A) (vl c)) (rA : RankIs A s) (rC : RankIs C s) (mA : MM.IsMin A s g) (mC : MM.IsMin C s g') (hF : Hnf W F) (gF : Gen F A) (hG : Hnf W G) (gG : Gen G C) : g' = g ↔ Gen C A := by
  constructor
  · intro eg
    subst eg
    have lF : F.length = s := by
      have rF := hnf_rank hF
      have a := rF.le_of rA fun r hr => (gF.1 r hr).spn
      have b := rA.le_of rF fun r hr => (gF.2 r hr).spn
      omega
    have lG : G.length = s := by
      have rG := hnf_rank hG
      have a := rG.le_of rC fun r hr => (gG.1 r hr).spn
      have b := rC.le_of rG fun r hr => (gG.2 r hr).spn
      omega
    have GF : ∀ r ∈ G, Lat (inR F) (vl r) := fun r hr => lat_in (lat_in (gG.1 r hr) sub) gF.2
    have pe : G.map piv = F.map piv := by
      refine asc_eq (by rw [List.pairwise_map]; exact hG.asc) (by rw [List.pairwise_map]; exact hF.asc) (fun x hx => ?_) (by rw [List.length_map, List.length_map]; omega)
      obtain ⟨b, hb, rfl⟩ := List.mem_map.mp hx
      obtain ⟨f, hf, e⟩ := ech_lead hF.ech (GF b hb).spn (hG.ech.nz b hb) fun j hj => ahead_zero (hG.ech.nz b hb) j hj
      exact List.mem_map.mpr ⟨f, hf, e⟩
    have mF := mA.gen gF.symm
    have mG := mC.gen gG.symm
    have dF := ech_det hF.ech
    have dG := ech_det hG.ech
    rw [pe] at dG
    -- all minors are in the ratio of those at the pivots
    have prop : ∀ P : List Nat, P.length = s → det (vR F) (F.map piv) * det (vR G) P = det (vR F) P * det (vR G) (F.map piv) := fun P lP => by
      have := plk_sub (rows := F) (P := P) (Q := F.map piv) (N := s) (a := det (vR F) (F.map piv)) (b := det (vR F) P) (fun X hX lX => ?_) (X := vR G) (G := []) (fun g hg => nomatch hg) (fun x hx => by
        obtain ⟨u, hu, rfl⟩ := List.mem_map.mp hx
        exact spn_in.mpr (GF u hu).spn) (by rw [List.length_map, lG]; exact Nat.zero_add _)
      · exact this
      · by_cases nd : X.Nodup
        · obtain ⟨e, e1, k⟩ := det_pmE (MM.perm_of nd hX (by rw [List.length_map]; omega))
          have k1 := k [] P
          have k2 := k [] (F.map piv)
          rw [List.nil_append, List.nil_append] at k1 k2
          rw [k1, k2]; grind
        · rw [det_dup nd, det_dup nd, Int.mul_zero, Int.mul_zero]
    -- numbers
    have nat : ∀ P : List Nat, P.length = s → (det (vR F) (F.map piv)).natAbs * (det (vR G) P).natAbs = (det (vR F) P).natAbs * (det (vR G) (F.map piv)).natAbs := fun P lP => by
      rw [← Int.natAbs_mul, prop P lP, Int.natAbs_mul]
    have cop : ∀ a b k : Nat, Nat.Coprime a b → 0 < k → (det (vR F) (F.map piv)).natAbs = k * a → (det (vR G) (F.map piv)).natAbs = k * b → a = 1 ∧ b = 1 := fun a b k cp k0 ea eb => by
      have x : ∀ P : List Nat, P.length = s → a * (det (vR G) P).natAbs = (det (vR F) P).natAbs * b := fun P lP => by
        have := nat P lP
        rw [ea, eb] at this
        refine Nat.eq_of_mul_eq_mul_left k0 ?_
        rw [← Nat.mul_assoc, this]; ac_rfl
      have allF : ∀ d : Nat, (∀ P : List Nat, P.length = s → d ∣ (det (vR F) P).natAbs) → d ∣ g' := fun d hd => mF.gr d fun X P hX lX lP => Int.dvd_trans (Int.natAbs_dvd_natAbs.mp (by rw [Int.natAbs_natCast]; exact hd P lP)) (det_dvd_self X hX (by omega))
      have allG : ∀ d : Nat, (∀ P : List Nat, P.length = s → d ∣ (det (vR G) P).natAbs) → d ∣ g' := fun d hd => mG.gr d fun X P hX lX lP => Int.dvd_trans (Int.natAbs_dvd_natAbs.mp (by rw [Int.natAbs_natCast]; exact hd P lP)) (det_dvd_self X hX (by omega))
      have dvF : ∀ P : List Nat, P.length = s → g' ∣ (det (vR F) P).natAbs := fun P lP => by
        have := mF.dv (vR F) P (fun _ h => h) (by rw [List.length_map, lF]) lP
        have := Int.natAbs_dvd_natAbs.mpr this
        rwa [Int.natAbs_natCast] at this
      have dvG : ∀ P : List Nat, P.length = s → g' ∣ (det (vR G) P).natAbs := fun P lP => by
        have := mG.dv (vR G) P (fun _ h => h) (by rw [List.length_map, lG]) lP
        have := Int.natAbs_dvd_natAbs.mpr this
        rwa [Int.natAbs_natCast] at this
      have a0 : 0 < a := by
        rcases Nat.eq_zero_or_pos a with h | h
        · rw [h, Nat.mul_zero] at ea; omega
        · exact h
      have b0 : 0 < b := by
        rcases Nat.eq_zero_or_pos b with h | h
        · rw [h, Nat.mul_zero] at eb; omega
        · exact h
      have aF : ∀ P : List Nat, P.length = s → a ∣ (det (vR F) P).natAbs := fun P lP => cp.dvd_of_dvd_mul_right (by rw [← x P lP]; exact Nat.dvd_mul_right _ _)
      have bG : ∀ P : List Nat, P.length = s → b ∣ (det (vR G) P).natAbs := fun P lP => cp.symm.dvd_of_dvd_mul_left (by rw [x P lP]; exact Nat.dvd_mul_left _ _)
      have g0 : 0 < g' := Nat.pos_of_dvd_of_pos (dvF (F.map piv) (by rw [List.length_map, lF])) (by omega)
      obtain ⟨m, em⟩ := allF a aF
      obtain ⟨m', em'⟩ := allG b bG
      have m0 : 0 < m := by rcases Nat.eq_zero_or_pos m with h | h; rw [h, Nat.mul_zero] at em; omega; exact h
      have m0' : 0 < m' := by rcases Nat.eq_zero_or_pos m' with h | h; rw [h, Nat.mul_zero] at em'; omega; exact h
      have h1 : b * m ∣ a * m := by
        rw [← em]
        refine allG _ fun P lP => ?_
        obtain ⟨xq, ex⟩ := aF P lP
        have e1 : (det (vR G) P).natAbs = xq * b := by
          have := x P lP
          rw [ex] at this
          refine Nat.eq_of_mul_eq_mul_left a0 ?_
          rw [this]; ac_rfl
        have d1 : m ∣ xq := by
          have := dvF P lP
          rw [em, ex] at this
          exact Nat.dvd_of_mul_dvd_mul_left a0 this
        rw [e1, Nat.mul_comm xq]
        exact Nat.mul_dvd_mul_left _ d1
      have h2 : a * m' ∣ b * m' := by
        rw [← em']
        refine allF _ fun P lP => ?_
        obtain ⟨xq, ex⟩ := bG P lP
        have e1 : (det (vR F) P).natAbs = xq * a := by
          have := x P lP
          rw [ex] at this
          refine Nat.eq_of_mul_eq_mul_right b0 ?_
          rw [← this]; ac_rfl
        have d1 : m' ∣ xq := by
          have := dvG P lP
          rw [em', ex] at this
          exact Nat.dvd_of_mul_dvd_mul_left b0 this
        rw [e1, Nat.mul_comm xq]
        exact Nat.mul_dvd_mul_left _ d1
      have ba := Nat.dvd_of_mul_dvd_mul_right m0 h1
      have ab := Nat.dvd_of_mul_dvd_mul_right m0' h2
      have e : a = b := Nat.dvd_antisymm ab ba
      subst e
      have := (Nat.coprime_self a).mp cp
      exact ⟨this, this⟩
    have k0 : 0 < Nat.gcd (det (vR F) (F.map piv)).natAbs (det (vR G) (F.map piv)).natAbs := Nat.gcd_pos_of_pos_left _ (by omega)
    obtain ⟨e1, e2⟩ := cop _ _ _ (Nat.coprime_div_gcd_div_gcd k0) k0 (Nat.mul_div_cancel' (Nat.gcd_dvd_left ..)).symm (Nat.mul_div_cancel' (Nat.gcd_dvd_right ..)).symm
    have q1 := Nat.mul_div_cancel' (Nat.gcd_dvd_left (det (vR F) (F.map piv)).natAbs (det (vR G) (F.map piv)).natAbs)
    have q2 := Nat.mul_div_cancel' (Nat.gcd_dvd_right (det (vR F) (F.map piv)).natAbs (det (vR G) (F.map piv)).natAbs)
    rw [e1, Nat.mul_one] at q1
    rw [e2, Nat.mul_one] at q2
    have FG := lat_ind hF.ech hG.ech pe GF (by omega)
    exact (gG.symm.trans ⟨GF, FG⟩).trans gF
  · intro k
    exact (mC.gen k).uniq mA
theorem hnf_gen {W : Nat} {A C F G : List Rw} (hF : Hnf W F) (gF : Gen F A) (hG : Hnf W G) (gG : Gen G C) : G = F ↔ Gen C A :=
  ⟨fun e => by subst e; exact gG.symm.trans gF, fun k => hnf_same hG hF (gG.trans (k.trans gF.symm))⟩

end
end AL
set_option Elab.async false
set_option maxRecDepth 100000
set_option exponentiation.threshold 70000
set_option maxHeartbeats 1000000
namespace AL
open PySem PySem.Spec PyProof.Rows L2 RZ
section
variable {P : Program} {w : World} {K : PySem.W.Frag} {mg : Str → Option Value} {base : Heap}
theorem shaped_intsL (l : List Int) : SeqAt.shaped (.list (l.map PyData.int)) = true := by
  unfold SeqAt.shaped
  rw [show PyData.canLay0 (.list (l.map PyData.int)) = true by simpa [PyData.canLay0] using (can_ints l).1]
  simp [PyData.depth, (can_ints l).2]
theorem eqv_intsL (a b : List Int) : PyData.eqv (.list (a.map PyData.int)) (.list (b.map PyData.int)) = decide (a = b) := by
  rw [PyData.eqv]
  exact PySem.W.ked_eqvAll a b
def dL (z : List Int) : PyData := .list (z.map PyData.int)
theorem can_dL : ∀ z : List Int, PyData.canLayAll0 (z.map PyData.int) = true ∧ PyData.depthAll (z.map PyData.int) ≤ 1
  | [] => ⟨rfl, by decide⟩
  | x :: r => by
    have b := can_dL r
    rw [List.map_cons]
    constructor
    · simp only [PyData.canLayAll0, PyData.canLay0, b.1, Bool.and_self]
    · simp only [PyData.depthAll, PyData.depth]
      omega
theorem can_rows : ∀ zs : List (List Int), PyData.canLayAll0 (zs.map dL) = true ∧ PyData.depthAll (zs.map dL) ≤ 2
  | [] => ⟨rfl, by decide⟩
  | z :: r => by
    have a := can_dL z
    have b := can_rows r
    rw [List.map_cons]
    unfold dL at *
    constructor
    · simp only [PyData.canLayAll0, PyData.canLay0, a.1, b.1, Bool.and_self]
    · simp only [PyData.depthAll, PyData.depth]
      omega
theorem shaped_rows (zs : List (List Int)) : SeqAt.shaped (.list (zs.map dL)) = true := by
  have z := can_rows zs
  unfold SeqAt.shaped
  rw [show PyData.canLay0 (.list (zs.map dL)) = true by simpa only [PyData.canLay0] using z.1]
  have d : PyData.depth (.list (zs.map dL)) ≤ 3 := by simp only [PyData.depth]; omega
  simp only [Bool.true_and, decide_eq_true_eq]
  omega
theorem dpAll_z {K : PySem.W.Frag} {H : Hp} : ∀ z : List Int, DpAll K H (z.map V.int) (z.map PyData.int)
  | [] => .nil
  | x :: r => .cons (.int x) (dpAll_z r)
theorem ixN_of {n j : Nat} (h : j < n) : ixN n (j : Int) = some j := by
  unfold ixN
  rw [if_pos (by omega), if_pos (by omega)]
  show some ((j : Int)).toNat = some j
  rw [Int.toNat_natCast]
theorem prd_set {α β : Type} {R : α → β → Prop} {as : List α} {bs : List β} {a : α} {b : β} (h : Paired R as bs) (i : Nat) (r : R a b) : Paired R (as.set i a) (bs.set i b) := by
  induction h generalizing i with
  | nil => exact .nil
  | cons h t ih =>
    cases i with
    | zero => exact .cons r t
    | succ i => exact .cons h (ih i)

theorem dp_rowsL {K : PySem.W.Frag} {H : Hp} {rs : List Addr} {zs : List (List Int)} (h : Paired (fun r z => LI H r z) rs zs) : DpAll K H (rs.map V.ref) (zs.map dL) := by
  induction h with
  | nil => exact .nil
  | cons r _ ih => exact .cons (.lst (SqL.of r) (dpAll_z _)) ih
theorem eqv_rowsL (zs : List (List Int)) : PyData.eqv (.list (zs.map dL)) (.list []) = decide (zs = []) := by
  cases zs with
  | nil => rw [List.map_nil, PyData.eqv, PyData.eqvAll]; rfl
  | cons z r => rw [List.map_cons, PyData.eqv, PyData.eqvAll]; rfl

end
end AL
set_option Elab.async false
set_option maxRecDepth 100000
set_option exponentiation.threshold 70000
set_option maxHeartbeats 1000000
namespace AL
open PySem PySem.Spec PyProof.Rows L2 RZ
section
variable {P : Program} {w : World} {K : PySem.W.Frag} {mg : Str → Option Value} {base : Heap}
theorem catA_one {K : PySem.W.Frag} {H : Hp} {a b : Addr} {xs ys : List V} {Q : VK} (ha : H a = some (.tup xs)) (hb : H b = some (.tup ys)) (ne : ys ≠ []) (len : xs.length + ys.length ≤ 100) (k : ∀ c H', Same H H' → H' c = some (.tup (xs ++ ys)) → Q (.ref c) H') : rCatA K (.ref a) (.ref b) H Q := by
  refine ⟨a, b, _, _, rfl, rfl, SqT.of ha, SqT.of hb, Nat.le_trans len (by decide), fun z => ?_, fun _ z => absurd z ne, fun _ _ p hp => ?_⟩
  · refine k b H (Same.refl _) ?_
    rw [z]; exact hb
  · exact k p _ (AL.Same.new hp) upd_same
theorem prd_app {α β : Type} {R : α → β → Prop} : ∀ {as cs : List α} {bs ds : List β}, Paired R as bs → Paired R cs ds → Paired R (as ++ cs) (bs ++ ds)
  | _, _, _, _, .nil, k => k
  | _, _, _, _, .cons r t, k => .cons r (prd_app t k)

def zJ (J : List Nat) : List Int := J.map fun k : Nat => (k : Int)
def stJ (J : List Nat) : Nat := match J.getLast? with | none => 0 | some x => x + 1
/-- all rising lists -/
def subs (n : Nat) : Nat → List (List Nat)
  | 0 => [[]]
  | s + 1 => (subs n s).flatMap fun one => (List.range' (stJ one) (n - stJ one)).map fun k => one ++ [k]
theorem subs_len (n : Nat) : ∀ s, (subs n s).length ≤ n ^ s
  | 0 => Nat.le_refl _
  | s + 1 => by
    have ih := subs_len n s
    unfold subs
    rw [List.length_flatMap]
    have : ∀ L : List (List Nat), (L.map fun one => ((List.range' (stJ one) (n - stJ one)).map fun k => one ++ [k]).length).sum ≤ L.length * n := fun L => by
      induction L with
      | nil => exact Nat.zero_le _
      | cons a L ih =>
        rw [List.map_cons, List.sum_cons, List.length_map, List.length_range', List.length_cons, Nat.succ_mul]
        omega
    refine Nat.le_trans (this _) ?_
    rw [Nat.pow_succ]
    exact Nat.mul_le_mul_right _ ih
theorem subs_ok {n : Nat} : ∀ {s : Nat} {J : List Nat}, J ∈ subs n s → J.length = s ∧ J.Pairwise (· < ·) ∧ ∀ j ∈ J, j < n
  | 0, J, h => by
    have : J = [] := List.mem_singleton.mp h
    subst this
    exact ⟨rfl, .nil, fun j hj => nomatch hj⟩
  | s + 1, J, h => by
    unfold subs at h
    obtain ⟨one, ho, hJ⟩ := List.mem_flatMap.mp h
    obtain ⟨k, hk, rfl⟩ := List.mem_map.mp hJ
    obtain ⟨l, a, b⟩ := subs_ok ho
    have hk' := List.mem_range'_1.mp hk
    refine ⟨by rw [List.length_append, l]; rfl, ?_, fun j hj => ?_⟩
    · rw [List.pairwise_append]
      refine ⟨a, List.pairwise_singleton .., fun x hx y hy => ?_⟩
      rw [List.mem_singleton.mp hy]
      rcases List.eq_nil_or_concat one with rfl | ⟨L, z, rfl⟩
      · exact nomatch hx
      · rw [List.concat_eq_append] at *
        have e : stJ (L ++ [z]) = z + 1 := by unfold stJ; rw [List.getLast?_append]; rfl
        rcases List.mem_append.mp hx with w | w
        · have := (List.pairwise_append.mp a).2.2 x w z (List.mem_singleton.mpr rfl)
          omega
        · rw [List.mem_singleton.mp w]; omega
    · rcases List.mem_append.mp hj with w | w
      · exact b j w
      · rw [List.mem_singleton.mp w]; omega
theorem subs_all {n : Nat} : ∀ {s : Nat} {J : List Nat}, J.length = s → J.Pairwise (· < ·) → (∀ j ∈ J, j < n) → J ∈ subs n s
  | 0, J, l, _, _ => by rw [List.eq_nil_of_length_eq_zero l]; exact List.mem_singleton.mpr rfl
  | s + 1, J, l, a, b => by
    rcases List.eq_nil_or_concat J with rfl | ⟨L, z, rfl⟩
    · simp at l
    · rw [List.concat_eq_append] at *
      rw [List.length_append, List.length_singleton] at l
      obtain ⟨a1, _, a3⟩ := List.pairwise_append.mp a
      have ih := subs_all (n := n) (s := s) (J := L) (by omega) a1 fun j hj => b j (List.mem_append_left _ hj)
      have bz := b z (List.mem_append_right _ (List.mem_singleton.mpr rfl))
      unfold subs
      refine List.mem_flatMap.mpr ⟨L, ih, List.mem_map.mpr ⟨z, List.mem_range'_1.mpr ?_, rfl⟩⟩
      have : stJ L ≤ z := by
        rcases List.eq_nil_or_concat L with rfl | ⟨M, y, rfl⟩
        · exact Nat.zero_le _
        · rw [List.concat_eq_append] at *
          have e : stJ (M ++ [y]) = y + 1 := by unfold stJ; rw [List.getLast?_append]; rfl
          have := a3 y (List.mem_append_right _ (List.mem_singleton.mpr rfl)) z (List.mem_singleton.mpr rfl)
          omega
      omega
theorem eqvT_ints (a b : List Int) : PyData.eqv (.tuple (a.map PyData.int)) (.tuple (b.map PyData.int)) = decide (a = b) := by
  rw [PyData.eqv]
  exact PySem.W.ked_eqvAll a b
/-- tuples of places in a list -/
def SubAt (H : Hp) (l : Addr) (Js : List (List Nat)) : Prop := ∃ as : List Addr, H l = some (.lst (as.map V.ref)) ∧ Paired (fun a (J : List Nat) => H a = some (.tup ((zJ J).map V.int))) as Js
/-- _law_subsets(many, size) -/
def spSb : Sp := fun vs H Q _ => ∃ (n s : Nat), vs = [.int (n : Int), .int (s : Int)] ∧ n ≤ 8 ∧ s ≤ 5 ∧ ∀ l H', Same H H' → SubAt H' l (subs n s) → Q (.ref l) H'

end
end AL
set_option Elab.async false
set_option maxRecDepth 100000
set_option exponentiation.threshold 70000
set_option maxHeartbeats 1000000
namespace AL
open PySem PySem.Spec PyProof.Rows L2 RZ
section
variable {P : Program} {w : World} {K : PySem.W.Frag} {mg : Str → Option Value} {base : Heap}

/-- a value's truth -/
def tTruV (K : PySem.W.Frag) (ta : TE) : TT := fun σ H Q => ta σ H fun x H' => ∃ k, TruV K x H' k ∧ Q k H'
/-- a comprehension's or a loop's laps, whatever is done in them -/
theorem lapW {J : It} {n : Nat} {G : Hp → Prop} {Y : Nat → Hp → V → Hp → Prop} (w : Walk J n G Y) {H0 : Hp} {Qd : Hp → Prop} {B : V → Hp → (Hp → Prop) → Prop} (Pv : Nat → Hp → Prop) (h0 : Pv 0 H0) (hl : ∀ i H, i ≤ n → Pv i H → G H)
    (hs : ∀ i x H H', i < n → Pv i H → Y i H x H' → B x H' (Pv (i + 1))) (hd : ∀ H, Pv n H → Qd H) :
    ∃ W : Nat → Nat → Hp → Prop, (∃ m, W 0 m H0) ∧ ∀ i m H, W i m H → (J.stop i H ∧ Qd H) ∨ (J.go i H ∧ ∃ Nx : Hp → Prop, (∀ H', Nx H' → ∃ m', m' < m ∧ W (i + 1) m' H') ∧ ∀ x H', J.yld i H x H' → B x H' Nx) := by
  refine ⟨fun i m H => i + m = n ∧ Pv i H, ⟨n, by omega, h0⟩, ?_⟩
  rintro i m H ⟨e, p⟩
  by_cases lt : i < n
  · exact .inr ⟨w.goes i H lt (hl i H (by omega) p), Pv (i + 1), fun H' h => ⟨m - 1, by omega, by omega, h⟩, fun x H' y => hs i x H H' lt p (w.yields i H x H' lt (hl i H (by omega) p) y)⟩
  · have : i = n := by omega
    subst this
    exact .inl ⟨w.stops H (hl i H (Nat.le_refl _) p), hd H p⟩

abbrev stsets_of : Stmt := top 31
theorem scsets_of : FnScope ["many", "size", "found", "_", "old", "new"] ["many", "size"] (defScope stsets_of) := ⟨rfl, rfl, rfl, by decide +kernel, rfl, by decide +kernel, by decide +kernel⟩
theorem oksets_of (B : Blt mg) {CGroups : Addr} (Es : ErH K mg CGroups) {fsets_of : Addr} {fdsets_of : FuncData} (Dsets_of : DefAt K mg "sets_of" stsets_of ["many", "size"] fsets_of fdsets_of) : FnOk P w K mg base CX0 1 fsets_of fdsets_of ["many", "size"] spSb := by
  refine Dsets_of.F.ok scsets_of (fun vs H Q E h => ?_) (fun cdv A outer s H vs Q E hr h => ?_)
  · obtain ⟨n, s, rfl, _⟩ := h; rfl
  · have hu := hu_of hr
    refine ⟨_, (pss_cons (ps_set (i := 2) scsets_of.nd rfl (Or.inl rfl) (pe_lst (pa_cons (pe_tup pa_nil) pa_nil)))
    (pss_cons (ps_for PassesOwn.never rfl (pi_range1 rfl B.range_ (pa_cons (pv 1) pa_nil)) (pg_name (i := 3) scsets_of.nd rfl (Or.inl rfl))
      (pss_one (ps_setLc2 (i := 2) (own := [("old", 4), ("new", 5)]) (vs1 := [5]) (g := gName 4) (g1 := gName 5) (tt := tYes) (tt1 := tYes) rfl scsets_of.nd rfl rfl (sw_true rfl rfl rfl (by decide +kernel)) (pi_list (pv 2)) (blkOk_by (own := [("old", 4), ("new", 5)]) (N := ["many", "size", "found", "_", "old", "new"]) (sc := defScope stsets_of) (by decide +kernel)) (by decide) (fun _ _ _ _ _ => pg_name (i := 4) scsets_of.nd rfl (Or.inl rfl)) (fun _ _ _ _ _ => pts_nil) (fun _ _ _ _ _ => (pi_range2 rfl B.range_ (pa_cons (pe_ifExp (pt_truth (pv 4) (fun _ => rfl) : PT _ _ (tTruV K (tVar 4))) (pe_op op_add (pe_ix (ix_tup : IxR _ (rIxT K)) (pv 4) (pe_un un_neg pe_int) (fun _ _ => rfl)) pe_int) pe_int) (pa_cons (pv 0) pa_nil)))) (fun _ _ _ _ _ => pg_name (i := 5) scsets_of.nd rfl (Or.inl rfl)) (fun _ _ _ _ _ => pts_nil) (fun _ _ _ _ _ => (pe_op (op_catA : OpR _ _ (rCatA K)) (pv 4) (pe_tup (pa_cons (pv 5) pa_nil)))))))
    (pss_one (ps_ret (pv 2))))), ?_⟩
    obtain ⟨n, s, rfl, hn, hs, q⟩ := h
    refine ⟨(by show 0 ≤ sizeLine; decide), fun t0 ht0 => ?_⟩
    have n0 := AL.Same.new (o := .tup []) ht0
    refine ⟨(by show 1 ≤ sizeLine; decide), fun l0 hl0' => ?_⟩
    have nl1 := AL.Same.new (o := .lst [.ref t0]) hl0'
    have h00 : upd (upd H t0 (.tup [])) l0 (.lst [.ref t0]) t0 = some (.tup []) := nl1 _ _ upd_same
    have hl00 : upd (upd H t0 (.tup [])) l0 (.lst [.ref t0]) l0 = some (.lst [.ref t0]) := upd_same
    have s9 := n0.trans nl1
    generalize upd (upd H t0 (.tup [])) l0 (.lst [.ref t0]) = H9 at h00 hl00 s9 ⊢
    have bnd : ∀ i, i ≤ 5 → (subs n i).length ≤ 32768 := fun i hi => Nat.le_trans (subs_len n i) (Nat.le_trans (Nat.pow_le_pow_left hn i) (Nat.le_trans (Nat.pow_le_pow_right (by decide) hi) (by decide)))
    refine ⟨_, rfl, _, rfl, by omega, by omega, for_range (lo := 0) (n := ((s : Nat) : Int).toNat) (fun i σ H' => ∃ (lf : Addr) (v3 v4 v5 : Option V), σ = [some (.int (n : Int)), some (.int (s : Int)), some (.ref lf), v3, v4, v5] ∧ Same H H' ∧ SubAt H' lf (subs n i)) ⟨l0, none, none, none, rfl, s9, [t0], hl00, .cons h00 .nil⟩ ?_ ?_⟩
    · rintro i σ H10 hi ⟨lf, v3, v4, v5, rfl, s10, hS⟩
      rw [Int.toNat_natCast] at hi
      obtain ⟨as, hlf, pr⟩ := hS
      have las := prd_len pr
      have b1 := bnd i (by omega)
      have b2 := bnd (i + 1) (by omega)
      have fl : ∀ j, (((subs n i).take j).flatMap fun one => (List.range' (stJ one) (n - stJ one)).map fun k => one ++ [k]).length ≤ 32768 := fun j => by
        have e : subs n (i + 1) = (((subs n i).take j).flatMap fun one => (List.range' (stJ one) (n - stJ one)).map fun k => one ++ [k]) ++ (((subs n i).drop j).flatMap fun one => (List.range' (stJ one) (n - stJ one)).map fun k => one ++ [k]) := by
          rw [← List.flatMap_append, List.take_append_drop]; rfl
        rw [e, List.length_append] at b2
        omega
      refine ⟨_, rfl, lf, rfl, ⟨_, SqL.of hlf⟩, fun D hD => ?_⟩
      refine lapW (walk_list (K := K) (a := lf) (xs := as.map V.ref)) (fun j H' => Same H10 H' ∧ SubAt H' D (((subs n i).take j).flatMap fun one => (List.range' (stJ one) (n - stJ one)).map fun k => one ++ [k])) ⟨AL.Same.new hD, [], upd_same, .nil⟩ (fun i H' _ hh => SqL.of (hh.1 _ _ hlf)) ?_ ?_
      · rintro j x H11 H11' hj ⟨s11, bs, hd, pr2⟩ ⟨rfl, hx⟩
        obtain ⟨b, hb, rfl⟩ := map_ref hx
        obtain ⟨J, hJ, hga⟩ := prd_get pr hb
        obtain ⟨lJ, aJ, bJ⟩ := subs_ok (List.mem_of_getElem? hJ)
        have hga2 := s11 _ _ hga
        have lbs := prd_len pr2
        have stn : stJ J ≤ n := by
          rcases List.eq_nil_or_concat J with rfl | ⟨L, z, rfl⟩
          · exact Nat.zero_le _
          · rw [List.concat_eq_append] at *
            have e : stJ (L ++ [z]) = z + 1 := by unfold stJ; rw [List.getLast?_append]; rfl
            have := bJ z (List.mem_append_right _ (List.mem_singleton.mpr rfl))
            omega
        refine ⟨rfl, ?_⟩
        refine ⟨_, rfl, _, .inr (.inl ⟨_, SqT.of hga2, rfl⟩), ?_⟩
        rcases List.eq_nil_or_concat J with hJe | ⟨L, z, hJe⟩
        · have eLO : (0 : Int) = (stJ J : Int) := by rw [hJe]; rfl
          rw [show (!((zJ J).map V.int).isEmpty) = false by rw [hJe]; rfl]
          refine iteF ?_
          refine ⟨_, rfl, _, _, rfl, ⟨by omega, by omega, by omega, by omega⟩, ?_⟩
          refine lapW (walk_range (lo := (0 : Int)) (n := ((n : Int) - (0 : Int)).toNat)) (fun k H' => Same H10 H' ∧ SubAt H' D ((((subs n i).take j).flatMap fun one => (List.range' (stJ one) (n - stJ one)).map fun k => one ++ [k]) ++ (List.range' (stJ J) k).map fun k => J ++ [k])) ⟨s11, bs, hd, by rw [show (List.range' (stJ J) 0).map (fun k => J ++ [k]) = [] from rfl, List.append_nil]; exact pr2⟩ (fun _ _ _ _ => trivial) ?_ ?_
          · rintro k x H13 H13' hk ⟨s13, cs, hd3, prc⟩ ⟨rfl, rfl⟩
            refine ⟨rfl, ?_⟩
            refine ⟨_, rfl, _, rfl, (by show 1 ≤ sizeLine; decide), fun T hT => ?_⟩
            have nT := AL.Same.new (o := .tup [.int ((0 : Int) + (k : Int))]) hT
            refine catA_one (nT _ _ (s13 _ _ hga)) upd_same (by simp) (by rw [List.length_map]; unfold zJ; rw [List.length_map]; show J.length + 1 ≤ 100; omega) fun c H14 s14 hc => ?_
            have s34 := nT.trans s14
            have lcs := prd_len prc
            rw [List.length_append, List.length_map, List.length_range'] at lcs
            have fj := fl j
            have tu := upd_tups (o := .lst (cs.map V.ref ++ [.ref c])) (s34 _ _ hd3) (fun _ z => nomatch z)
            refine ⟨_, s34 _ _ hd3, ?_, AL.Same.updn (s13.trans s34) hD, cs ++ [c], by rw [upd_same, List.map_append]; rfl, ?_⟩
            · rw [List.length_map, lcs]; exact Nat.lt_of_le_of_lt (by omega : _ ≤ 40000) (by decide)
            · rw [List.range'_1_concat, List.map_append, ← List.append_assoc]
              refine prd_snoc (paired_mono prc fun _ _ z => tu _ _ (s34 _ _ z)) (tu _ _ ?_)
              rw [hc]
              unfold zJ
              rw [List.map_append, List.map_append]
              show some (HO.tup (_ ++ [V.int ((0 : Int) + (k : Int))])) = some (HO.tup (_ ++ [V.int (((stJ J + k : Nat) : Int))]))
              rw [show (0 : Int) + (k : Int) = ((stJ J + k : Nat) : Int) by omega]
          rintro H13 ⟨s13, cs, hd3, prc⟩
          rw [show ((n : Int) - (0 : Int)).toNat = n - stJ J by omega] at prc
          refine ⟨s13, cs, hd3, ?_⟩
          rw [List.take_add_one, hJ, List.flatMap_append]
          rw [show List.flatMap (fun one => (List.range' (stJ one) (n - stJ one)).map fun k => one ++ [k]) (some J).toList = (List.range' (stJ J) (n - stJ J)).map fun k => J ++ [k] by show List.flatMap _ [J] = _; rw [List.flatMap_cons, List.flatMap_nil, List.append_nil]]
          exact prc
    
        · rw [List.concat_eq_append] at hJe
          have eLO : (z : Int) + 1 = (stJ J : Int) := by rw [hJe]; unfold stJ; rw [List.getLast?_append]; rfl
          rw [show (!((zJ J).map V.int).isEmpty) = true by rw [hJe]; unfold zJ; rw [List.map_append, List.map_append]; cases (L.map fun k : Nat => (k : Int)).map V.int <;> rfl]
          refine iteT ?_
          have gl : atI ((zJ J).map V.int) (-1) = some (.int (z : Int)) := by
            rw [hJe]
            unfold zJ atI ixN
            rw [List.length_map, List.length_map, List.length_append, List.length_singleton, if_neg (by omega), if_pos (by omega)]
            show _[((-1 : Int) + ((L.length + 1 : Nat) : Int)).toNat]? = _
            rw [show ((-1 : Int) + ((L.length + 1 : Nat) : Int)).toNat = L.length by omega, List.getElem?_map, List.getElem?_map, List.getElem?_append_right (Nat.le_refl _), Nat.sub_self]; rfl
          refine ⟨_, rfl, _, rfl, b, _, _, _, rfl, rfl, SqT.of hga2, gl, _, _, rfl, rfl, ?_⟩
          refine ⟨_, rfl, _, _, rfl, ⟨by omega, by omega, by omega, by omega⟩, ?_⟩
          refine lapW (walk_range (lo := ((z : Int) + 1)) (n := ((n : Int) - ((z : Int) + 1)).toNat)) (fun k H' => Same H10 H' ∧ SubAt H' D ((((subs n i).take j).flatMap fun one => (List.range' (stJ one) (n - stJ one)).map fun k => one ++ [k]) ++ (List.range' (stJ J) k).map fun k => J ++ [k])) ⟨s11, bs, hd, by rw [show (List.range' (stJ J) 0).map (fun k => J ++ [k]) = [] from rfl, List.append_nil]; exact pr2⟩ (fun _ _ _ _ => trivial) ?_ ?_
          · rintro k x H13 H13' hk ⟨s13, cs, hd3, prc⟩ ⟨rfl, rfl⟩
            refine ⟨rfl, ?_⟩
            refine ⟨_, rfl, _, rfl, (by show 1 ≤ sizeLine; decide), fun T hT => ?_⟩
            have nT := AL.Same.new (o := .tup [.int (((z : Int) + 1) + (k : Int))]) hT
            refine catA_one (nT _ _ (s13 _ _ hga)) upd_same (by simp) (by rw [List.length_map]; unfold zJ; rw [List.length_map]; show J.length + 1 ≤ 100; omega) fun c H14 s14 hc => ?_
            have s34 := nT.trans s14
            have lcs := prd_len prc
            rw [List.length_append, List.length_map, List.length_range'] at lcs
            have fj := fl j
            have tu := upd_tups (o := .lst (cs.map V.ref ++ [.ref c])) (s34 _ _ hd3) (fun _ z => nomatch z)
            refine ⟨_, s34 _ _ hd3, ?_, AL.Same.updn (s13.trans s34) hD, cs ++ [c], by rw [upd_same, List.map_append]; rfl, ?_⟩
            · rw [List.length_map, lcs]; exact Nat.lt_of_le_of_lt (by omega : _ ≤ 40000) (by decide)
            · rw [List.range'_1_concat, List.map_append, ← List.append_assoc]
              refine prd_snoc (paired_mono prc fun _ _ z => tu _ _ (s34 _ _ z)) (tu _ _ ?_)
              rw [hc]
              unfold zJ
              rw [List.map_append, List.map_append]
              show some (HO.tup (_ ++ [V.int (((z : Int) + 1) + (k : Int))])) = some (HO.tup (_ ++ [V.int (((stJ J + k : Nat) : Int))]))
              rw [show ((z : Int) + 1) + (k : Int) = ((stJ J + k : Nat) : Int) by omega]
          rintro H13 ⟨s13, cs, hd3, prc⟩
          rw [show ((n : Int) - ((z : Int) + 1)).toNat = n - stJ J by omega] at prc
          refine ⟨s13, cs, hd3, ?_⟩
          rw [List.take_add_one, hJ, List.flatMap_append]
          rw [show List.flatMap (fun one => (List.range' (stJ one) (n - stJ one)).map fun k => one ++ [k]) (some J).toList = (List.range' (stJ J) (n - stJ J)).map fun k => J ++ [k] by show List.flatMap _ [J] = _; rw [List.flatMap_cons, List.flatMap_nil, List.append_nil]]
          exact prc
    
      rintro H11 ⟨s11, hS⟩
      rw [List.length_map, las, List.take_length] at hS
      exact ⟨_, _, _, _, rfl, s10.trans s11, hS⟩
    · rintro σ H1 ⟨lf, v3, v4, v5, rfl, s1, hS⟩
      rw [Int.toNat_natCast] at hS
      exact ⟨_, rfl, q lf H1 s1 hS⟩
end
end AL
set_option Elab.async false
set_option maxRecDepth 100000
set_option exponentiation.threshold 70000
set_option maxHeartbeats 1000000
namespace AL
open PySem PySem.Spec PyProof.Rows L2 RZ
section
variable {P : Program} {w : World} {K : PySem.W.Frag} {mg : Str → Option Value} {base : Heap}

/-- a def with a default value that may be given by its name -/
structure DefDk (dvs : List V) (K : PySem.W.Frag) (mg : Str → Option Value) (x : Str) (st : Stmt) (ps : List Str) (f : Addr) (fd : FuncData) : Prop extends DefDf dvs K mg x st ps f fd where
  kw : L2.KBn K fd ps 1 ["whole"] (fun us ws => us ++ ws) (fun vs zs => vs ++ zs)
/-- the chosen rows -/
def chs (A : List Rw) (J : List Nat) : List Rw := J.map fun j => A.getD j []
noncomputable def pB (A : List Rw) (s : Nat) (wh : Bool) (J : List Nat) : Bool := @decide (RankIs (chs A J) s ∧ (wh = true → Gen (chs A J) A)) (Classical.propDecidable _)
theorem pB_iff {A : List Rw} {s : Nat} {wh : Bool} {J : List Nat} : pB A s wh J = true ↔ (RankIs (chs A J) s ∧ (wh = true → Gen (chs A J) A)) := by
  unfold pB
  exact @decide_eq_true_iff _ (Classical.propDecidable _)
theorem chs_len (A : List Rw) (J : List Nat) : (chs A J).length = J.length := List.length_map _
theorem chs_in {A : List Rw} {J : List Nat} (h : ∀ j ∈ J, j < A.length) : ∀ r ∈ chs A J, r ∈ A := fun r hr => by
  obtain ⟨j, hj, rfl⟩ := List.mem_map.mp hr
  have := h j hj
  rw [List.getD_eq_getElem?_getD, List.getElem?_eq_getElem this]; exact List.getElem_mem this
theorem rank_le_W {W s : Nat} {A : List Rw} (hl : ∀ r ∈ A, r.length = W) (r : RankIs A s) : s ≤ W := by
  have e := r.uniq (spn_rank hl)
  obtain ⟨R, _, _⟩ := spn_spec hl
  have nd : ((spn A).map piv).Nodup := by
    rw [List.nodup_iff_pairwise_ne, List.pairwise_map]
    refine (R.off.imp_of_mem fun {f h} hf hh o e => ?_)
    have := R.pos h hh
    rw [← e, o.2] at this
    omega
  have := nodup_sub (G := (spn A).map piv) (F := List.range W) nd fun p hp => by
    obtain ⟨f, hf, rfl⟩ := List.mem_map.mp hp
    exact List.mem_range.mpr (piv_lt R hf)
  rw [List.length_map, List.length_range] at this
  omega
/-- rows for rank_of and hermite_rows -/
theorem small_spn {W : Nat} {A : List Rw} (hl : ∀ r ∈ A, r.length = W) (ln : A.length ≤ 7) (hB : ∀ r ∈ A, ∀ v ∈ r, v.natAbs ≤ 7864320) : (∀ r ∈ A, Bb 23 r) ∧ ∀ i, ∀ f ∈ spn (A.take i), Bb 180 f := by
  refine ⟨fun r hr => Bd.vl fun v hv => Nat.lt_of_le_of_lt (hB r hr v hv) (by decide), fun i f hf j => ?_⟩
  refine Nat.lt_of_le_of_lt (spn_minor (W := W) (B := 7864320) (n := 7) (fun r hr => hl r (List.mem_of_mem_take hr)) (fun r hr => hB r (List.mem_of_mem_take hr)) (by decide) ?_ f hf j) (by decide +kernel : facB 7864320 7 < 2 ^ 180)
  rw [List.length_take]; omega
theorem small_hr : ∀ {n : Nat}, n ≤ 7 → n * facB 7864320 n ≤ 2 ^ 200
  | 0, _ => by decide
  | 1, _ => by decide +kernel
  | 2, _ => by decide +kernel
  | 3, _ => by decide +kernel
  | 4, _ => by decide +kernel
  | 5, _ => by decide +kernel
  | 6, _ => by decide +kernel
  | 7, _ => by decide +kernel
  | n + 8, h => by omega
theorem eqvA_dL : ∀ zs ws : List (List Int), PyData.eqvAll (zs.map dL) (ws.map dL) = decide (zs = ws)
  | [], [] => by rw [List.map_nil, PyData.eqvAll]; rfl
  | [], _ :: _ => by rw [List.map_nil, List.map_cons, PyData.eqvAll]; rfl
  | _ :: _, [] => by rw [List.map_nil, List.map_cons, PyData.eqvAll]; rfl
  | z :: zs, w :: ws => by
    rw [List.map_cons, List.map_cons, PyData.eqvAll, eqvA_dL zs ws]
    unfold dL
    rw [eqv_intsL, Bool.eq_iff_iff, Bool.and_eq_true, decide_eq_true_eq, decide_eq_true_eq, decide_eq_true_eq]
    exact ⟨fun h => by rw [h.1, h.2], fun h => by injection h with a b; exact ⟨a, b⟩⟩
theorem eqvL_dL (zs ws : List (List Int)) : PyData.eqv (.list (zs.map dL)) (.list (ws.map dL)) = decide (zs = ws) := by
  rw [PyData.eqv]; exact eqvA_dL zs ws
/-- tuples of indices in a tuple -/
def TupJ (H : Hp) (t : Addr) (Js : List (List Nat)) : Prop := ∃ as : List Addr, H t = some (.tup (as.map V.ref)) ∧ Paired (fun a (J : List Nat) => H a = some (.tup ((zJ J).map V.int))) as Js
/-- base_sets(A, whole) -/
def spBs : Sp := fun vs H Q _ => ∃ (w : Addr) (wh : Bool) (A : List Rw) (W s : Nat), vs = [.ref w, .bl wh] ∧ RowsA H w A ∧ A ≠ [] ∧ (∀ r ∈ A, r.length = W) ∧ 0 < W ∧ W ≤ 5 ∧ A.length ≤ 7 ∧ (∀ r ∈ A, ∀ v ∈ r, v.natAbs ≤ 7864320) ∧ RankIs A s ∧
  ∀ t H', Same H H' → TupJ H' t ((subs A.length s).filter (pB A s wh)) → (∃ F, Hnf W F ∧ Gen F A) → (wh = true → ∀ J ∈ subs A.length s, RankIs (chs A J) s → ∃ G, Hnf W G ∧ Gen G (chs A J)) → Q (.ref t) H'

abbrev stbase_sets : Stmt := top 30
theorem scbase_sets : FnScope ["A", "whole", "rank", "basis", "found", "letters", "rows", "j"] ["A", "whole"] (defScope stbase_sets) := ⟨rfl, rfl, rfl, by decide +kernel, rfl, by decide +kernel, by decide +kernel⟩
theorem okbase_sets (B : Blt mg) {CGroups : Addr} (Es : ErH K mg CGroups) {fis_whole : Addr} {fdis_whole : FuncData} (Dis_whole : DefAt K mg "is_whole" stis_whole ["value"] fis_whole fdis_whole) {fare_integers : Addr} {fdare_integers : FuncData} (Dare_integers : DefAt K mg "are_integers" stare_integers ["items"] fare_integers fdare_integers) {fis_list : Addr} {fdis_list : FuncData} (Dis_list : DefAt K mg "is_list" stis_list ["value"] fis_list fdis_list) {fis_matrix : Addr} {fdis_matrix : FuncData} (Dis_matrix : DefAt K mg "is_matrix" stis_matrix ["rows"] fis_matrix fdis_matrix) {fcheck_matrix : Addr} {fdcheck_matrix : FuncData} (Dcheck_matrix : DefDf [.str "rows"] K mg "check_matrix" stcheck_matrix ["rows", "what"] fcheck_matrix fdcheck_matrix) {fcombined : Addr} {fdcombined : FuncData} (Dcombined : DefAt K mg "combined" stcombined ["many", "one", "times", "other"] fcombined fdcombined) {fpivot_of : Addr} {fdpivot_of : FuncData} (Dpivot_of : DefAt K mg "pivot_of" stpivot_of ["row"] fpivot_of fdpivot_of) {freduced : Addr} {fdreduced : FuncData} (Dreduced : DefAt K mg "reduced" streduced ["rows"] freduced fdreduced) {fbezout : Addr} {fdbezout : FuncData} (Dbezout : DefAt K mg "bezout" stbezout ["one", "other"] fbezout fdbezout) {ftaken_in : Addr} {fdtaken_in : FuncData} (Dtaken_in : DefAt K mg "taken_in" sttaken_in ["basis", "row"] ftaken_in fdtaken_in) {fhermite_rows : Addr} {fdhermite_rows : FuncData} (Dhermite_rows : DefAt K mg "hermite_rows" sthermite_rows ["rows"] fhermite_rows fdhermite_rows) {fwithout_item : Addr} {fdwithout_item : FuncData} (Dwithout_item : DefAt K mg "without_item" stwithout_item ["row", "at", "held"] fwithout_item fdwithout_item) {fcleared : Addr} {fdcleared : FuncData} (Dcleared : DefAt K mg "cleared" stcleared ["reduced_rows", "row"] fcleared fdcleared) {fprimitive : Addr} {fdprimitive : FuncData} (Dprimitive : DefAt K mg "primitive" stprimitive ["row"] fprimitive fdprimitive) {fspan_of : Addr} {fdspan_of : FuncData} (Dspan_of : DefAt K mg "span_of" stspan_of ["rows"] fspan_of fdspan_of) {frank_of : Addr} {fdrank_of : FuncData} (Drank_of : DefAt K mg "rank_of" strank_of ["rows"] frank_of fdrank_of) {fsets_of : Addr} {fdsets_of : FuncData} (Dsets_of : DefAt K mg "sets_of" stsets_of ["many", "size"] fsets_of fdsets_of) {fbase_sets : Addr} {fdbase_sets : FuncData} (Dbase_sets : DefDk [.bl false] K mg "base_sets" stbase_sets ["A", "whole"] fbase_sets fdbase_sets) : FnOk P w K mg base CX0 7 fbase_sets fdbase_sets ["A", "whole"] spBs := by
  have OKcheck_matrix : FnOk P w K mg base CX0 3 fcheck_matrix fdcheck_matrix ["rows", "what"] spChM := okcheck_matrix B  Dis_whole Dare_integers Dis_list Dis_matrix Dcheck_matrix
  have OKhermite_rows : FnOk P w K mg base CX0 3 fhermite_rows fdhermite_rows ["rows"] spHr := okhermite_rows B  Dcombined Dpivot_of Dreduced Dbezout Dtaken_in Dhermite_rows
  have OKrank_of : FnOk P w K mg base CX0 5 frank_of fdrank_of ["rows"] spRo := okrank_of B Es Dpivot_of Dcombined Dwithout_item Dcleared Dprimitive Dspan_of Drank_of
  have OKsets_of : FnOk P w K mg base CX0 1 fsets_of fdsets_of ["many", "size"] spSb := oksets_of B Es Dsets_of
  refine Dbase_sets.F.ok scbase_sets (fun vs H Q E h => ?_) (fun cdv A outer s H vs Q E hr h => ?_)
  · obtain ⟨w, wh, A, W, s, rfl, _⟩ := h; rfl
  · have hu := hu_of hr
    refine ⟨_, PSs.nox (pss_cons (ps_expr (pe_call OKcheck_matrix (hr.mono (by decide)) rfl Dcheck_matrix.m Dcheck_matrix.F.kp Dcheck_matrix.b .nil pass0 (pa_cons (pv 0) (pa_cons pe_str pa_nil))))
    (pss_cons (ps_set (i := 2) scbase_sets.nd rfl (Or.inl rfl) (pe_call OKrank_of (hr.mono (by decide)) rfl Drank_of.m Drank_of.F.kp Drank_of.b .nil pass0 (pa_cons (pv 0) pa_nil)))
    (pss_cons (ps_set (i := 3) scbase_sets.nd rfl (Or.inl rfl) (pe_call OKhermite_rows (hr.mono (by decide)) rfl Dhermite_rows.m Dhermite_rows.F.kp Dhermite_rows.b .nil pass0 (pa_cons (pv 0) pa_nil)))
    (pss_cons (ps_set (i := 4) scbase_sets.nd rfl (Or.inl rfl) (pe_lst pa_nil))
    (pss_cons (ps_for PassesOwn.never rfl (pi_list (pe_call OKsets_of (hr.mono (by decide)) rfl Dsets_of.m Dsets_of.F.kp Dsets_of.b .nil pass0 (pa_cons (pe_callB (call_lenK : CallR _ (.builtin "len") (rLenK K)) (by rfl) B.len_ (by decide +kernel) (pa_cons (pv 0) pa_nil)) (pa_cons (pv 2) pa_nil)))) (pg_name (i := 5) scbase_sets.nd rfl (Or.inl rfl))
      (pss_cons (ps_setLc (i := 6) (own := [("j", 7)]) (g := gName 7) (tt := tYes) rfl scbase_sets.nd rfl rfl (sw_true rfl rfl rfl (by decide +kernel)) (pi_tup (pv 5)) (blkOk_by (own := [("j", 7)]) (N := ["A", "whole", "rank", "basis", "found", "letters", "rows", "j"]) (sc := defScope stbase_sets) (by decide +kernel)) (fun _ _ _ _ _ => (pg_name (i := 7) scbase_sets.nd rfl (Or.inl rfl))) (fun _ _ _ _ _ => pts_nil) (fun _ _ _ _ _ => (pe_ix (ix_seq : IxR _ (rIx K)) (pv 0) (pv 7) (fun _ _ => rfl))))
    (pss_one (ps_if (PW.pt (pw_and (pt_cmpR op_eq (pe_call OKrank_of (hr.mono (by decide)) rfl Drank_of.m Drank_of.F.kp Drank_of.b .nil pass0 (pa_cons (pv 6) pa_nil)) (pv 2) (nomark _)) (pw_and1 (PW.pt (pw_or (pt_not (pt_val (pv 1))) (pw_or1 (pt_cmpR (op_eqD hr.units) (pe_call OKhermite_rows (hr.mono (by decide)) rfl Dhermite_rows.m Dhermite_rows.F.kp Dhermite_rows.b .nil pass0 (pa_cons (pv 6) pa_nil)) (pv 3) (nomark _)))))))) (pss_one (ps_expr (pe_bm PySem.F.plainAttrs_list PySem.F.slot_list_append PySem.F.type_list_append mt_append (pv 4) (pa_cons (pv 5) pa_nil)))) pss_nil))))
    (pss_one (ps_ret (pe_callTy (call_tupK : CallR _ _ (rTup K)) (by rfl) B.tuple_ (by decide +kernel) (pa_cons (pv 4) pa_nil))))))))), ?_⟩
    obtain ⟨w, wh, A, W, s, rfl, hw, ne, hl, W0, W5, ln, hB, rk, q⟩ := h
    obtain ⟨as, W1, W2⟩ := id hw
    have las := prd_len W2
    have sW := rank_le_W hl rk
    have sA : s ≤ A.length := rk.le fun r hr => .mem ⟨r, hr, rfl⟩
    refine ⟨_, rfl, w, W, A, _, rfl, hw, ne, hl, W0, by omega, by omega, fun H1 s1 => ?_⟩
    obtain ⟨sb, sm⟩ := small_spn hl ln hB
    refine ⟨_, rfl, w, A, W, 23, 180, rfl, hw.same s1, hl, by omega, by omega, sb, sm, by decide, by omega, fun H2 s2 => ?_⟩
    rw [← rk.uniq (spn_rank hl)]
    refine ⟨_, rfl, w, W, 7864320, 200, facB 7864320 A.length, A, rfl, (hw.same s1).same s2, hl, by omega, by omega, hB, by decide, facB_mn hB (by decide), small_hr ln, by omega, fun bd H3 F s3 hF nF gF lF bF => ?_⟩
    have s13 := s1.trans (s2.trans s3)
    refine ⟨(by show 0 ≤ sizeLine; decide), fun f0 hf0 => ?_⟩
    have n0 := AL.Same.new (o := .lst []) hf0
    have hf1 : upd H3 f0 (.lst []) f0 = some (.lst []) := upd_same
    have W4 := W1.imp (fun z => n0 _ _ (s13 _ _ z)) fun z => n0 _ _ (s13 _ _ z)
    refine ⟨_, rfl, w, _, rfl, W4.imp SqL.of SqT.of, _, rfl, A.length, s, by rw [List.length_map, las]; rfl, by omega, by omega, fun l H5 s5 hS => ?_⟩
    generalize upd H3 f0 (.lst []) = H4 at n0 hf1 W4 s5
    obtain ⟨js, J1, J2⟩ := hS
    have ljs := prd_len J2
    have jne : js ≠ [] := fun z => by
      have m := subs_all (n := A.length) (s := s) (J := List.range s) List.length_range List.pairwise_lt_range (fun j hj => Nat.lt_of_lt_of_le (List.mem_range.mp hj) sA)
      rw [z] at ljs
      rw [List.eq_nil_of_length_eq_zero ljs.symm] at m
      exact nomatch m
    have lf0 : l ≠ f0 := fun z => by
      rw [z, s5 _ _ hf1] at J1
      have := Option.some.inj J1
      injection this with h
      cases js with
      | nil => exact jne rfl
      | cons a b => simp at h
    have bnd : ∀ i, (((subs A.length s).take i).filter (pB A s wh)).length ≤ 32768 := fun i => Nat.le_trans (List.length_filter_le _ _) (by
      rw [List.length_take]
      have := Nat.le_trans (subs_len A.length s) (Nat.le_trans (Nat.pow_le_pow_left (by omega : A.length ≤ 8) s) (Nat.le_trans (Nat.pow_le_pow_right (by decide) (by omega : s ≤ 5)) (by decide : 8 ^ 5 ≤ 32768)))
      omega)
    refine ⟨l, rfl, ⟨_, SqL.of J1⟩, for_list (K := K) (a := l) (xs := js.map V.ref) (fun i σ H' => ∃ (v5 v6 : Option V), σ = [some (.ref w), some (.bl wh), some (.int (s : Int)), some (.ref bd), some (.ref f0), v5, v6, none] ∧ Same H3 H' ∧ (∀ b o, b ≠ f0 → H5 b = some o → H' b = some o) ∧ ∃ cs : List Addr, H' f0 = some (.lst (cs.map V.ref)) ∧ Paired (fun a (J : List Nat) => H' a = some (.tup ((zJ J).map V.int))) cs (((subs A.length s).take i).filter (pB A s wh)) ∧ (wh = true → ∀ J ∈ (subs A.length s).take i, RankIs (chs A J) s → ∃ G, Hnf W G ∧ Gen G (chs A J))) ⟨none, none, rfl, n0.trans s5, fun _ _ _ h => h, [], s5 _ _ hf1, .nil, fun _ J h => nomatch h⟩ (fun i σ H' _ hh => by obtain ⟨_, _, _, _, k, _⟩ := hh; exact SqL.of (k _ _ lf0 J1)) ?_ ?_⟩
    · rintro i x σ H6 hx ⟨v5, v6, rfl, s6, k6, cs, hf6, pr6, ex6⟩
      obtain ⟨a, ha, rfl⟩ := map_ref hx
      obtain ⟨J, hJ, hga⟩ := prd_get J2 ha
      obtain ⟨lJ, aJ, bJ⟩ := subs_ok (List.mem_of_getElem? hJ)
      have af : a ≠ f0 := fun z => by rw [z, s5 _ _ hf1] at hga; cases hga
      have hga6 := k6 _ _ af hga
      have W6 := W1.imp (fun z => s6 _ _ (s13 _ _ z)) fun z => s6 _ _ (s13 _ _ z)
      have p26 := paired_mono W2 fun _ _ z => (z.same s13).same s6
      have hF6 := hF.same s6
      have fb := bnd i
      have lcs := prd_len pr6
      refine ⟨_, rfl, a, rfl, ⟨_, SqT.of hga6⟩, fun D hD => ?_⟩
      refine lc_tup (K := K) (a := a) (xs := (zJ J).map V.int) (fun k H' => Same H6 H' ∧ ∃ bs : List Addr, H' D = some (.lst (bs.map V.ref)) ∧ Paired (fun b r => LT H6 b r) bs ((chs A J).take k)) ⟨AL.Same.new hD, [], upd_same, .nil⟩ (fun k H' _ hh => SqT.of (hh.1 _ _ hga6)) ?_ ?_
      · rintro k x H7 hx ⟨s7, bs, hd7, pr7⟩
        unfold zJ at hx
        rw [List.getElem?_map, List.getElem?_map] at hx
        obtain ⟨y, hy, rfl⟩ := Option.map_eq_some_iff.mp hx
        obtain ⟨jj, hjj, rfl⟩ := Option.map_eq_some_iff.mp hy
        have jl := bJ jj (List.mem_of_getElem? hjj)
        have kl := (List.getElem?_eq_some_iff.mp hjj).1
        have lbs := prd_len pr7
        rw [List.length_take, chs_len] at lbs
        have ja : jj < as.length := by omega
        have ga := atI_of (xs := as.map V.ref) (j := jj) (by rw [List.length_map]; exact ja)
        rw [List.getElem?_map, List.getElem?_eq_getElem ja] at ga
        obtain ⟨r, hr, hra⟩ := prd_get p26 (List.getElem?_eq_getElem ja)
        have gr : A.getD jj [] = r := by rw [List.getD_eq_getElem?_getD, hr]; rfl
        refine ⟨rfl, ?_⟩
        refine ⟨_, rfl, _, rfl, rIx_seq0 (W6.imp (s7 _ _) (s7 _ _)) ga ?_⟩
        refine ⟨_, hd7, ?_, AL.Same.updn s7 hD, bs ++ [as[jj]], by rw [upd_same, List.map_append]; rfl, ?_⟩
        · rw [List.length_map, lbs]; exact Nat.lt_of_le_of_lt (by omega : _ ≤ 1000) (by decide)
        · rw [List.take_add_one, show (chs A J)[k]? = some r by unfold chs; rw [List.getElem?_map, hjj, ← gr]; rfl]
          exact prd_snoc pr7 hra
      rintro H7 ⟨s7, bs, hd7, pr7⟩
      rw [List.take_of_length_le (by rw [List.length_map, chs_len]; unfold zJ; rw [List.length_map]; exact Nat.le_refl _)] at pr7
      have hC7 : RowsA H7 D (chs A J) := ⟨bs, .inl hd7, paired_mono pr7 fun _ _ z => z.same s7⟩
      have Cin := chs_in (A := A) bJ
      have Cl : ∀ r ∈ chs A J, r.length = W := fun r hr => hl r (Cin r hr)
      have Cn : (chs A J).length ≤ 7 := by rw [chs_len]; omega
      have CB : ∀ r ∈ chs A J, ∀ v ∈ r, v.natAbs ≤ 7864320 := fun r hr => hB r (Cin r hr)
      obtain ⟨cb, cm⟩ := small_spn Cl Cn CB
      have hf7 := s7 _ _ hf6
      have pr67 := paired_mono pr6 fun _ _ z => s7 _ _ z
      have exn : (wh = true → RankIs (chs A J) s → ∃ G, Hnf W G ∧ Gen G (chs A J)) → wh = true → ∀ J ∈ (subs A.length s).take (i + 1), RankIs (chs A J) s → ∃ G, Hnf W G ∧ Gen G (chs A J) := fun hg w1 J' hJ' => by
        rw [List.take_add_one, hJ] at hJ'
        rcases List.mem_append.mp hJ' with h | h
        · exact ex6 w1 J' h
        · rw [List.mem_singleton.mp h]; exact hg w1
      have skip : ∀ H', Same H7 H' → pB A s wh J = false → (wh = true → RankIs (chs A J) s → ∃ G, Hnf W G ∧ Gen G (chs A J)) → ∃ (v5 v6 : Option V), [some (.ref w), some (.bl wh), some (.int (s : Int)), some (.ref bd), some (.ref f0), some (.ref a), some (.ref D), none] = [some (.ref w), some (.bl wh), some (.int (s : Int)), some (.ref bd), some (.ref f0), v5, v6, none] ∧ Same H3 H' ∧ (∀ b o, b ≠ f0 → H5 b = some o → H' b = some o) ∧ ∃ cs : List Addr, H' f0 = some (.lst (cs.map V.ref)) ∧ Paired (fun a (J : List Nat) => H' a = some (.tup ((zJ J).map V.int))) cs (((subs A.length s).take (i + 1)).filter (pB A s wh)) ∧ (wh = true → ∀ J ∈ (subs A.length s).take (i + 1), RankIs (chs A J) s → ∃ G, Hnf W G ∧ Gen G (chs A J)) := fun H' s8 no hg => by
        refine ⟨_, _, rfl, s6.trans (s7.trans s8), fun b o nb h => s8 _ _ (s7 _ _ (k6 _ _ nb h)), cs, s8 _ _ hf7, ?_⟩
        rw [show ((subs A.length s).take (i + 1)).filter (pB A s wh) = ((subs A.length s).take i).filter (pB A s wh) by rw [List.take_add_one, hJ, List.filter_append, show List.filter (pB A s wh) (some J).toList = [] by show List.filter _ [J] = []; rw [List.filter_cons, no]; rfl, List.append_nil]]
        exact ⟨paired_mono pr67 fun _ _ z => s8 _ _ z, exn hg⟩
      have fin : ∀ H', Same H7 H' → pB A s wh J = true → (wh = true → RankIs (chs A J) s → ∃ G, Hnf W G ∧ Gen G (chs A J)) → ∃ (v5 v6 : Option V), [some (.ref w), some (.bl wh), some (.int (s : Int)), some (.ref bd), some (.ref f0), some (.ref a), some (.ref D), none] = [some (.ref w), some (.bl wh), some (.int (s : Int)), some (.ref bd), some (.ref f0), v5, v6, none] ∧ Same H3 (upd H' f0 (.lst (cs.map V.ref ++ [.ref a]))) ∧ (∀ b o, b ≠ f0 → H5 b = some o → upd H' f0 (.lst (cs.map V.ref ++ [.ref a])) b = some o) ∧ ∃ cs' : List Addr, upd H' f0 (.lst (cs.map V.ref ++ [.ref a])) f0 = some (.lst (cs'.map V.ref)) ∧ Paired (fun a' (J : List Nat) => upd H' f0 (.lst (cs.map V.ref ++ [.ref a])) a' = some (.tup ((zJ J).map V.int))) cs' (((subs A.length s).take (i + 1)).filter (pB A s wh)) ∧ (wh = true → ∀ J ∈ (subs A.length s).take (i + 1), RankIs (chs A J) s → ∃ G, Hnf W G ∧ Gen G (chs A J)) := fun H' s8 yes hg => by
        have tu := upd_tups (o := .lst (cs.map V.ref ++ [.ref a])) (s8 _ _ hf7) (fun _ z => nomatch z)
        refine ⟨_, _, rfl, AL.Same.updn (s6.trans (s7.trans s8)) hf0, fun b o nb h => by rw [upd_ne nb]; exact s8 _ _ (s7 _ _ (k6 _ _ nb h)), cs ++ [a], by rw [upd_same, List.map_append]; rfl, ?_⟩
        rw [show ((subs A.length s).take (i + 1)).filter (pB A s wh) = ((subs A.length s).take i).filter (pB A s wh) ++ [J] by rw [List.take_add_one, hJ, List.filter_append, show List.filter (pB A s wh) (some J).toList = [J] by show List.filter _ [J] = [J]; rw [List.filter_cons, yes]; rfl]]
        exact ⟨prd_snoc (paired_mono pr67 fun _ _ z => tu _ _ (s8 _ _ z)) (tu _ _ (s8 _ _ (s7 _ _ hga6))), exn hg⟩
      have lsz : (cs.map V.ref).length < sizeLine := by rw [List.length_map, lcs]; exact Nat.lt_of_le_of_lt (by omega : _ ≤ 40000) (by decide)
      refine ⟨_, rfl, D, chs A J, W, 23, 180, rfl, hC7, Cl, by omega, by omega, cb, cm, by decide, by omega, fun H8 s8 => ?_⟩
      refine ⟨_, rfl, rfl, _, rfl, ?_⟩
      have hf8 := s8 _ _ hf7
      by_cases rc : (spn (chs A J)).length = s
      · have rC : RankIs (chs A J) s := by have := spn_rank Cl; rw [rc] at this; exact this
        rw [decide_eq_true (by rw [rc])]
        refine iteT ?_
        cases wh with
        | false =>
          refine ⟨_, rfl, false, rfl, ?_⟩
          refine iteT ?_
          refine iteT ?_
          refine ⟨_, rfl, .inl ⟨rfl, _, SqL.of hf8⟩, _, rfl, f0, _, _, rfl, rfl, hf8, lsz, ?_⟩
          exact fin H8 s8 (pB_iff.mpr ⟨rC, fun h => Bool.noConfusion h⟩) (fun h => Bool.noConfusion h)
        | true =>
          refine ⟨_, rfl, true, rfl, ?_⟩
          refine iteF ?_
          refine ⟨_, rfl, D, W, 7864320, 200, facB 7864320 (chs A J).length, chs A J, rfl, hC7.same s8, Cl, by omega, by omega, CB, by decide, facB_mn CB (by decide), small_hr Cn, by omega, fun gd H9 G s9 hG nG gG lG bG => ?_⟩
          obtain ⟨gs, G1, G2⟩ := hG
          obtain ⟨fs, F1, F2⟩ := ((hF6.same s7).same s8).same s9
          refine ⟨_, rfl, .list (G.map dL), .list (F.map dL), .lst (SqL.of G1) (dp_rowsL G2), .lst (SqL.of F1) (dp_rowsL F2), shaped_rows _, shaped_rows _, _, rfl, ?_⟩
          rw [eqvL_dL]
          by_cases e : G = F
          · rw [decide_eq_true e]
            refine iteT ?_
            have hf9 := s9 _ _ hf8
            refine ⟨_, rfl, .inl ⟨rfl, _, SqL.of hf9⟩, _, rfl, f0, _, _, rfl, rfl, hf9, lsz, ?_⟩
            exact fin H9 (s8.trans s9) (pB_iff.mpr ⟨rC, fun _ => (hnf_gen nF gF nG gG).mp e⟩) (fun _ _ => ⟨G, nG, gG⟩)
          · rw [decide_eq_false e]
            refine iteF ?_
            exact skip H9 (s8.trans s9) (by
              cases hb : pB A s true J with
              | false => rfl
              | true => exact absurd ((hnf_gen nF gF nG gG).mpr ((pB_iff.mp hb).2 rfl)) e) (fun _ _ => ⟨G, nG, gG⟩)
      · rw [decide_eq_false (fun z => rc (by injection z with z; omega))]
        refine iteF ?_
        refine iteF ?_
        exact skip H8 s8 (by
          cases hb : pB A s wh J with
          | false => rfl
          | true => exact absurd ((pB_iff.mp hb).1.uniq (spn_rank Cl)) fun z => rc z.symm) (fun _ rC => absurd (rC.uniq (spn_rank Cl)) fun z => rc z.symm)
    rintro σ H6 ⟨v5, v6, rfl, s6, k6, cs, hf6, pr6, ex6⟩
    rw [List.length_map, ljs, List.take_length] at pr6 ex6
    refine ⟨_, rfl, f0, _, rfl, .inl ⟨SqL.of hf6, fun t ht => ?_⟩⟩
    have nt := AL.Same.new (o := .tup (cs.map V.ref)) ht
    exact q t _ (s13.trans (s6.trans nt)) ⟨cs, upd_same, paired_mono pr6 fun _ _ z => nt _ _ z⟩ ⟨F, nF, gF⟩ ex6
end
end AL
set_option Elab.async false
set_option maxRecDepth 100000
set_option exponentiation.threshold 70000
set_option maxHeartbeats 1000000
namespace AL
open PySem PySem.Spec PyProof.Rows L2 RZ
section
variable {P : Program} {w : World} {K : PySem.W.Frag} {mg : Str → Option Value} {base : Heap}
structure IniA (K : PySem.W.Frag) (x qual : Str) (st : Stmt) (ps : List Str) (C f : Addr) (fd : FuncData) : Prop where
  F : Fun K x qual st f fd
  b : Binds K fd ps []
  M : Mk K C f
theorem R1.but {H H' : Hp} {z C dz : Addr} {fs : List (Str × V)} {v : V} {c : TC} (h : R1 H v c) (hz : H z = some (.ins C dz fs)) (k : ∀ b o, b ≠ z → H b = some o → H' b = some o) : R1 H' v c := by
  cases c with
  | inl u => exact h
  | inr xs =>
    obtain ⟨a, h1, h2, h3⟩ := h
    refine ⟨a, h1, ?_, h3⟩
    rcases h2 with w | w
    · exact .inl (k _ _ (fun e => by rw [e, hz] at w; cases w) w)
    · exact .inr (k _ _ (fun e => by rw [e, hz] at w; cases w) w)
theorem Res1.but {H H' : Hp} {z C dz : Addr} {fs : List (Str × V)} {v : V} {c : TC} (h : Res1 H v c) (hz : H z = some (.ins C dz fs)) (k : ∀ b o, b ≠ z → H b = some o → H' b = some o) : Res1 H' v c := by
  cases c with
  | inl u => exact h
  | inr xs =>
    obtain ⟨t, h1, h2⟩ := h
    exact ⟨t, h1, k _ _ (fun e => by rw [e, hz] at h2; cases h2) h2⟩

/-- Groups.__init__ -/
def spGi (CG : Addr) : Sp := fun vs H Q _ => ∃ (z dz a1 a2 a3 : Addr) (u1 u2 u3 : List V) (c1 c2 c3 : List TC), vs = [.ref z, .ref a1, .ref a2, .ref a3] ∧ H z = some (.ins CG dz []) ∧ (H a1 = some (.lst u1) ∨ H a1 = some (.tup u1)) ∧ (H a2 = some (.lst u2) ∨ H a2 = some (.tup u2)) ∧ (H a3 = some (.lst u3) ∨ H a3 = some (.tup u3)) ∧ Paired (R1 H) u1 c1 ∧ Paired (R1 H) u2 c2 ∧ Paired (R1 H) u3 c3 ∧ u1.length ≤ 100 ∧ u2.length ≤ 100 ∧ u3.length ≤ 100 ∧
  ∀ t1 t2 t3 H' y1 y2 y3, (∀ b o, b ≠ z → H b = some o → H' b = some o) → H' z = some (.ins CG dz [("basis", .ref t1), ("down", .ref t2), ("up", .ref t3)]) → H' t1 = some (.tup y1) → H' t2 = some (.tup y2) → H' t3 = some (.tup y3) → Paired (Res1 H') y1 c1 → Paired (Res1 H') y2 c2 → Paired (Res1 H') y3 c3 → Q .non H'
/-- rows in tuples -/
def RowsV (H : Hp) (w : Addr) (ws : List Rw) : Prop := ∃ as : List Addr, H w = some (.tup (as.map V.ref)) ∧ Paired (fun a r => H a = some (.tup (r.map V.int))) as ws
theorem RowsV.same {H H' : Hp} {w : Addr} {ws : List Rw} (h : RowsV H w ws) (s : Same H H') : RowsV H' w ws := by
  obtain ⟨as, h1, h2⟩ := h
  exact ⟨as, s _ _ h1, paired_mono h2 fun _ _ z => s _ _ z⟩
/-- rows as as_tuples takes them -/
theorem r1_rows {H : Hp} : ∀ {as : List Addr} {rows : List Rw}, Paired (fun a r => H a = some (.lst (r.map V.int))) as rows → (∀ r ∈ rows, r.length ≤ 100) → Paired (R1 H) (as.map V.ref) (rows.map fun r => .inr (r.map V.int))
  | [], [], _, _ => .nil
  | a :: as, r :: rows, .cons h t, hl => .cons ⟨a, rfl, .inl h, by rw [List.length_map]; exact hl r (List.mem_cons_self ..), fun x hx => by
      obtain ⟨i, _, rfl⟩ := List.mem_map.mp hx
      exact .int i⟩ (r1_rows t fun r hr => hl r (List.mem_cons_of_mem _ hr))
theorem res_rows {H : Hp} : ∀ {ys : List V} {rows : List Rw}, Paired (Res1 H) ys (rows.map fun r => .inr (r.map V.int)) → ∃ as : List Addr, ys = as.map V.ref ∧ Paired (fun a r => H a = some (.tup (r.map V.int))) as rows
  | [], [], _ => ⟨[], rfl, .nil⟩
  | y :: ys, r :: rows, .cons ⟨t, h1, h2⟩ w => by
    obtain ⟨as, e, p⟩ := res_rows w
    exact ⟨t :: as, by rw [List.map_cons, ← e, h1], .cons h2 p⟩

abbrev stG_init : Stmt := inClass (top 28) 0
theorem scG_init : FnScope ["self", "basis", "down", "up"] ["self", "basis", "down", "up"] (defScope stG_init) := ⟨rfl, rfl, rfl, by decide +kernel, rfl, by decide +kernel, by decide +kernel⟩
theorem okG_init (B : Blt mg) {CGroups : Addr} (Es : ErH K mg CGroups) {fis_list : Addr} {fdis_list : FuncData} (Dis_list : DefAt K mg "is_list" stis_list ["value"] fis_list fdis_list) {fas_tuples0 : Addr} {fdas_tuples0 : FuncData} (Das_tuples0 : DefAt K mg "as_tuples" stas_tuples0 ["value"] fas_tuples0 fdas_tuples0) {fas_tuples1 : Addr} {fdas_tuples1 : FuncData} (Das_tuples1 : DefAt K mg "as_tuples" stas_tuples1 ["value"] fas_tuples1 fdas_tuples1) {fas_tuples : Addr} {fdas_tuples : FuncData} (Das_tuples : DefAt K mg "as_tuples" stas_tuples ["value"] fas_tuples fdas_tuples) {fG_init : Addr} {fdG_init : FuncData} (DG_init : IniA K "__init__" "Groups.__init__" stG_init ["self", "basis", "down", "up"] CGroups fG_init fdG_init) : FnOk P w K mg base CX0 5 fG_init fdG_init ["self", "basis", "down", "up"] (spGi CGroups) := by
  have OKas_tuples : FnOk P w K mg base CX0 4 fas_tuples fdas_tuples ["value"] spAs2 := okas_tuples B  Dis_list Das_tuples0 Das_tuples1 Das_tuples
  refine DG_init.F.ok scG_init (fun vs H Q E h => ?_) (fun cdv A outer s H vs Q E hr h => ?_)
  · obtain ⟨z, dz, a1, a2, a3, u1, u2, u3, c1, c2, c3, rfl, _⟩ := h; rfl
  · have hu := hu_of hr
    refine ⟨_, (pss_cons (ps_fld (pv 0) (pe_call OKas_tuples (hr.mono (by decide)) rfl Das_tuples.m Das_tuples.F.kp Das_tuples.b .nil pass0 (pa_cons (pv 1) pa_nil)) rfl)
    (pss_cons (ps_fld (pv 0) (pe_call OKas_tuples (hr.mono (by decide)) rfl Das_tuples.m Das_tuples.F.kp Das_tuples.b .nil pass0 (pa_cons (pv 2) pa_nil)) rfl)
    (pss_one (ps_fld (pv 0) (pe_call OKas_tuples (hr.mono (by decide)) rfl Das_tuples.m Das_tuples.F.kp Das_tuples.b .nil pass0 (pa_cons (pv 3) pa_nil)) rfl)))), ?_⟩
    obtain ⟨z, dz, a1, a2, a3, u1, u2, u3, c1, c2, c3, rfl, hz, h1, h2, h3, p1, p2, p3, l1, l2, l3, q⟩ := h
    have nz1 : a1 ≠ z := fun e => by rcases h1 with h | h <;> (rw [e, hz] at h; cases h)
    have nz2 : a2 ≠ z := fun e => by rcases h2 with h | h <;> (rw [e, hz] at h; cases h)
    have nz3 : a3 ≠ z := fun e => by rcases h3 with h | h <;> (rw [e, hz] at h; cases h)
    refine ⟨_, rfl, a1, u1, c1, rfl, h1, p1, l1, fun t1 HA1 y1 s1 ht1 py1 => ?_⟩
    have hz1 := s1 _ _ hz
    have tz1 : t1 ≠ z := fun e => by rw [e, hz1] at ht1; cases ht1
    refine ⟨_, rfl, z, CGroups, dz, [], rfl, hz1, Es.clG, Es.gB, (by show 0 < 1000; decide), ?_⟩
    have kb1 : ∀ b o, b ≠ z → HA1 b = some o → upd HA1 z (.ins CGroups dz (putF "basis" (V.ref t1) [])) b = some o := fun b o n w => by rw [upd_ne n]; exact w
    have ze1 : upd HA1 z (.ins CGroups dz (putF "basis" (V.ref t1) [])) z = some (.ins CGroups dz [("basis", .ref t1)]) := upd_same
    replace ht1 := kb1 _ _ tz1 ht1
    replace py1 := paired_mono py1 fun _ _ w => w.but hz1 kb1
    have kk1 : ∀ b o, b ≠ z → H b = some o → upd HA1 z (.ins CGroups dz (putF "basis" (V.ref t1) [])) b = some o := fun b o n w => kb1 b o n (s1 _ _ w)
    generalize upd HA1 z (.ins CGroups dz (putF "basis" (V.ref t1) [])) = HB1 at kb1 ze1 ht1 py1 kk1 ⊢
    clear kb1
    replace h2 := h2.imp (kk1 _ _ nz2) (kk1 _ _ nz2)
    replace p2 := paired_mono p2 fun _ _ w => w.but hz kk1
    replace h3 := h3.imp (kk1 _ _ nz3) (kk1 _ _ nz3)
    replace p3 := paired_mono p3 fun _ _ w => w.but hz kk1
    replace hz := ze1
    refine ⟨_, rfl, a2, u2, c2, rfl, h2, p2, l2, fun t2 HA2 y2 s2 ht2 py2 => ?_⟩
    have hz2 := s2 _ _ hz
    have tz2 : t2 ≠ z := fun e => by rw [e, hz2] at ht2; cases ht2
    refine ⟨_, rfl, z, CGroups, dz, [("basis", .ref t1)], rfl, hz2, Es.clG, Es.gD, (by show 1 < 1000; decide), ?_⟩
    have kb2 : ∀ b o, b ≠ z → HA2 b = some o → upd HA2 z (.ins CGroups dz (putF "down" (V.ref t2) [("basis", .ref t1)])) b = some o := fun b o n w => by rw [upd_ne n]; exact w
    have ze2 : upd HA2 z (.ins CGroups dz (putF "down" (V.ref t2) [("basis", .ref t1)])) z = some (.ins CGroups dz [("basis", .ref t1), ("down", .ref t2)]) := upd_same
    replace ht2 := kb2 _ _ tz2 ht2
    replace py2 := paired_mono py2 fun _ _ w => w.but hz2 kb2
    have kk2 : ∀ b o, b ≠ z → HB1 b = some o → upd HA2 z (.ins CGroups dz (putF "down" (V.ref t2) [("basis", .ref t1)])) b = some o := fun b o n w => kb2 b o n (s2 _ _ w)
    generalize upd HA2 z (.ins CGroups dz (putF "down" (V.ref t2) [("basis", .ref t1)])) = HB2 at kb2 ze2 ht2 py2 kk2 ⊢
    clear kb2
    replace h3 := h3.imp (kk2 _ _ nz3) (kk2 _ _ nz3)
    replace p3 := paired_mono p3 fun _ _ w => w.but hz kk2
    have tz21 : t1 ≠ z := fun e => by rw [e, hz] at ht1; cases ht1
    replace ht1 := kk2 _ _ tz21 ht1
    replace py1 := paired_mono py1 fun _ _ w => w.but hz kk2
    replace hz := ze2
    refine ⟨_, rfl, a3, u3, c3, rfl, h3, p3, l3, fun t3 HA3 y3 s3 ht3 py3 => ?_⟩
    have hz3 := s3 _ _ hz
    have tz3 : t3 ≠ z := fun e => by rw [e, hz3] at ht3; cases ht3
    refine ⟨_, rfl, z, CGroups, dz, [("basis", .ref t1), ("down", .ref t2)], rfl, hz3, Es.clG, Es.gU, (by show 2 < 1000; decide), ?_⟩
    have kb3 : ∀ b o, b ≠ z → HA3 b = some o → upd HA3 z (.ins CGroups dz (putF "up" (V.ref t3) [("basis", .ref t1), ("down", .ref t2)])) b = some o := fun b o n w => by rw [upd_ne n]; exact w
    have ze3 : upd HA3 z (.ins CGroups dz (putF "up" (V.ref t3) [("basis", .ref t1), ("down", .ref t2)])) z = some (.ins CGroups dz [("basis", .ref t1), ("down", .ref t2), ("up", .ref t3)]) := upd_same
    replace ht3 := kb3 _ _ tz3 ht3
    replace py3 := paired_mono py3 fun _ _ w => w.but hz3 kb3
    have kk3 : ∀ b o, b ≠ z → HB2 b = some o → upd HA3 z (.ins CGroups dz (putF "up" (V.ref t3) [("basis", .ref t1), ("down", .ref t2)])) b = some o := fun b o n w => kb3 b o n (s3 _ _ w)
    generalize upd HA3 z (.ins CGroups dz (putF "up" (V.ref t3) [("basis", .ref t1), ("down", .ref t2)])) = HB3 at kb3 ze3 ht3 py3 kk3 ⊢
    clear kb3
    have tz31 : t1 ≠ z := fun e => by rw [e, hz] at ht1; cases ht1
    replace ht1 := kk3 _ _ tz31 ht1
    replace py1 := paired_mono py1 fun _ _ w => w.but hz kk3
    have tz32 : t2 ≠ z := fun e => by rw [e, hz] at ht2; cases ht2
    replace ht2 := kk3 _ _ tz32 ht2
    replace py2 := paired_mono py2 fun _ _ w => w.but hz kk3
    replace hz := ze3
    exact q t1 t2 t3 HB3 y1 y2 y3 (fun b o n w => kk3 b o n (kk2 b o n (kk1 b o n w))) hz ht1 ht2 ht3 py1 py2 py3
end
end AL
set_option Elab.async false
set_option maxRecDepth 100000
set_option exponentiation.threshold 70000
set_option maxHeartbeats 1000000
namespace AL
open PySem PySem.Spec PyProof.Rows L2 RZ
section
variable {P : Program} {w : World} {K : PySem.W.Frag} {mg : Str → Option Value} {base : Heap}

theorem unitR_at {n i t : Nat} (ht : t < n) : vl (unitR n i) t = if t = i then 1 else 0 := by
  unfold vl unitR
  rw [List.getD_eq_getElem?_getD, List.getElem?_map, List.getElem?_range ht]; rfl
/-- minors of rows with an identity beside them -/
theorem wide_mn {n B : Nat} {rows : List Rw} (hl : ∀ r ∈ rows, r.length = n) (hB : ∀ r ∈ rows, ∀ v ∈ r, v.natAbs ≤ B) (B1 : 1 ≤ B) (ne : rows ≠ []) : Mn rows.length ((rows.length * B) ^ n) (wideR rows) := fun G P hG lG => by
  have l1 : 1 ≤ rows.length := by cases rows with | nil => exact absurd rfl ne | cons a b => exact Nat.le_add_left _ _
  by_cases nd : G.Nodup
  · have at_ : ∀ g ∈ G, ∃ i, i < rows.length ∧ g = vl (rows.getD i [] ++ unitR rows.length i) ∧ rows.getD i [] ∈ rows := fun g hg => by
      obtain ⟨w, hw, rfl⟩ := List.mem_map.mp (hG g hg)
      obtain ⟨i, hi⟩ := List.mem_iff_getElem?.mp hw
      have il := (List.getElem?_eq_some_iff.mp hi).1
      rw [wideR_len] at il
      rw [wideR_at (List.getElem?_eq_getElem il)] at hi
      obtain rfl := Option.some.inj hi
      have e : rows.getD i [] = rows[i] := by rw [List.getD_eq_getElem?_getD, List.getElem?_eq_getElem il]; rfl
      exact ⟨i, il, by rw [e], by rw [e]; exact List.getElem_mem il⟩
    refine cols_few (n := n) (D := rows.length * B) (Nat.mul_le_mul l1 B1) (fun c => ?_) P
    split
    · rename_i hc
      refine Nat.le_trans (colS_le (B := B) fun g hg => ?_) (Nat.mul_le_mul_right _ lG)
      obtain ⟨i, il, rfl, m⟩ := at_ g hg
      have lr := hl _ m
      rw [app_vl, if_pos (by omega)]
      exact hB _ m _ (vl_mem (by omega))
    · rename_i hc
      have v : ∀ i, i < rows.length → rows.getD i [] ∈ rows → vl (rows.getD i [] ++ unitR rows.length i) c = if c - n < rows.length then (if c - n = i then 1 else 0) else 0 := fun i il m => by
        have lr := hl _ m
        rw [app_vl, if_neg (by omega), lr]
        split
        · rename_i h; exact unitR_at h
        · rename_i h; exact vl_out (by rw [unitR_len]; omega)
      refine colS_one nd (fun g hg => ?_) fun g hg g' hg' z z' => ?_
      · obtain ⟨i, il, rfl, m⟩ := at_ g hg
        rw [v i il m]
        split
        · split <;> decide
        · decide
      · obtain ⟨i, il, rfl, m⟩ := at_ g hg
        obtain ⟨j, jl, rfl, m'⟩ := at_ g' hg'
        rw [v i il m] at z
        rw [v j jl m'] at z'
        split at z
        · rename_i h
          rw [if_pos h] at z'
          have : i = j := by
            by_cases e : c - n = i
            · by_cases e' : c - n = j
              · omega
              · rw [if_neg e'] at z'; exact absurd rfl z'
            · rw [if_neg e] at z; exact absurd rfl z
          rw [this]
        · exact absurd rfl z
  · rw [det_dup nd]; exact Nat.zero_le _
theorem go_size : ∀ {N : Nat}, N ≤ 7 → N * (N * 2 ^ 80) ^ N ≤ 2 ^ 583
  | 0, _ => by decide +kernel
  | 1, _ => by decide +kernel
  | 2, _ => by decide +kernel
  | 3, _ => by decide +kernel
  | 4, _ => by decide +kernel
  | 5, _ => by decide +kernel
  | 6, _ => by decide +kernel
  | 7, _ => by decide +kernel
  | n + 8, h => by omega
/-- what groups_of makes -/
structure GrpsAt (CG : Addr) (H : Hp) (o : Addr) (N n : Nat) (rows F : List Rw) : Prop where
  hnf : Hnf (n + N) F
  gen : Gen F (wideR rows)
  ln : F.length = N
  bd : ∀ f ∈ F, BdR (2 ^ 80) f
  at_ : ∃ dz tb td tu G, H o = some (.ins CG dz [("basis", .ref tb), ("down", .ref td), ("up", .ref tu)]) ∧ RowsV H tb (kerF n F) ∧ RowsV H td (F.map (List.drop n)) ∧ RowsV H tu (G.map (List.drop N)) ∧ Hnf (N + N) G ∧ Gen G (wideR (F.map (List.drop n)))
/-- groups_of(A) -/
def spGo (CG : Addr) : Sp := fun vs H Q _ => ∃ (w : Addr) (n B : Nat) (rows : List Rw), vs = [.ref w] ∧ RowsT H w rows ∧ rows ≠ [] ∧ (∀ r ∈ rows, r.length = n) ∧ 0 < n ∧ n ≤ 5 ∧ rows.length ≤ 7 ∧ (∀ r ∈ rows, ∀ v ∈ r, v.natAbs ≤ B) ∧ 1 ≤ B ∧ B ≤ 2 ^ 80 ∧ rows.length * (rows.length * B) ^ n ≤ 2 ^ 80 ∧
  ∀ o H' F, Same H H' → GrpsAt CG H' o rows.length n rows F → Q (.ref o) H'

abbrev stgroups_of : Stmt := top 29
theorem scgroups_of : FnScope ["A", "down", "middle", "basis", "row", "image"] ["A"] (defScope stgroups_of) := ⟨rfl, rfl, rfl, by decide +kernel, rfl, by decide +kernel, by decide +kernel⟩
theorem okgroups_of (B : Blt mg) {CGroups : Addr} (Es : ErH K mg CGroups) {fis_list : Addr} {fdis_list : FuncData} (Dis_list : DefAt K mg "is_list" stis_list ["value"] fis_list fdis_list) {fas_tuples0 : Addr} {fdas_tuples0 : FuncData} (Das_tuples0 : DefAt K mg "as_tuples" stas_tuples0 ["value"] fas_tuples0 fdas_tuples0) {fas_tuples1 : Addr} {fdas_tuples1 : FuncData} (Das_tuples1 : DefAt K mg "as_tuples" stas_tuples1 ["value"] fas_tuples1 fdas_tuples1) {fas_tuples : Addr} {fdas_tuples : FuncData} (Das_tuples : DefAt K mg "as_tuples" stas_tuples ["value"] fas_tuples fdas_tuples) {fG_init : Addr} {fdG_init : FuncData} (DG_init : IniA K "__init__" "Groups.__init__" stG_init ["self", "basis", "down", "up"] CGroups fG_init fdG_init) {fis_whole : Addr} {fdis_whole : FuncData} (Dis_whole : DefAt K mg "is_whole" stis_whole ["value"] fis_whole fdis_whole) {fare_integers : Addr} {fdare_integers : FuncData} (Dare_integers : DefAt K mg "are_integers" stare_integers ["items"] fare_integers fdare_integers) {fis_matrix : Addr} {fdis_matrix : FuncData} (Dis_matrix : DefAt K mg "is_matrix" stis_matrix ["rows"] fis_matrix fdis_matrix) {fcheck_matrix : Addr} {fdcheck_matrix : FuncData} (Dcheck_matrix : DefDf [.str "rows"] K mg "check_matrix" stcheck_matrix ["rows", "what"] fcheck_matrix fdcheck_matrix) {fcombined : Addr} {fdcombined : FuncData} (Dcombined : DefAt K mg "combined" stcombined ["many", "one", "times", "other"] fcombined fdcombined) {fpivot_of : Addr} {fdpivot_of : FuncData} (Dpivot_of : DefAt K mg "pivot_of" stpivot_of ["row"] fpivot_of fdpivot_of) {freduced : Addr} {fdreduced : FuncData} (Dreduced : DefAt K mg "reduced" streduced ["rows"] freduced fdreduced) {fbezout : Addr} {fdbezout : FuncData} (Dbezout : DefAt K mg "bezout" stbezout ["one", "other"] fbezout fdbezout) {ftaken_in : Addr} {fdtaken_in : FuncData} (Dtaken_in : DefAt K mg "taken_in" sttaken_in ["basis", "row"] ftaken_in fdtaken_in) {fhermite_rows : Addr} {fdhermite_rows : FuncData} (Dhermite_rows : DefAt K mg "hermite_rows" sthermite_rows ["rows"] fhermite_rows fdhermite_rows) {fidentity : Addr} {fdidentity : FuncData} (Didentity : DefAt K mg "identity" stidentity ["many"] fidentity fdidentity) {fhermite_pair : Addr} {fdhermite_pair : FuncData} (Dhermite_pair : DefAt K mg "hermite_pair" sthermite_pair ["rows"] fhermite_pair fdhermite_pair) {fgroups_of : Addr} {fdgroups_of : FuncData} (Dgroups_of : DefAt K mg "groups_of" stgroups_of ["A"] fgroups_of fdgroups_of) : FnOk P w K mg base CX0 7 fgroups_of fdgroups_of ["A"] (spGo CGroups) := by
  have OKG_init : FnOk P w K mg base CX0 5 fG_init fdG_init ["self", "basis", "down", "up"] (spGi CGroups) := okG_init B Es Dis_list Das_tuples0 Das_tuples1 Das_tuples DG_init
  have OKcheck_matrix : FnOk P w K mg base CX0 3 fcheck_matrix fdcheck_matrix ["rows", "what"] spChM := okcheck_matrix B  Dis_whole Dare_integers Dis_list Dis_matrix Dcheck_matrix
  have OKhermite_pair : FnOk P w K mg base CX0 4 fhermite_pair fdhermite_pair ["rows"] spHp := okhermite_pair B  Dcombined Dpivot_of Dreduced Dbezout Dtaken_in Dhermite_rows Didentity Dhermite_pair
  refine Dgroups_of.F.ok scgroups_of (fun vs H Q E h => ?_) (fun cdv A outer s H vs Q E hr h => ?_)
  · obtain ⟨w, n, B0, rows, rfl, _⟩ := h; rfl
  · have hu := hu_of hr
    refine ⟨_, (pss_cons (ps_expr (pe_call OKcheck_matrix (hr.mono (by decide)) rfl Dcheck_matrix.m Dcheck_matrix.F.kp Dcheck_matrix.b .nil pass0 (pa_cons (pv 0) (pa_cons pe_str pa_nil))))
    (pss_cons (ps_asg (pe_call OKhermite_pair (hr.mono (by decide)) rfl Dhermite_pair.m Dhermite_pair.F.kp Dhermite_pair.b .nil pass0 (pa_cons (pv 0) pa_nil)) (pg_tup rfl (pgs_cons (pg_name (i := 1) scgroups_of.nd rfl (Or.inl rfl)) (pgs_cons (pg_name (i := 2) scgroups_of.nd rfl (Or.inl rfl)) pgs_nil))))
    (pss_cons (ps_setLc (i := 3) (own := [("row", 4), ("image", 5)]) (g := (gTup K 2 (gCons (gName 4) (gCons (gName 5) gNil)))) rfl scgroups_of.nd rfl rfl (sw_true rfl rfl rfl (by decide +kernel)) (pi_zip (by rfl) B.zip_ (pa_cons (pv 1) (pa_cons (pv 2) pa_nil))) (blkOk_by (own := [("row", 4), ("image", 5)]) (N := ["A", "down", "middle", "basis", "row", "image"]) (sc := defScope stgroups_of) (by decide +kernel)) (fun _ _ _ _ _ => (pg_tup rfl (pgs_cons (pg_name (i := 4) scgroups_of.nd rfl (Or.inl rfl)) (pgs_cons (pg_name (i := 5) scgroups_of.nd rfl (Or.inl rfl)) pgs_nil)))) (fun _ _ _ _ _ => (pts_one (pt_not (pt_val (pe_callB (cr_anyI rfl : CallR _ (.builtin "any") (rAnyI K)) (by rfl) B.any_ (by decide +kernel) (pa_cons (pv 5) pa_nil)))))) (fun _ _ _ _ _ => (pv 4)))
    (pss_one (ps_ret (pe_make DG_init.M OKG_init (hr.mono (by decide)) rfl Es.mG DG_init.b .nil pass0 (pa_cons (pv 3) (pa_cons (pv 1) (pa_cons (pe_ix ix_tup (pe_call OKhermite_pair (hr.mono (by decide)) rfl Dhermite_pair.m Dhermite_pair.F.kp Dhermite_pair.b .nil pass0 (pa_cons (pv 1) pa_nil)) pe_int (fun _ _ => rfl)) pa_nil))))))))), ?_⟩
    obtain ⟨w, n, B0, rows, rfl, hw, ne, hl, n0, n5, l7, hB, B1, B2, hC, q⟩ := h
    refine ⟨_, rfl, w, n, rows, _, rfl, hw.toA, ne, hl, n0, by omega, by omega, fun H1 s1 => ?_⟩
    have le80 : 2 ^ 80 ≤ 2 ^ 81 := Nat.pow_le_pow_right (by decide) (by decide)
    have sz1 : (80 + 1) * (3 * rows.length + 1) + 2 < 13000 := by omega
    have sz2 : (583 + 1) * (3 * rows.length + 1) + 2 < 13000 := by omega
    refine ⟨_, rfl, w, n, B0, 80, _, rows, rfl, hw.same s1, ne, hl, by omega, by omega, hB, B1, Nat.le_trans B2 le80, wide_mn hl hB B1 ne, hC, sz1, fun t l z H2 F s2 ht hL hZ hnf gF lF bF => ?_⟩
    have eF : F.length = rows.length := Nat.le_antisymm lF (wide_full (W := 0) hl rfl fun w hw => (gF.2 w hw).spn)
    have hL0 := hL
    have hd0 : ∀ r ∈ F.map (List.drop n), r.length = rows.length := fun r hr => by
      obtain ⟨f, hf, rfl⟩ := List.mem_map.mp hr
      rw [List.length_drop, hnf.len f hf]; omega
    have hdb : ∀ r ∈ F.map (List.drop n), ∀ v ∈ r, v.natAbs ≤ 2 ^ 80 := fun r hr v hv => by
      obtain ⟨f, hf, rfl⟩ := List.mem_map.mp hr
      exact bd_len (W := 0).mp (bF f hf) v (List.mem_of_mem_drop hv)
    obtain ⟨ls, L1, L2⟩ := hL
    obtain ⟨zs, Z1, Z2⟩ := hZ
    have lls := prd_len L2
    have lzs := prd_len Z2
    rw [List.length_map] at lls lzs
    refine ⟨t, _, rfl, SqT.of ht, rfl, _, _, rfl, _, _, rfl, rfl, ?_⟩
    refine ⟨_, rfl, _, rfl, l, z, _, _, rfl, SqL.of L1, SqL.of Z1, fun D hD => ?_⟩
    refine lc_it (walk_zip (K := K) (a := l) (b := z) (xs := ls.map V.ref) (ys := zs.map V.ref) (n := F.length) (by rw [List.length_map, List.length_map, lls, lzs, Nat.min_self])) (fun i H' => Same H2 H' ∧ ∃ bs : List Addr, H' D = some (.lst (bs.map V.ref)) ∧ bs.length ≤ i ∧ Paired (fun a r => a ≠ D ∧ H' a = some (.lst (r.map V.int))) bs (kerF n (F.take i))) ⟨AL.Same.new hD, [], upd_same, Nat.le_refl _, .nil⟩ (fun i H' _ hh => ⟨SqL.of (hh.1 _ _ L1), SqL.of (hh.1 _ _ Z1)⟩) ?_ ?_
    · rintro i x H3 H4 hi ⟨s3, bs, hd, lb, pr⟩ ⟨T0, u1, u2, rfl, hT0, rfl, e1, e2⟩
      obtain ⟨a, ha, rfl⟩ := map_ref e1
      obtain ⟨b, hb, rfl⟩ := map_ref e2
      obtain ⟨u, hu, hua⟩ := prd_get L2 ha
      obtain ⟨v, hv, hvb⟩ := prd_get Z2 hb
      obtain ⟨f, hf⟩ : ∃ f, F[i]? = some f := ⟨_, List.getElem?_eq_getElem hi⟩
      rw [List.getElem?_map, hf] at hu hv
      obtain rfl := Option.some.inj hu
      obtain rfl := Option.some.inj hv
      have nT := AL.Same.new (o := .tup [.ref a, .ref b]) hT0
      have sT := s3.trans nT
      have hd4 := nT _ _ hd
      have hua4 := sT _ _ hua
      have pr4 := paired_mono pr fun _ _ z => (⟨z.1, nT _ _ z.2⟩ : _ ≠ D ∧ upd H3 T0 (.tup [.ref a, .ref b]) _ = _)
      refine ⟨T0, _, rfl, SqT.of upd_same, rfl, _, _, rfl, _, _, rfl, rfl, rfl, ?_⟩
      refine ⟨_, rfl, b, _, rfl, SqL.of (sT _ _ hvb), _, rfl, ?_⟩
      have st : kerF n (F.take (i + 1)) = kerF n (F.take i) ++ (if kzB n f = true then [f.drop n] else []) := by
        unfold kerF
        rw [List.take_add_one, hf, List.filter_append, List.map_append]
        congr 1
        show List.map _ (List.filter _ [f]) = _
        rw [List.filter_cons]
        split <;> rfl
      have kz : (!((f.take n).any fun k => decide (k ≠ 0))) = kzB n f := rfl
      dsimp only
      rw [kz]
      cases hk : kzB n f with
      | true =>
        refine iteT ?_
        rw [hk, if_pos rfl] at st
        have aD : a ≠ D := fun z => by rw [z, hD] at hua; cases hua
        obtain ⟨r1, r2⟩ := rowsZ_snoc hd4 pr4 aD hua4
        refine ⟨_, rfl, _, hd4, ?_, AL.Same.updn sT hD, bs ++ [a], r1, by rw [List.length_append]; exact Nat.succ_le_succ lb, by rw [st]; exact r2⟩
        rw [List.length_map]; exact Nat.lt_of_le_of_lt (by omega : _ ≤ 1000) (by decide)
      | false =>
        refine iteF ?_
        rw [hk, if_neg (by decide), List.append_nil] at st
        exact ⟨sT, bs, hd4, by omega, by rw [st]; exact pr4⟩
    rintro H3 ⟨s3, bs, hd, lb, pr⟩
    rw [List.take_length] at pr
    
    have hK3 : Paired (fun a r => H3 a = some (.lst (r.map V.int))) bs (kerF n F) := paired_mono pr fun _ _ z => z.2
    have lbs := prd_len hK3
    have lker : (kerF n F).length ≤ F.length := by
      unfold kerF
      rw [List.length_map]; exact List.length_filter_le _ _
    have hker : ∀ r ∈ kerF n F, r.length ≤ 100 := fun r hr => by
      unfold kerF at hr
      obtain ⟨f, hf, rfl⟩ := List.mem_map.mp hr
      rw [List.length_drop, hnf.len f (List.mem_filter.mp hf).1]; omega
    have hL3 := hL0.same s3
    have ldn : (F.map (List.drop n)).length = rows.length := by rw [List.length_map, eF]
    have dne : F.map (List.drop n) ≠ [] := fun z => by
      rw [z] at ldn
      cases rows with
      | nil => exact ne rfl
      | cons a b => simp at ldn
    have l1 : 1 ≤ rows.length := by cases rows with | nil => exact absurd rfl ne | cons a b => exact Nat.le_add_left _ _
    refine ⟨_, rfl, _, rfl, _, rfl, ?_⟩
    have wm := wide_mn hd0 hdb (by decide) dne
    rw [ldn] at wm
    refine ⟨l, rows.length, 2 ^ 80, 583, (rows.length * 2 ^ 80) ^ rows.length, F.map (List.drop n), rfl, RowsZ.toT hL3, dne, hd0, by omega, by omega, hdb, by decide, Nat.pow_le_pow_right (by decide) (by decide), by rw [ldn]; exact wm, by rw [ldn]; exact go_size l7, by rw [ldn]; exact sz2, fun t2 l2 z2 H4 G s4 ht4 hU _ hG gG _ _ => ?_⟩
    rw [ldn] at hG
    refine ⟨t2, _, _, _, rfl, rfl, SqT.of ht4, rfl, ?_⟩
    obtain ⟨us, U1, U2⟩ := hU
    have lus := prd_len U2
    rw [List.length_map] at lus
    have lG : G.length ≤ rows.length + rows.length := by
      have nd : (G.map piv).Nodup := by
        rw [List.nodup_iff_pairwise_ne, List.pairwise_map]
        exact hG.asc.imp fun h => by omega
      have := nodup_sub (G := G.map piv) (F := List.range (rows.length + rows.length)) nd fun p hp => by
        obtain ⟨f, hf, rfl⟩ := List.mem_map.mp hp
        have := piv_lt_len (hG.ech.nz f hf)
        rw [hG.len f hf] at this
        exact List.mem_range.mpr this
      rwa [List.length_map, List.length_range] at this
    have hup : ∀ r ∈ G.map (List.drop rows.length), r.length ≤ 100 := fun r hr => by
      obtain ⟨f, hf, rfl⟩ := List.mem_map.mp hr
      rw [List.length_drop, hG.len f hf]; omega
    intro z dz h1 h2 h3
    have s0 : Same H4 (upd (upd H4 dz (.own z)) z (.ins CGroups dz [])) := fun b o e => by
      rw [upd_ne (ne_of_none e h1), upd_ne (ne_of_none e h2)]; exact e
    have s40 := s4.trans s0
    obtain ⟨ms, M1, M2⟩ := hL3
    have lms := prd_len M2
    refine ⟨z, dz, D, l, l2, _, _, _, _, _, _, rfl, upd_same, .inl (s40 _ _ hd), .inl (s40 _ _ M1), .inl (s0 _ _ U1), r1_rows (paired_mono hK3 fun _ _ w => s40 _ _ w) hker, r1_rows (paired_mono M2 fun _ _ w => s40 _ _ w) (fun r hr => by rw [hd0 r hr]; omega), r1_rows (paired_mono U2 fun _ _ w => s0 _ _ w) hup, by rw [List.length_map]; omega, by rw [List.length_map]; omega, by rw [List.length_map]; omega, fun t1 t2 t3 H8 y1 y2 y3 k8 hz8 ht1 ht2 ht3 p1 p2 p3 => ⟨rfl, ?_⟩⟩
    obtain ⟨as1, rfl, q1⟩ := res_rows p1
    obtain ⟨as2, rfl, q2⟩ := res_rows p2
    obtain ⟨as3, rfl, q3⟩ := res_rows p3
    refine q z H8 F (fun b o e => ?_) ⟨hnf, gF, eF, bF, dz, t1, t2, t3, G, hz8, ⟨as1, ht1, q1⟩, ⟨as2, ht2, q2⟩, ⟨as3, ht3, q3⟩, hG, gG⟩
    have e4 := s4 _ _ (s3 _ _ (s2 _ _ (s1 _ _ e)))
    exact k8 b o (ne_of_none e4 h1) (s0 _ _ e4)
end
end AL
set_option Elab.async false
set_option maxRecDepth 100000
set_option exponentiation.threshold 70000
set_option maxHeartbeats 1000000
namespace AL
open PySem PySem.Spec PyProof.Rows L2 RZ
section
variable {P : Program} {w : World} {K : PySem.W.Frag} {mg : Str → Option Value} {base : Heap}
theorem same_k7 {p : Addr} {H H' : Hp} (s : Same H H') : Keep p H H' := fun b o _ h => s _ _ h
theorem keep_upd7 {p : Addr} {H H' : Hp} {D : Addr} {o : HO} (k : Keep p H H') (h : H D = none) : Keep p H (upd H' D o) := fun b u nb e => by
  rw [upd_ne (ne_of_none e h)]; exact k b u nb e
theorem pen_ne7 {H : Hp} {p c : Addr} {m : Nat} {D : Addr} (P : Pen H p c m) (h : H D = none) : p ≠ D ∧ c ≠ D := by
  refine ⟨fun z => ?_, fun z => ?_⟩
  · obtain ⟨l, w⟩ := P.dict
    rw [z, h] at w; cases w
  · obtain ⟨ns, i, d, n, f, h1, h2, _⟩ := P.ex
    rw [z, h] at h2; cases h2
theorem pen_upd7 {H : Hp} {p c : Addr} {m : Nat} {D : Addr} {o : HO} (P : Pen H p c m) (h1 : p ≠ D) (h2 : c ≠ D) : Pen (upd H D o) p c m := P.keep (fun u e => by rw [upd_ne h1]; exact e) fun u e => by rw [upd_ne h2]; exact e

/-- _law_exponents(pen, many, base) -/
def spEx6 : Sp := fun vs H Q _ => ∃ (p c : Addr) (m k n : Nat), vs = [.ref p, .int (k : Int), .int (n : Int)] ∧ Pen H p c m ∧ m < 600000000 ∧ k ≤ 7 ∧ n ≤ 5 ∧
  ∀ w H' M, Pen H' p c (m + 20 * k) → Keep p H H' → RowsZ H' w M → M.length = k → (∀ r ∈ M, r.length = n ∧ ∀ v ∈ r, v.natAbs ≤ 20 * 2 ^ (k - 1)) → Q (.ref w) H'

abbrev st_law_exponents : Stmt := top 43
theorem sc_law_exponents : FnScope ["_law_pen_here", "_law_many", "_law_base", "_law_rows", "_law_k", "_law_way", "_law_row", "_law_j", "_law_one"] ["_law_pen_here", "_law_many", "_law_base"] (defScope st_law_exponents) := ⟨rfl, rfl, rfl, by decide +kernel, rfl, by decide +kernel, by decide +kernel⟩
theorem ok_law_exponents (B : Blt mg)  {f_law_draw : Addr} {fd_law_draw : FuncData} (D_law_draw : DefAt K mg "_law_draw" st_law_draw ["_law_pen_here", "_law_many"] f_law_draw fd_law_draw) {f_law_pick : Addr} {fd_law_pick : FuncData} (D_law_pick : DefAt K mg "_law_pick" st_law_pick ["_law_pen_here", "_law_some"] f_law_pick fd_law_pick) {f_law_exponents : Addr} {fd_law_exponents : FuncData} (D_law_exponents : DefAt K mg "_law_exponents" st_law_exponents ["_law_pen_here", "_law_many", "_law_base"] f_law_exponents fd_law_exponents) : FnOk P w K mg base CX0 3 f_law_exponents fd_law_exponents ["_law_pen_here", "_law_many", "_law_base"] spEx6 := by
  have OK_law_draw : FnOk P w K mg base CX0 1 f_law_draw fd_law_draw ["_law_pen_here", "_law_many"] spDraw := ok_law_draw B  D_law_draw
  have OK_law_pick : FnOk P w K mg base CX0 2 f_law_pick fd_law_pick ["_law_pen_here", "_law_some"] (spPick K) := ok_law_pick B  D_law_draw D_law_pick
  refine D_law_exponents.F.ok sc_law_exponents (fun vs H Q E h => ?_) (fun cdv A outer s H vs Q E hr h => ?_)
  · obtain ⟨p, c, m, k, n, rfl, _⟩ := h; rfl
  · have hu := hu_of hr
    refine ⟨_, (pss_cons (ps_set (i := 3) sc_law_exponents.nd rfl (Or.inl rfl) (pe_lst pa_nil))
    (pss_cons (ps_for PassesOwn.never rfl (pi_range1 rfl B.range_ (pa_cons (pv 1) pa_nil)) (pg_name (i := 4) sc_law_exponents.nd rfl (Or.inl rfl))
      (pss_cons (ps_set (i := 5) sc_law_exponents.nd rfl (Or.inl rfl) (pe_call OK_law_draw (hr.mono (by decide)) rfl D_law_draw.m D_law_draw.F.kp D_law_draw.b .nil pass0 (pa_cons (pv 0) (pa_cons pe_int pa_nil))))
    (pss_cons (ps_setLc (i := 6) (own := [("_law_j", 7)]) (g := gName 7) (tt := tYes) rfl sc_law_exponents.nd rfl rfl (sw_true rfl rfl rfl (by decide +kernel)) (pi_range1 rfl B.range_ (pa_cons (pv 2) pa_nil)) (blkOk_by (own := [("_law_j", 7)]) (N := ["_law_pen_here", "_law_many", "_law_base", "_law_rows", "_law_k", "_law_way", "_law_row", "_law_j", "_law_one"]) (sc := defScope st_law_exponents) (by decide +kernel)) (fun _ _ _ _ _ => (pg_name (i := 7) sc_law_exponents.nd rfl (Or.inl rfl))) (fun _ _ _ _ _ => pts_nil) (fun _ _ _ _ _ => (pe_op op_sub (pe_call OK_law_draw (hr.mono (by decide)) rfl D_law_draw.m D_law_draw.F.kp D_law_draw.b .nil pass0 (pa_cons (pv 0) (pa_cons pe_int pa_nil))) pe_int)))
    (pss_cons (ps_if (pt_cmpR op_eq (pv 5) pe_int (nomark _)) (pss_one (ps_set (i := 6) sc_law_exponents.nd rfl (Or.inl rfl) (pe_op op_rep (pe_lst (pa_cons pe_int pa_nil)) (pv 2)))) pss_nil)
    (pss_cons (ps_if (PW.pt (pw_and (pt_cmpR op_eq (pv 5) pe_int (nomark _)) (pw_and1 (pt_cmpR (op_neD hr.units : OpR _ _ (rNeD K)) (pv 3) (pe_lst pa_nil) (nomark _))))) (pss_one (ps_setLc (i := 6) (own := [("_law_one", 8)]) (g := gName 8) (tt := tYes) rfl sc_law_exponents.nd rfl rfl (sw_true rfl rfl rfl (by decide +kernel)) (pi_list (pe_call OK_law_pick (hr.mono (by decide)) rfl D_law_pick.m D_law_pick.F.kp D_law_pick.b .nil pass0 (pa_cons (pv 0) (pa_cons (pv 3) pa_nil)))) (blkOk_by (own := [("_law_one", 8)]) (N := ["_law_pen_here", "_law_many", "_law_base", "_law_rows", "_law_k", "_law_way", "_law_row", "_law_j", "_law_one"]) (sc := defScope st_law_exponents) (by decide +kernel)) (fun _ _ _ _ _ => (pg_name (i := 8) sc_law_exponents.nd rfl (Or.inl rfl))) (fun _ _ _ _ _ => pts_nil) (fun _ _ _ _ _ => (pe_op op_mulW (pe_call OK_law_pick (hr.mono (by decide)) rfl D_law_pick.m D_law_pick.F.kp D_law_pick.b .nil pass0 (pa_cons (pv 0) (pa_cons (pe_lst (pa_cons pe_int (pa_cons pe_int (pa_cons (pe_un un_neg pe_int) pa_nil)))) pa_nil))) (pv 8))))) pss_nil)
    (pss_cons (ps_if (pt_cmpR op_eq (pv 5) pe_int (nomark _)) (pss_one (ps_setLc (i := 6) (own := [("_law_one", 8)]) (g := gName 8) (tt := tYes) rfl sc_law_exponents.nd rfl rfl (sw_true rfl rfl rfl (by decide +kernel)) (pi_list (pv 6)) (blkOk_by (own := [("_law_one", 8)]) (N := ["_law_pen_here", "_law_many", "_law_base", "_law_rows", "_law_k", "_law_way", "_law_row", "_law_j", "_law_one"]) (sc := defScope st_law_exponents) (by decide +kernel)) (fun _ _ _ _ _ => (pg_name (i := 8) sc_law_exponents.nd rfl (Or.inl rfl))) (fun _ _ _ _ _ => pts_nil) (fun _ _ _ _ _ => (pe_op op_mulW pe_int (pv 8))))) pss_nil)
    (pss_cons (ps_if (pt_cmpR op_eq (pv 5) pe_int (nomark _)) (pss_one (ps_setLc (i := 6) (own := [("_law_j", 7)]) (g := gName 7) (tt := tYes) rfl sc_law_exponents.nd rfl rfl (sw_true rfl rfl rfl (by decide +kernel)) (pi_range1 rfl B.range_ (pa_cons (pv 2) pa_nil)) (blkOk_by (own := [("_law_j", 7)]) (N := ["_law_pen_here", "_law_many", "_law_base", "_law_rows", "_law_k", "_law_way", "_law_row", "_law_j", "_law_one"]) (sc := defScope st_law_exponents) (by decide +kernel)) (fun _ _ _ _ _ => (pg_name (i := 7) sc_law_exponents.nd rfl (Or.inl rfl))) (fun _ _ _ _ _ => pts_nil) (fun _ _ _ _ _ => (pe_op op_sub (pe_call OK_law_draw (hr.mono (by decide)) rfl D_law_draw.m D_law_draw.F.kp D_law_draw.b .nil pass0 (pa_cons (pv 0) (pa_cons pe_int pa_nil))) pe_int)))) pss_nil)
    (pss_one (ps_expr (pe_bm PySem.F.plainAttrs_list PySem.F.slot_list_append PySem.F.type_list_append mt_append (pv 3) (pa_cons (pv 6) pa_nil)))))))))))
    (pss_one (ps_ret (pv 3))))), ?_⟩
    obtain ⟨p, c, m, k, n, rfl, P, hm, hk, hn, q⟩ := h
    refine ⟨(by show 0 ≤ sizeLine; decide), fun rl hrl => ?_⟩
    obtain ⟨pR, cR⟩ := pen_ne7 P hrl
    have nR := AL.Same.new (o := .lst []) hrl
    refine ⟨_, rfl, _, rfl, by omega, by omega, for_range (lo := 0) (n := ((k : Int)).toNat) (fun i σ H' => ∃ (as : List Addr) (M : List Rw) (v4 v5 v6 : Option V), σ = [some (.ref p), some (.int (k : Int)), some (.int (n : Int)), some (.ref rl), v4, v5, v6, none, none] ∧ Pen H' p c (m + 20 * i) ∧ Keep p H H' ∧ H' rl = some (.lst (as.map V.ref)) ∧ Paired (fun a r => a ≠ rl ∧ H' a = some (.lst (r.map V.int))) as M ∧ M.length = i ∧ ∀ r ∈ M, r.length = n ∧ ∀ v ∈ r, v.natAbs ≤ 20 * 2 ^ (i - 1)) ⟨[], [], none, none, none, rfl, (P.same nR).mono (by omega), same_k7 nR, upd_same, .nil, rfl, (fun r hr => nomatch hr)⟩ ?_ ?_⟩
    · rintro i σ H1 hi ⟨as, M, v4, v5, v6, rfl, P1, k1, hrl1, pr1, lM, bM⟩
      rw [Int.toNat_natCast] at hi
      have las := prd_len pr1
      have lsz : (as.map V.ref).length < sizeLine := by rw [List.length_map, las, lM]; exact Nat.lt_of_le_of_lt (by omega : _ ≤ 1000) (by decide)
      have pw : 2 ^ (i - 1) ≤ 2 ^ i := Nat.pow_le_pow_right (by decide) (by omega)
      have p1 : 1 ≤ 2 ^ i := Nat.one_le_two_pow
      have pd : i = 0 ∨ 20 * 2 ^ i = 2 * (20 * 2 ^ (i - 1)) := by
        cases i with
        | zero => exact .inl rfl
        | succ i => exact .inr (by rw [show i + 1 - 1 = i from rfl, Nat.pow_succ]; omega)
      have p7 : 2 ^ i ≤ 2 ^ 7 := Nat.pow_le_pow_right (by decide) (by omega)
      refine ⟨_, rfl, p, c, _, (6 : Int), rfl, P1, by omega, by decide, by decide, fun way H2 y0 y1 P2 k2 => ?_⟩
      -- the drawn row
      refine ⟨_, rfl, _, rfl, by omega, by omega, fun D hD => ?_⟩
      obtain ⟨pD, cD⟩ := pen_ne7 P2 hD
      have nD := AL.Same.new (o := .lst []) hD
      refine lc_range (lo := 0) (n := ((n : Int)).toNat) (fun j H' => Pen H' p c (m + 20 * i + 1 + j) ∧ Keep p H2 H' ∧ ∃ qs : List Int, H' D = some (.lst (qs.map V.int)) ∧ qs.length = j ∧ ∀ x ∈ qs, x.natAbs ≤ 2) ⟨(P2.same nD).mono (by omega), same_k7 nD, [], upd_same, rfl, (fun r hr => nomatch hr)⟩ ?_ ?_
      · rintro j H6 hj ⟨P6, k6, qs, hq, lq, bq⟩
        rw [Int.toNat_natCast] at hj
        refine ⟨rfl, ?_⟩
        refine ⟨_, rfl, p, c, _, (5 : Int), rfl, P6, by omega, by decide, by decide, fun v H7 v0 v1 P7 k7 => ⟨_, _, rfl, rfl, ?_⟩⟩
        refine ⟨_, k7.at P6 hq (fun _ z => nomatch z), ?_, (pen_upd7 P7 pD cD).mono (by omega), keep_upd7 (k6.trans k7) hD, qs ++ [v - 2], ?_, ?_, ?_⟩
        · rw [List.length_map, lq]; exact Nat.lt_of_lt_of_le (by omega : j < 9) (by decide)
        · rw [upd_same, List.map_append]; rfl
        · rw [List.length_append, lq]; rfl
        · intro y hy
          rcases List.mem_append.mp hy with hy | hy
          · exact bq y hy
          · rw [List.mem_singleton.mp hy]; omega
      rintro H3 ⟨P3, k3, qs, hq, lq, bq⟩
      rw [Int.toNat_natCast] at P3 lq
      have k23 := k2.trans k3
      have hrl3 := k23.at P1 hrl1 (fun _ z => nomatch z)
      have pr3 : Paired (fun a r => a ≠ rl ∧ H3 a = some (.lst (r.map V.int))) as M := paired_mono pr1 fun _ _ z => ⟨z.1, k23.at P1 z.2 (fun _ z => nomatch z)⟩
      have k13 := k1.trans k23
      have Drl : D ≠ rl := fun z => by
        have := k2.at P1 hrl1 (fun _ z => nomatch z)
        rw [← z, hD] at this; cases this
      have fin : ∀ (ra : Addr) (H' : Hp) (r : Rw), Pen H' p c (m + 20 * (i + 1)) → Keep p H3 H' → ra ≠ rl → LI H' ra r → r.length = n → (∀ v ∈ r, v.natAbs ≤ 20 * 2 ^ i) → ∃ (as' : List Addr) (M' : List Rw) (v4 v5 v6 : Option V), [some (.ref p), some (.int (k : Int)), some (.int (n : Int)), some (.ref rl), some (.int (0 + (i : Int))), some (.int way), some (.ref ra), none, none] = [some (.ref p), some (.int (k : Int)), some (.int (n : Int)), some (.ref rl), v4, v5, v6, none, none] ∧ Pen (upd H' rl (.lst (as.map V.ref ++ [.ref ra]))) p c (m + 20 * (i + 1)) ∧ Keep p H (upd H' rl (.lst (as.map V.ref ++ [.ref ra]))) ∧ upd H' rl (.lst (as.map V.ref ++ [.ref ra])) rl = some (.lst (as'.map V.ref)) ∧ Paired (fun a r => a ≠ rl ∧ upd H' rl (.lst (as.map V.ref ++ [.ref ra])) a = some (.lst (r.map V.int))) as' M' ∧ M'.length = i + 1 ∧ ∀ r ∈ M', r.length = n ∧ ∀ v ∈ r, v.natAbs ≤ 20 * 2 ^ i := fun ra H' r P' k' ne hr lr br => by
        obtain ⟨r1, r2⟩ := rowsZ_snoc (k'.at P3 hrl3 (fun _ z => nomatch z)) (paired_mono pr3 fun _ _ z => ⟨z.1, k'.at P3 z.2 (fun _ z => nomatch z)⟩) ne hr
        refine ⟨as ++ [ra], M ++ [r], _, _, _, rfl, pen_upd7 P' pR cR, keep_upd7 (k13.trans k') hrl, r1, r2, by rw [List.length_append, lM]; rfl, fun x hx => ?_⟩
        rcases List.mem_append.mp hx with h | h
        · obtain ⟨l1, b1⟩ := bM x h
          exact ⟨l1, fun v hv => by have := b1 v hv; omega⟩
        · rw [List.mem_singleton.mp h]; exact ⟨lr, br⟩
      -- the ways
      refine ⟨_, rfl, rfl, _, rfl, ?_⟩
      by_cases w0 : way = 0
      · rw [decide_eq_true (by rw [w0])]
        refine iteT ?_
        refine ⟨(by show 1 ≤ sizeLine; decide), fun l3 hl3 => ?_⟩
        have nl := AL.Same.new (o := .lst [.int 0]) hl3
        refine ⟨_, rfl, l3, _, _, rfl, rfl, upd_same, by omega, by omega, ?_, fun zq hzq => ?_⟩
        · rw [Int.toNat_natCast]; show 1 * n ≤ _; exact Nat.le_of_lt (Nat.lt_of_le_of_lt (by omega : _ ≤ 1000) (by decide))
        have nz := AL.Same.new (o := .lst (List.replicate (n : Int).toNat [V.int 0]).flatten) hzq
        have hz1 : upd (upd H3 l3 (.lst [.int 0])) zq (.lst (List.replicate (n : Int).toNat [V.int 0]).flatten) zq = some (.lst ((List.replicate n (0 : Int)).map V.int)) := by
          rw [upd_same, Int.toNat_natCast, List.flatten_replicate_singleton, List.map_replicate]
        have sz := nl.trans nz
        generalize upd (upd H3 l3 (.lst [.int 0])) zq (.lst (List.replicate (n : Int).toNat [V.int 0]).flatten) = H4 at sz hz1 ⊢
        have hrl4 := sz _ _ hrl3
        have zrl : zq ≠ rl := fun z => by rw [z, nl _ _ hrl3] at hzq; cases hzq
        subst w0
        refine ⟨_, rfl, rfl, _, rfl, ?_⟩
        refine iteF ?_
        refine iteF ?_
        refine ⟨_, rfl, rfl, _, rfl, ?_⟩
        refine iteF ?_
        refine ⟨_, rfl, rfl, _, rfl, ?_⟩
        refine iteF ?_
        refine ⟨_, rfl, .inl ⟨rfl, _, SqL.of hrl4⟩, _, rfl, rl, _, _, rfl, rfl, hrl4, lsz, ?_⟩
        exact fin zq H4 _ ((P3.same sz).mono (by omega)) (same_k7 sz) zrl hz1 List.length_replicate (fun v hv => by rw [(List.mem_replicate.mp hv).2]; exact Nat.zero_le _)
      rw [decide_eq_false (fun z => w0 (by injection z))]
      refine iteF ?_
      refine ⟨_, rfl, rfl, _, rfl, ?_⟩
      by_cases w1 : way = 1
      · rw [decide_eq_true (by rw [w1])]
        refine iteT ?_
        refine ⟨_, rfl, (by show 0 ≤ sizeLine; decide), fun l hl => ?_⟩
        have nl := AL.Same.new (o := .lst []) hl
        refine ⟨.list (M.map dL), .list (([] : List Rw).map dL), .lst (SqL.of (nl _ _ hrl3)) (dp_rowsL (paired_mono pr3 fun _ _ z => nl _ _ z.2)), .lst (SqL.of upd_same) .nil, shaped_rows _, shaped_rows _, _, rfl, ?_⟩
        rw [eqvL_dL]
        replace hrl3 := nl _ _ hrl3
        have P4 := P3.same nl
        have hq4 := nl _ _ hq
        have k34 : Keep p H3 (upd H3 l (.lst [])) := same_k7 nl
        have pr4 := paired_mono pr3 fun _ _ z => (⟨z.1, nl _ _ z.2⟩ : _ ≠ rl ∧ upd H3 l (.lst []) _ = _)
        generalize upd H3 l (.lst []) = H4 at hrl3 P4 hq4 k34 pr4 ⊢
        subst w1
        by_cases m0 : M = []
        · rw [show (!decide (M = [])) = false by rw [decide_eq_true m0]; rfl]
          refine iteF ?_
          refine ⟨_, rfl, rfl, _, rfl, ?_⟩
          refine iteF ?_
          refine ⟨_, rfl, rfl, _, rfl, ?_⟩
          refine iteF ?_
          refine ⟨_, rfl, .inl ⟨rfl, _, SqL.of hrl3⟩, _, rfl, rl, _, _, rfl, rfl, hrl3, lsz, ?_⟩
          exact fin D H4 qs (P4.mono (by omega)) k34 Drl hq4 lq (fun v hv => by have := bq v hv; omega)
        rw [show (!decide (M = [])) = true by rw [decide_eq_false m0]; rfl]
        refine iteT ?_
        have ipos : 0 < i := by rw [← lM]; exact List.length_pos_iff.mpr m0
        have as0 : 0 < as.length := by
          rw [las]
          cases M with
          | nil => exact absurd rfl m0
          | cons _ _ => exact Nat.succ_pos _
        refine ⟨_, rfl, _, rfl, p, c, rl, _, _, rfl, P4, by omega, SqL.of hrl3, by rw [List.length_map]; exact as0, by rw [List.length_map, las]; omega, fun jx x H5 hx P5 k5 => ?_⟩
        obtain ⟨a, ha, rfl⟩ := map_ref hx
        obtain ⟨r, hr, hra⟩ := prd_get pr4 ha
        obtain ⟨lr, br⟩ := bM r (List.mem_of_getElem? hr)
        have hra5 := k5.at P4 hra.2 (fun _ z => nomatch z)
        have hrl5 := k5.at P4 hrl3 (fun _ z => nomatch z)
        refine ⟨a, rfl, ⟨_, SqL.of hra5⟩, fun D2 hD2 => ?_⟩
        obtain ⟨pD2, cD2⟩ := pen_ne7 P5 hD2
        have nD2 := AL.Same.new (o := .lst []) hD2
        have D2rl : D2 ≠ rl := fun z => by rw [z, hrl5] at hD2; cases hD2
        refine lc_list (K := K) (a := a) (xs := r.map V.int) (fun j H' => Pen H' p c (m + 20 * i + 8 + j) ∧ Keep p H5 H' ∧ ∃ qs : List Int, H' D2 = some (.lst (qs.map V.int)) ∧ qs.length = j ∧ ∀ x ∈ qs, x.natAbs ≤ 20 * 2 ^ i) ⟨(P5.same nD2).mono (by omega), same_k7 nD2, [], upd_same, rfl, (fun r hr => nomatch hr)⟩ (fun j H' _ hh => SqL.of (hh.2.1.at P5 hra5 (fun _ z => nomatch z))) ?_ ?_
        · rintro j x H6 hx ⟨P6, k6, ts, hq6, lt6, bt⟩
          obtain ⟨y, hy, rfl⟩ := map_int hx
          have jl := (List.getElem?_eq_some_iff.mp hy).1
          have yb := br y (List.mem_of_getElem? hy)
          refine ⟨rfl, ?_⟩
          refine ⟨_, rfl, _, rfl, (by show 3 ≤ sizeLine; decide), fun lp hlp => ?_⟩
          have nlp := AL.Same.new (o := .lst [.int 1, .int 2, .int (-1)]) hlp
          refine ⟨p, c, lp, _, _, rfl, P6.same nlp, by omega, SqL.of upd_same, (by show 0 < 3; decide), (by show 3 < 1000000000; decide), fun jx x H7 hx P7 k7 => ?_⟩
          obtain ⟨z, rfl, z2⟩ : ∃ s : Int, x = V.int s ∧ s.natAbs ≤ 2 := by
            refine pick_of (P := fun x => ∃ s : Int, x = V.int s ∧ s.natAbs ≤ 2) (fun y hy => ?_) hx
            simp only [List.mem_cons, List.not_mem_nil, or_false] at hy
            rcases hy with rfl | rfl | rfl <;> exact ⟨_, rfl, by decide⟩
          have hq7 := k7.at (P6.same nlp) (nlp _ _ hq6) (fun _ z => nomatch z)
          have mb : (z * y).natAbs ≤ 2 * (20 * 2 ^ (i - 1)) := by rw [Int.natAbs_mul]; exact Nat.mul_le_mul z2 yb
          refine ⟨_, rfl, _, _, rfl, rfl, wide_mul (a := 60) (b := 60) (by omega) (by omega) (by decide) (by decide) (by decide), ?_⟩
          refine ⟨_, hq7, ?_, (pen_upd7 P7 pD2 cD2).mono (by omega), keep_upd7 (k6.trans ((same_k7 nlp).trans k7)) hD2, ts ++ [z * y], ?_, ?_, ?_⟩
          · rw [List.length_map, lt6]; exact Nat.lt_of_lt_of_le (by omega : j < 9) (by decide)
          · rw [upd_same, List.map_append]; rfl
          · rw [List.length_append, lt6]; rfl
          · intro u hu
            rcases List.mem_append.mp hu with hu | hu
            · exact bt u hu
            · rw [List.mem_singleton.mp hu]; omega
        rintro H6 ⟨P6, k6, ts, hq6, lt6, bt⟩
        rw [List.length_map, lr] at P6 lt6
        have hrl6 := k6.at P5 hrl5 (fun _ z => nomatch z)
        refine ⟨_, rfl, rfl, _, rfl, ?_⟩
        refine iteF ?_
        refine ⟨_, rfl, rfl, _, rfl, ?_⟩
        refine iteF ?_
        refine ⟨_, rfl, .inl ⟨rfl, _, SqL.of hrl6⟩, _, rfl, rl, _, _, rfl, rfl, hrl6, lsz, ?_⟩
        exact fin D2 H6 ts (P6.mono (by omega)) (k34.trans (k5.trans k6)) D2rl hq6 lt6 bt
      rw [decide_eq_false (fun z => w1 (by injection z))]
      refine iteF ?_
      refine iteF ?_
      refine ⟨_, rfl, rfl, _, rfl, ?_⟩
      by_cases w2 : way = 2
      · rw [decide_eq_true (by rw [w2])]
        refine iteT ?_
        refine ⟨_, rfl, D, rfl, ⟨_, SqL.of hq⟩, fun D2 hD2 => ?_⟩
        have D2rl : D2 ≠ rl := fun z => by rw [z, hrl3] at hD2; cases hD2
        refine lc_list (K := K) (a := D) (xs := qs.map V.int) (fun j H' => Same H3 H' ∧ H' D2 = some (.lst (((qs.map fun v => 2 * v).take j).map V.int))) ⟨AL.Same.new hD2, upd_same⟩ (fun j H' _ hh => SqL.of (hh.1 _ _ hq)) ?_ ?_
        · rintro j x H6 hx ⟨s6, hq6⟩
          obtain ⟨y, hy, rfl⟩ := map_int hx
          have jl := (List.getElem?_eq_some_iff.mp hy).1
          have yb := bq y (List.mem_of_getElem? hy)
          refine ⟨rfl, ?_⟩
          refine ⟨_, rfl, _, _, rfl, rfl, wide_mul (a := 60) (b := 60) (by decide) (by omega) (by decide) (by decide) (by decide), ?_⟩
          refine ⟨_, hq6, ?_, AL.Same.updn s6 hD2, ?_⟩
          · rw [List.length_map, List.length_take]; exact Nat.lt_of_le_of_lt (by omega : _ ≤ 1000) (by decide)
          · rw [upd_same, List.take_add_one, List.getElem?_map, hy, List.map_append]; rfl
        rintro H6 ⟨s6, hq6⟩
        rw [List.take_of_length_le (by rw [List.length_map, List.length_map]; exact Nat.le_refl _)] at hq6
        have hrl6 := s6 _ _ hrl3
        subst w2
        refine ⟨_, rfl, rfl, _, rfl, ?_⟩
        refine iteF ?_
        refine ⟨_, rfl, .inl ⟨rfl, _, SqL.of hrl6⟩, _, rfl, rl, _, _, rfl, rfl, hrl6, lsz, ?_⟩
        exact fin D2 H6 _ ((P3.same s6).mono (by omega)) (same_k7 s6) D2rl hq6 (by rw [List.length_map]; exact lq) (fun v hv => by
          obtain ⟨y, hy, rfl⟩ := List.mem_map.mp hv
          have := bq y hy
          omega)
      rw [decide_eq_false (fun z => w2 (by injection z))]
      refine iteF ?_
      refine ⟨_, rfl, rfl, _, rfl, ?_⟩
      by_cases w3 : way = 3
      · rw [decide_eq_true (by rw [w3])]
        refine iteT ?_
        refine ⟨_, rfl, _, rfl, by omega, by omega, fun D2 hD2 => ?_⟩
        obtain ⟨pD2, cD2⟩ := pen_ne7 P3 hD2
        have nD2 := AL.Same.new (o := .lst []) hD2
        have D2rl : D2 ≠ rl := fun z => by rw [z, hrl3] at hD2; cases hD2
        refine lc_range (lo := 0) (n := ((n : Int)).toNat) (fun j H' => Pen H' p c (m + 20 * i + 8 + j) ∧ Keep p H3 H' ∧ ∃ qs : List Int, H' D2 = some (.lst (qs.map V.int)) ∧ qs.length = j ∧ ∀ x ∈ qs, x.natAbs ≤ 20) ⟨(P3.same nD2).mono (by omega), same_k7 nD2, [], upd_same, rfl, (fun r hr => nomatch hr)⟩ ?_ ?_
        · rintro j H6 hj ⟨P6, k6, ts, hq6, lt6, bt⟩
          rw [Int.toNat_natCast] at hj
          refine ⟨rfl, ?_⟩
          refine ⟨_, rfl, p, c, _, (41 : Int), rfl, P6, by omega, by decide, by decide, fun v H7 v0 v1 P7 k7 => ⟨_, _, rfl, rfl, ?_⟩⟩
          refine ⟨_, k7.at P6 hq6 (fun _ z => nomatch z), ?_, (pen_upd7 P7 pD2 cD2).mono (by omega), keep_upd7 (k6.trans k7) hD2, ts ++ [v - 20], ?_, ?_, ?_⟩
          · rw [List.length_map, lt6]; exact Nat.lt_of_lt_of_le (by omega : j < 9) (by decide)
          · rw [upd_same, List.map_append]; rfl
          · rw [List.length_append, lt6]; rfl
          · intro y hy
            rcases List.mem_append.mp hy with hy | hy
            · exact bt y hy
            · rw [List.mem_singleton.mp hy]; omega
        rintro H6 ⟨P6, k6, ts, hq6, lt6, bt⟩
        rw [Int.toNat_natCast] at P6 lt6
        have hrl6 := k6.at P3 hrl3 (fun _ z => nomatch z)
        refine ⟨_, rfl, .inl ⟨rfl, _, SqL.of hrl6⟩, _, rfl, rl, _, _, rfl, rfl, hrl6, lsz, ?_⟩
        exact fin D2 H6 ts (P6.mono (by omega)) k6 D2rl hq6 lt6 (fun v hv => by have := bt v hv; omega)
      rw [decide_eq_false (fun z => w3 (by injection z))]
      refine iteF ?_
      refine ⟨_, rfl, .inl ⟨rfl, _, SqL.of hrl3⟩, _, rfl, rl, _, _, rfl, rfl, hrl3, lsz, ?_⟩
      exact fin D H3 qs (P3.mono (by omega)) (fun _ _ _ h => h) Drl hq lq (fun v hv => by have := bq v hv; omega)
    rintro σ H1 ⟨as, M, v4, v5, v6, rfl, P1, k1, hrl1, pr1, lM, bM⟩
    rw [Int.toNat_natCast] at P1 lM bM
    exact ⟨_, rfl, q rl H1 M P1 k1 ⟨as, hrl1, paired_mono pr1 fun _ _ z => z.2⟩ lM bM⟩
end
end AL
set_option Elab.async false
set_option maxRecDepth 100000
set_option exponentiation.threshold 70000
set_option maxHeartbeats 1000000
namespace AL
open PySem PySem.Spec PyProof.Rows L2 RZ
section
variable {P : Program} {w : World} {K : PySem.W.Frag} {mg : Str → Option Value} {base : Heap}
theorem getD_in {U : List Rw} {j : Nat} (h : j < U.length) : U.getD j [] ∈ U := by
  rw [List.getD_eq_getElem?_getD, List.getElem?_eq_getElem h]; exact List.getElem_mem h
theorem set_keep {U : List Rw} {j k : Nat} {x : Rw} (hk : k < U.length) (ne : j ≠ k) : U.getD k [] ∈ U.set j x := by
  refine List.mem_of_getElem? (i := k) ?_
  rw [List.getElem?_set_ne ne, List.getD_eq_getElem?_getD, List.getElem?_eq_getElem hk]; rfl
theorem gen_set {U : List Rw} {j : Nat} {x : Rw} (hj : j < U.length) (h1 : Lat (inR U) (vl x)) (h2 : Lat (inR (U.set j x)) (vl (U.getD j []))) : Gen (U.set j x) U := by
  refine ⟨fun r hr => ?_, fun r hr => ?_⟩
  · rcases List.mem_or_eq_of_mem_set hr with h | rfl
    · exact .mem ⟨r, h, rfl⟩
    · exact h1
  · obtain ⟨i, hi⟩ := List.mem_iff_getElem?.mp hr
    by_cases e : j = i
    · subst e
      have : U.getD j [] = r := by rw [List.getD_eq_getElem?_getD, hi]; rfl
      rw [this] at h2; exact h2
    · exact .mem ⟨r, List.mem_of_getElem? (i := i) (by rw [List.getElem?_set_ne e]; exact hi), rfl⟩
/-- rows that are a basis of all whole rows -/
structure Uni (n e : Nat) (U : List Rw) : Prop where
  len : U.length = n
  rl : ∀ r ∈ U, r.length = n
  bd : ∀ r ∈ U, ∀ v ∈ r, v.natAbs ≤ e
  gn : Gen U (idM n)
  du : ∃ D : Nat → Nat → Int, ∀ i, i < n → ∀ j, j < n → sm n (fun t => D i t * vl (U.getD j []) t) = if i = j then 1 else 0
theorem idM_getD {n j : Nat} (hj : j < n) : (idM n).getD j [] = unitR n j := by
  unfold idM
  rw [List.getD_eq_getElem?_getD, List.getElem?_map, List.getElem?_range hj]; rfl
theorem set_getD {U : List Rw} {j i : Nat} {x : Rw} (hj : j < U.length) : (U.set j x).getD i [] = if i = j then x else U.getD i [] := by
  rw [List.getD_eq_getElem?_getD, List.getD_eq_getElem?_getD, List.getElem?_set]
  by_cases e : j = i
  · subst e; rw [if_pos rfl, if_pos hj, if_pos rfl]; rfl
  · rw [if_neg e, if_neg (fun z => e z.symm)]
theorem uni_id (n : Nat) : Uni n 1 (idM n) := by
  refine ⟨idM_len n, fun r hr => ?_, fun r hr v hv => ?_, Gen.refl _, fun i t => if t = i then 1 else 0, fun i hi j hj => ?_⟩
  · unfold idM at hr
    obtain ⟨k, _, rfl⟩ := List.mem_map.mp hr
    exact unitR_len n k
  · unfold idM at hr
    obtain ⟨k, _, rfl⟩ := List.mem_map.mp hr
    unfold unitR at hv
    obtain ⟨t, _, rfl⟩ := List.mem_map.mp hv
    split <;> decide
  · rw [sm_one (k := i) hi fun t ht ne => by dsimp only; rw [if_neg ne]; grind]
    dsimp only
    rw [if_pos rfl, idM_getD hj, unitR_vl hi]
    grind
theorem getD_mem {U : List Rw} {j : Nat} (h : j < U.length) : U.getD j [] ∈ U := by
  rw [List.getD_eq_getElem?_getD, List.getElem?_eq_getElem h]; exact List.getElem_mem h
theorem uni_neg {n e : Nat} {U : List Rw} (u : Uni n e U) {j : Nat} (hj : j < n) : Uni n e (U.set j ((U.getD j []).map fun v => -v)) := by
  have jl : j < U.length := by rw [u.len]; exact hj
  have m := getD_mem jl
  obtain ⟨D, hD⟩ := u.du
  refine ⟨by rw [List.length_set, u.len], fun r hr => ?_, fun r hr v hv => ?_, (gen_set (by rw [u.len]; exact hj) ((Lat.lin (-1) 0 (.mem ⟨U.getD j [], getD_mem (by rw [u.len]; exact hj), rfl⟩) .zero).of fun t => by rw [vl_map (f := fun v => -v) rfl]; omega) ((Lat.lin (-1) 0 (.mem ⟨_, List.mem_set (by rw [u.len]; exact hj) _, rfl⟩) .zero).of fun t => by rw [vl_map (f := fun v => -v) rfl]; omega)).trans u.gn, fun i t => if i = j then -(D i t) else D i t, fun i hi k hk => ?_⟩
  · rcases List.mem_or_eq_of_mem_set hr with h | rfl
    · exact u.rl r h
    · rw [List.length_map]; exact u.rl _ m
  · rcases List.mem_or_eq_of_mem_set hr with h | rfl
    · exact u.bd r h v hv
    · obtain ⟨x, hx, rfl⟩ := List.mem_map.mp hv
      rw [Int.natAbs_neg]; exact u.bd _ m x hx
  · have h0 := hD i hi k hk
    rw [set_getD jl]
    by_cases c1 : i = j
    · by_cases c2 : k = j
      · rw [sm_congr (g := fun t => D i t * vl (U.getD k []) t) fun t _ => by dsimp only; rw [if_pos c1, if_pos c2, vl_map (by rfl), c2]; grind]
        exact h0
      · rw [sm_congr (g := fun t => (-1) * (D i t * vl (U.getD k []) t) + 0 * (D i t * vl (U.getD k []) t)) fun t _ => by dsimp only; rw [if_pos c1, if_neg c2]; grind, sm_lin, h0, if_neg (by omega)]
        rfl
    · by_cases c2 : k = j
      · rw [sm_congr (g := fun t => (-1) * (D i t * vl (U.getD k []) t) + 0 * (D i t * vl (U.getD k []) t)) fun t _ => by dsimp only; rw [if_neg c1, if_pos c2, vl_map (by rfl), c2]; grind, sm_lin, h0, if_neg (by omega)]
        rfl
      · rw [sm_congr (g := fun t => D i t * vl (U.getD k []) t) fun t _ => by dsimp only; rw [if_neg c1, if_neg c2]]
        exact h0
def addR (x : Rw) (b : Int) (y : Rw) : Rw := List.zipWith (fun u v => u + b * v) x y
theorem addR_len {x y : Rw} {b : Int} (h : x.length = y.length) : (addR x b y).length = x.length := by unfold addR; rw [List.length_zipWith, h, Nat.min_self]
theorem addR_vl {x y : Rw} {b : Int} (h : x.length = y.length) (j : Nat) : vl (addR x b y) j = vl x j + b * vl y j := by
  have e : addR x b y = comb 1 x b y := by unfold addR comb; congr 1; funext u v; grind
  rw [e, comb_vl h]; grind
theorem addR_bd {x y : Rw} {b : Int} {e f : Nat} (h : x.length = y.length) (hx : ∀ v ∈ x, v.natAbs ≤ e) (hy : ∀ v ∈ y, v.natAbs ≤ f) (hb : b.natAbs ≤ 3) : ∀ v ∈ addR x b y, v.natAbs ≤ e + 3 * f := fun v hv => by
  obtain ⟨j, hj⟩ := List.mem_iff_getElem?.mp hv
  have jl := (List.getElem?_eq_some_iff.mp hj).1
  rw [addR_len h] at jl
  have e1 := addR_vl (b := b) h j
  rw [vl_get hj] at e1
  have h1 := hx _ (vl_mem jl)
  have h2 := hy _ (vl_mem (j := j) (by omega))
  rw [e1]
  have h3 : (b * vl y j).natAbs ≤ 3 * f := by rw [Int.natAbs_mul]; exact Nat.mul_le_mul hb h2
  omega
theorem uni_add {n e : Nat} {U : List Rw} (u : Uni n e U) {j k : Nat} (hj : j < n) (hk : k < n) (ne : j ≠ k) {b : Int} (hb : b.natAbs ≤ 3) : Uni n (4 * e) (U.set j (addR (U.getD j []) b (U.getD k []))) := by
  have jl : j < U.length := by rw [u.len]; exact hj
  have kl : k < U.length := by rw [u.len]; exact hk
  have mj := getD_mem jl
  have mk := getD_mem kl
  have le : (U.getD j []).length = (U.getD k []).length := by rw [u.rl _ mj, u.rl _ mk]
  obtain ⟨D, hD⟩ := u.du
  refine ⟨by rw [List.length_set, u.len], fun r hr => ?_, fun r hr v hv => ?_, (gen_set (by rw [u.len]; exact hj) ((Lat.lin 1 b (.mem ⟨U.getD j [], getD_mem (by rw [u.len]; exact hj), rfl⟩) (.mem ⟨U.getD k [], getD_mem (by rw [u.len]; exact hk), rfl⟩)).of fun t => by rw [addR_vl (by rw [u.rl _ (getD_mem (by rw [u.len]; exact hj)), u.rl _ (getD_mem (by rw [u.len]; exact hk))])]; omega) ((Lat.lin 1 (-b) (.mem ⟨_, List.mem_set (by rw [u.len]; exact hj) _, rfl⟩) (.mem ⟨U.getD k [], set_keep (by rw [u.len]; exact hk) ne, rfl⟩)).of fun t => by rw [addR_vl (by rw [u.rl _ (getD_mem (by rw [u.len]; exact hj)), u.rl _ (getD_mem (by rw [u.len]; exact hk))])]; rw [Int.neg_mul]; omega)).trans u.gn, fun i t => if i = k then D k t + (-b) * D j t else D i t, fun i hi l hl => ?_⟩
  · rcases List.mem_or_eq_of_mem_set hr with h | rfl
    · exact u.rl r h
    · rw [addR_len le]; exact u.rl _ mj
  · rcases List.mem_or_eq_of_mem_set hr with h | rfl
    · have := u.bd r h v hv; omega
    · have := addR_bd le (u.bd _ mj) (u.bd _ mk) hb v hv
      omega
  · rw [set_getD jl]
    have hij := hD i hi j hj
    have hik := hD i hi k hk
    have hil := hD i hi l hl
    have hjl := hD j hj l hl
    have hjk := hD j hj k hk
    have hjj := hD j hj j hj
    rw [if_pos rfl] at hjj
    rw [if_neg ne] at hjk
    by_cases c2 : l = j
    · by_cases c1 : i = k
      · have e1 : sm n (fun t => (if i = k then D k t + (-b) * D j t else D i t) * vl (if l = j then addR (U.getD j []) b (U.getD k []) else U.getD l []) t) = sm n (fun t => 1 * (1 * (D i t * vl (U.getD j []) t) + b * (D i t * vl (U.getD k []) t)) + (-b) * (1 * (D j t * vl (U.getD j []) t) + b * (D j t * vl (U.getD k []) t))) := sm_congr fun t _ => by
          rw [if_pos c1, if_pos c2, addR_vl le, c1]; grind
        rw [e1, sm_lin, sm_lin, sm_lin, hij, hik, hjj, hjk, if_pos c1]
        rw [if_neg (by omega), if_neg (by omega)]; grind
      · have e1 : sm n (fun t => (if i = k then D k t + (-b) * D j t else D i t) * vl (if l = j then addR (U.getD j []) b (U.getD k []) else U.getD l []) t) = sm n (fun t => 1 * (D i t * vl (U.getD j []) t) + b * (D i t * vl (U.getD k []) t)) := sm_congr fun t _ => by
          rw [if_neg c1, if_pos c2, addR_vl le]; grind
        rw [e1, sm_lin, hij, hik, if_neg c1, c2]; grind
    · by_cases c1 : i = k
      · have e1 : sm n (fun t => (if i = k then D k t + (-b) * D j t else D i t) * vl (if l = j then addR (U.getD j []) b (U.getD k []) else U.getD l []) t) = sm n (fun t => 1 * (D i t * vl (U.getD l []) t) + (-b) * (D j t * vl (U.getD l []) t)) := sm_congr fun t _ => by
          rw [if_pos c1, if_neg c2, c1]; grind
        rw [e1, sm_lin, hil, hjl, if_neg (show ¬ j = l from fun z => c2 z.symm)]; grind
      · have e1 : sm n (fun t => (if i = k then D k t + (-b) * D j t else D i t) * vl (if l = j then addR (U.getD j []) b (U.getD k []) else U.getD l []) t) = sm n (fun t => D i t * vl (U.getD l []) t) := sm_congr fun t _ => by
          rw [if_neg c1, if_neg c2]
        rw [e1, hil]
/-- _law_unimodular(pen, many, steps) -/
def spUm : Sp := fun vs H Q _ => ∃ (p c : Addr) (m n s : Nat), vs = [.ref p, .int (n : Int), .int (s : Int)] ∧ Pen H p c m ∧ m < 700000000 ∧ 1 ≤ n ∧ n ≤ 20 ∧ s ≤ 10 ∧
  ∀ w H' U, Pen H' p c (m + 3 * s) → Keep p H H' → RowsZ H' w U → Uni n (4 ^ s) U → Q (.ref w) H'

abbrev st_law_unimodular : Stmt := top 42
theorem sc_law_unimodular : FnScope ["_law_pen_here", "_law_many", "_law_steps", "_law_rows", "_law_lap", "_law_j", "_law_k", "_law_one", "_law_by", "_law_two"] ["_law_pen_here", "_law_many", "_law_steps"] (defScope st_law_unimodular) := ⟨rfl, rfl, rfl, by decide +kernel, rfl, by decide +kernel, by decide +kernel⟩
theorem ok_law_unimodular (B : Blt mg)  {f_law_draw : Addr} {fd_law_draw : FuncData} (D_law_draw : DefAt K mg "_law_draw" st_law_draw ["_law_pen_here", "_law_many"] f_law_draw fd_law_draw) {f_law_pick : Addr} {fd_law_pick : FuncData} (D_law_pick : DefAt K mg "_law_pick" st_law_pick ["_law_pen_here", "_law_some"] f_law_pick fd_law_pick) {f_law_unit : Addr} {fd_law_unit : FuncData} (D_law_unit : DefAt K mg "_law_unit" st_law_unit ["_law_many"] f_law_unit fd_law_unit) {f_law_unimodular : Addr} {fd_law_unimodular : FuncData} (D_law_unimodular : DefAt K mg "_law_unimodular" st_law_unimodular ["_law_pen_here", "_law_many", "_law_steps"] f_law_unimodular fd_law_unimodular) : FnOk P w K mg base CX0 3 f_law_unimodular fd_law_unimodular ["_law_pen_here", "_law_many", "_law_steps"] spUm := by
  have OK_law_draw : FnOk P w K mg base CX0 1 f_law_draw fd_law_draw ["_law_pen_here", "_law_many"] spDraw := ok_law_draw B  D_law_draw
  have OK_law_pick : FnOk P w K mg base CX0 2 f_law_pick fd_law_pick ["_law_pen_here", "_law_some"] (spPick K) := ok_law_pick B  D_law_draw D_law_pick
  have OK_law_unit : FnOk P w K mg base CX0 1 f_law_unit fd_law_unit ["_law_many"] spId := ok_law_unit B  D_law_unit
  refine D_law_unimodular.F.ok sc_law_unimodular (fun vs H Q E h => ?_) (fun cdv A outer s H vs Q E hr h => ?_)
  · obtain ⟨p, c, m, n, s, rfl, _⟩ := h; rfl
  · have hu := hu_of hr
    refine ⟨_, (pss_cons (ps_set (i := 3) sc_law_unimodular.nd rfl (Or.inl rfl) (pe_call OK_law_unit (hr.mono (by decide)) rfl D_law_unit.m D_law_unit.F.kp D_law_unit.b .nil pass0 (pa_cons (pv 1) pa_nil)))
    (pss_cons (ps_for PassesOwn.never rfl (pi_range1 rfl B.range_ (pa_cons (pe_ifExp (pt_cmpR op_gt (pv 1) pe_int (nomark _)) (pv 2) pe_int) pa_nil)) (pg_name (i := 4) sc_law_unimodular.nd rfl (Or.inl rfl))
      (pss_cons (ps_par (i := 5) (j := 6) (by rfl) sc_law_unimodular.nd rfl rfl (by decide) rfl rfl (pa_cons (pe_call OK_law_draw (hr.mono (by decide)) rfl D_law_draw.m D_law_draw.F.kp D_law_draw.b .nil pass0 (pa_cons (pv 0) (pa_cons (pv 1) pa_nil))) (pa_cons (pe_call OK_law_draw (hr.mono (by decide)) rfl D_law_draw.m D_law_draw.F.kp D_law_draw.b .nil pass0 (pa_cons (pv 0) (pa_cons (pv 1) pa_nil))) pa_nil)) (by rfl))
    (pss_one (ps_if (pt_cmpR op_eq (pv 5) (pv 6) (nomark _)) (pss_one (ps_asg (pe_lc (own := [("_law_one", 7)]) (g := gName 7) (tt := tYes) rfl sc_law_unimodular.nd (pi_list (pe_ix (ix_list : IxR _ (rIxL K)) (pv 3) (pv 5) (fun _ _ => rfl))) (blkOk_by (own := [("_law_one", 7)]) (N := ["_law_pen_here", "_law_many", "_law_steps", "_law_rows", "_law_lap", "_law_j", "_law_k", "_law_one", "_law_by", "_law_two"]) (sc := defScope st_law_unimodular) (by decide +kernel)) (fun _ _ _ _ _ => (pg_name (i := 7) sc_law_unimodular.nd rfl (Or.inl rfl))) (fun _ _ _ _ _ => pts_nil) (fun _ _ _ _ _ => (pe_un un_neg (pv 7)))) (pg_sub (pv 3) (pv 5) set_list))) (pss_cons (ps_set (i := 8) sc_law_unimodular.nd rfl (Or.inr rfl) (pe_call OK_law_pick (hr.mono (by decide)) rfl D_law_pick.m D_law_pick.F.kp D_law_pick.b .nil pass0 (pa_cons (pv 0) (pa_cons (pe_lst (pa_cons pe_int (pa_cons (pe_un un_neg pe_int) (pa_cons pe_int (pa_cons (pe_un un_neg pe_int) pa_nil))))) pa_nil))))
    (pss_one (ps_asg (pe_lc (own := [("_law_one", 7), ("_law_two", 9)]) (g := (gTup K 2 (gCons (gName 7) (gCons (gName 9) gNil)))) (tt := tYes) rfl sc_law_unimodular.nd (pi_zip (by rfl) B.zip_ (pa_cons (pe_ix (ix_list : IxR _ (rIxL K)) (pv 3) (pv 5) (fun _ _ => rfl)) (pa_cons (pe_ix (ix_list : IxR _ (rIxL K)) (pv 3) (pv 6) (fun _ _ => rfl)) pa_nil))) (blkOk_by (own := [("_law_one", 7), ("_law_two", 9)]) (N := ["_law_pen_here", "_law_many", "_law_steps", "_law_rows", "_law_lap", "_law_j", "_law_k", "_law_one", "_law_by", "_law_two"]) (sc := defScope st_law_unimodular) (by decide +kernel)) (fun _ _ _ _ _ => (pg_tup rfl (pgs_cons (pg_name (i := 7) sc_law_unimodular.nd rfl (Or.inl rfl)) (pgs_cons (pg_name (i := 9) sc_law_unimodular.nd rfl (Or.inl rfl)) pgs_nil)))) (fun _ _ _ _ _ => pts_nil) (fun _ _ _ _ _ => (pe_op op_add (pv 7) (pe_op op_mulW (pv 8) (pv 9))))) (pg_sub (pv 3) (pv 5) set_list))))))))
    (pss_one (ps_ret (pv 3))))), ?_⟩
    obtain ⟨p, c, m, n, s, rfl, P, hm, hn, hn2, hs, q⟩ := h
    refine ⟨_, rfl, n, rfl, by omega, fun w H1 hw s1 hI => ?_⟩
    refine ⟨_, rfl, (n : Int), (1 : Int), rfl, rfl, _, rfl, ?_⟩
    
    by_cases n1 : n = 1
    · rw [decide_eq_false (by omega : ¬ (n : Int) > 1)]
      refine iteF ?_
      refine ⟨_, rfl, by decide, by decide, for_range (lo := 0) (n := ((0 : Int)).toNat) (fun i σ H' => σ = [some (.ref p), some (.int (n : Int)), some (.int (s : Int)), some (.ref w), none, none, none, none, none, none] ∧ H' = H1) ⟨rfl, rfl⟩ (fun i σ H2 hi _ => absurd hi (by simp)) ?_⟩
      rintro σ H2 ⟨rfl, rfl⟩
      have u0 := uni_id n
      exact ⟨_, rfl, q w _ _ ((P.same s1).mono (by omega)) (same_k7 s1) hI ⟨u0.len, u0.rl, fun r hr v hv => Nat.le_trans (u0.bd r hr v hv) (Nat.pow_pos (by decide)), u0.gn, u0.du⟩⟩
    rw [decide_eq_true (by omega : (n : Int) > 1)]
    refine iteT ?_
    obtain ⟨as0, hw1, pr1⟩ := hI
    have la0 := prd_len pr1
    rw [idM_len] at la0
    obtain ⟨pw, cw⟩ := pen_ne7 P hw
    refine ⟨_, rfl, _, rfl, by omega, by omega, for_range (lo := 0) (n := ((s : Int)).toNat) (fun i σ H' => ∃ v4 v5 v6 v8 : Option V, σ = [some (.ref p), some (.int (n : Int)), some (.int (s : Int)), some (.ref w), v4, v5, v6, none, v8, none] ∧ Pen H' p c (m + 3 * i) ∧ Keep p H H' ∧ ∃ (as : List Addr) (U : List Rw), H' w = some (.lst (as.map V.ref)) ∧ Paired (fun a r => a ≠ w ∧ H' a = some (.lst (r.map V.int))) as U ∧ Uni n (4 ^ i) U) ⟨none, none, none, none, rfl, (P.same s1).mono (by omega), same_k7 s1, as0, _, hw1, paired_mono pr1 fun a r z => ⟨fun e => ?_, z⟩, uni_id n⟩ ?_ ?_⟩
    · rw [e, hw1] at z
      have z' : as0.map V.ref = r.map V.int := by injection z with z; injection z
      cases as0 with
      | nil => simp at la0; omega
      | cons x _ => cases r with
        | nil => cases z'
        | cons y _ => cases z'
    · rintro i σ H2 hi ⟨v4, v5, v6, v8, rfl, P2, k2, as, U, hw2, pr2, u⟩
      rw [Int.toNat_natCast] at hi
      have las := prd_len pr2
      rw [u.len] at las
      refine ⟨_, rfl, _, rfl, p, c, _, (n : Int), rfl, P2, by omega, by omega, by omega, fun jv H3 j0 j1 P3 k3 => ?_⟩
      refine ⟨_, rfl, _, rfl, p, c, _, (n : Int), rfl, P3, by omega, by omega, by omega, fun kv H4 k0 k1 P4 k4 => ?_⟩
      obtain ⟨j, rfl⟩ : ∃ j : Nat, jv = (j : Int) := ⟨jv.toNat, by omega⟩
      obtain ⟨k, rfl⟩ : ∃ k : Nat, kv = (k : Int) := ⟨kv.toNat, by omega⟩
      have e0 := Keep.at (k3.trans k4) P2 hw2 (fun _ z => nomatch z)
      have pr4 : Paired (fun a r => a ≠ w ∧ H4 a = some (.lst (r.map V.int))) as U := paired_mono pr2 fun a r z => ⟨z.1, Keep.at (k3.trans k4) P2 z.2 (fun _ z => nomatch z)⟩
      have K4 := k2.trans (k3.trans k4)
      refine ⟨_, _, rfl, ?_⟩
      refine ⟨_, rfl, _, rfl, rfl, _, rfl, ?_⟩
      have jn : j < n := by omega
      have kn : k < n := by omega
      have getU : ∀ t, t < n → ∃ a, as[t]? = some a ∧ a ≠ w ∧ H4 a = some (.lst ((U.getD t []).map V.int)) := fun t ht => by
        obtain ⟨r, hr, ha⟩ := prd_get pr4 (List.getElem?_eq_getElem (show t < as.length by omega))
        exact ⟨_, List.getElem?_eq_getElem (by omega), ha.1, by rw [List.getD_eq_getElem?_getD, hr]; exact ha.2⟩
      obtain ⟨aj, haj, ajw, hj⟩ := getU j jn
      obtain ⟨ak, hak, akw, hk⟩ := getU k kn
      have gj : atI (as.map V.ref) ((j : Nat) : Int) = some (.ref aj) := by rw [atI_of (by rw [List.length_map]; omega), List.getElem?_map, haj]; rfl
      have gk : atI (as.map V.ref) ((k : Nat) : Int) = some (.ref ak) := by rw [atI_of (by rw [List.length_map]; omega), List.getElem?_map, hak]; rfl
      have lj : (U.getD j []).length = n := u.rl _ (getD_mem (by rw [u.len]; exact jn))
      have lk : (U.getD k []).length = n := u.rl _ (getD_mem (by rw [u.len]; exact kn))
      by_cases e : j = k
      · rw [decide_eq_true (by rw [e])]
        refine iteT ?_
        refine ⟨_, rfl, _, rfl, w, _, _, _, rfl, rfl, SqL.of e0, gj, aj, rfl, ⟨_, SqL.of hj⟩, fun D hD => ?_⟩
        obtain ⟨pD, cD⟩ := pen_ne7 P4 hD
        refine lc_list (K := K) (a := aj) (xs := (U.getD j []).map V.int) (fun i H' => Same H4 H' ∧ H' D = some (.lst ((((U.getD j []).map fun v => -v).take i).map V.int))) ⟨AL.Same.new hD, upd_same⟩ (fun i H' _ hh => SqL.of (hh.1 _ _ hj)) ?_ ?_
        · rintro i1 x H5 hx ⟨s5, hd5⟩
          obtain ⟨z, hz, rfl⟩ := map_int hx
          have il := (List.getElem?_eq_some_iff.mp hz).1
          refine ⟨rfl, ?_⟩
          refine ⟨_, rfl, _, rfl, _, hd5, ?_, AL.Same.updn s5 hD, ?_⟩
          · rw [List.length_map, List.length_take]; exact Nat.lt_of_le_of_lt (by omega : _ ≤ 1000) (by decide)
          · rw [upd_same, List.take_add_one, List.getElem?_map, hz, List.map_append]; rfl
        rintro H5 ⟨s5, hd5⟩
        rw [List.take_of_length_le (by rw [List.length_map, List.length_map]; exact Nat.le_refl _)] at hd5
        have e5 := s5 _ _ e0
        have Dw : D ≠ w := fun z => by rw [z, e0] at hD; cases hD
        refine ⟨_, rfl, _, rfl, w, _, _, _, rfl, rfl, e5, ixN_of (by rw [List.length_map]; omega), ?_⟩
        refine ⟨_, _, _, _, rfl, (pen_upd7 (P4.same s5) pw cw).mono (by omega), keep_upd7 (K4.trans (same_k7 s5)) hw, as.set j D, _, by rw [upd_same, List.map_set], prd_set (paired_mono pr4 fun a r z => ⟨z.1, Eq.trans (upd_ne z.1) (s5 _ _ z.2)⟩) j ⟨Dw, Eq.trans (upd_ne Dw) hd5⟩, ?_⟩
        have un := uni_neg u jn
        exact ⟨un.len, un.rl, fun r hr v hv => Nat.le_trans (un.bd r hr v hv) (Nat.pow_le_pow_right (by decide) (Nat.le_succ _)), un.gn, un.du⟩
      · rw [decide_eq_false (fun z => e (by injection z with z; omega))]
        refine iteF ?_
        refine ⟨_, rfl, _, rfl, _, rfl, (by show 4 ≤ sizeLine; decide), fun lp hlp => ?_⟩
        have n5 := AL.Same.new (o := .lst [.int 1, .int (-1), .int 2, .int (-3)]) hlp
        refine ⟨p, c, lp, _, _, rfl, P4.same n5, by omega, SqL.of upd_same, (by show 0 < 4; decide), (by show 4 < 1000000000; decide), fun jx x H5 hx P5 k5 => ?_⟩
        obtain ⟨b, rfl, hb⟩ : ∃ b : Int, x = V.int b ∧ b.natAbs ≤ 3 := by
          refine pick_of (P := fun x => ∃ b : Int, x = V.int b ∧ b.natAbs ≤ 3) (fun y hy => ?_) hx
          simp only [List.mem_cons, List.not_mem_nil, or_false] at hy
          rcases hy with rfl | rfl | rfl | rfl
          · exact ⟨_, rfl, by decide⟩
          · exact ⟨_, rfl, by decide⟩
          · exact ⟨_, rfl, by decide⟩
          · exact ⟨_, rfl, by decide⟩
        have k45 := (same_k7 n5).trans k5
        have e5 := Keep.at k45 P4 e0 (fun _ z => nomatch z)
        have hj5 := Keep.at k45 P4 hj (fun _ z => nomatch z)
        have hk5 := Keep.at k45 P4 hk (fun _ z => nomatch z)
        have pr5 : Paired (fun a r => a ≠ w ∧ H5 a = some (.lst (r.map V.int))) as U := paired_mono pr4 fun a r z => ⟨z.1, Keep.at k45 P4 z.2 (fun _ z => nomatch z)⟩
        have K5 := K4.trans k45
        refine ⟨_, rfl, _, rfl, w, _, _, _, rfl, rfl, SqL.of e5, gj, _, rfl, _, rfl, w, _, _, _, rfl, rfl, SqL.of e5, gk, aj, ak, _, _, rfl, SqL.of hj5, SqL.of hk5, fun D hD => ?_⟩
        refine lc_it (walk_zip (K := K) (a := aj) (b := ak) (xs := (U.getD j []).map V.int) (ys := (U.getD k []).map V.int) (n := n) (by rw [List.length_map, List.length_map]; omega)) (fun i H' => Same H5 H' ∧ H' D = some (.lst (((addR (U.getD j []) b (U.getD k [])).take i).map V.int))) ⟨AL.Same.new hD, upd_same⟩ (fun i H' _ hh => ⟨SqL.of (hh.1 _ _ hj5), SqL.of (hh.1 _ _ hk5)⟩) ?_ ?_
        · rintro i1 x0 H6 H7 hi1 ⟨s6, hd6⟩ ⟨T0, u1, u2, rfl, hT, rfl, e1, e2⟩
          obtain ⟨z1, c1, rfl⟩ := map_int e1
          obtain ⟨z2, c2, rfl⟩ := map_int e2
          have hDT : D ≠ T0 := fun z => by rw [z, hT] at hd6; cases hd6
          have sT : Same H5 (upd H6 T0 (.tup [.int z1, .int z2])) := s6.trans (AL.Same.new hT)
          have b2 : z2.natAbs < 2 ^ 60 := by
            have h1 := u.bd _ (getD_mem (by rw [u.len]; exact kn)) z2 (List.mem_of_getElem? c2)
            have h2 : 4 ^ i ≤ 4 ^ 10 := Nat.pow_le_pow_right (by decide) (by omega)
            have h3 : 4 ^ 10 < 2 ^ 60 := by decide
            omega
          refine ⟨T0, _, rfl, SqT.of upd_same, rfl, _, _, rfl, _, _, rfl, rfl, rfl, ?_⟩
          refine ⟨_, rfl, _, rfl, _, rfl, _, _, rfl, rfl, wide_mul (a := 60) (b := 60) (by omega) b2 (by decide) (by decide) (by decide), _, _, rfl, rfl, _, Eq.trans (upd_ne hDT) hd6, ?_, AL.Same.updn sT hD, ?_⟩
          · rw [List.length_map, List.length_take]
            exact Nat.lt_of_le_of_lt (by rw [addR_len (by omega)]; omega : _ ≤ 100) (by decide)
          · have g : (addR (U.getD j []) b (U.getD k []))[i1]? = some (z1 + b * z2) := by unfold addR; rw [List.getElem?_zipWith, c1, c2]
            rw [upd_same, List.take_add_one, g, List.map_append]
            rfl
        rintro H6 ⟨s6, hd6⟩
        rw [List.take_of_length_le (by rw [addR_len (by omega), lj]; exact Nat.le_refl _)] at hd6
        have e6 := s6 _ _ e5
        have Dw : D ≠ w := fun z => by rw [z, e5] at hD; cases hD
        refine ⟨_, rfl, _, rfl, w, _, _, _, rfl, rfl, e6, ixN_of (by rw [List.length_map]; omega), ?_⟩
        refine ⟨_, _, _, _, rfl, (pen_upd7 (P5.same s6) pw cw).mono (by omega), keep_upd7 (K5.trans (same_k7 s6)) hw, as.set j D, _, by rw [upd_same, List.map_set], prd_set (paired_mono pr5 fun a r z => ⟨z.1, Eq.trans (upd_ne z.1) (s6 _ _ z.2)⟩) j ⟨Dw, Eq.trans (upd_ne Dw) hd6⟩, ?_⟩
        rw [Nat.pow_succ, Nat.mul_comm]
        exact uni_add u jn kn e hb
    · rintro σ H2 ⟨v4, v5, v6, v8, rfl, P2, k2, as, U, hw2, pr2, u⟩
      rw [Int.toNat_natCast] at P2 u
      exact ⟨_, rfl, q w H2 U P2 k2 ⟨as, hw2, paired_mono pr2 fun _ _ z => z.2⟩ u⟩
end
end AL
set_option Elab.async false
set_option maxRecDepth 100000
set_option exponentiation.threshold 70000
set_option maxHeartbeats 1000000
namespace AL
open PySem PySem.Spec PyProof.Rows L2 RZ
section
variable {P : Program} {w : World} {K : PySem.W.Frag} {mg : Str → Option Value} {base : Heap}

/-- a row times a matrix -/
def mmR (n : Nat) (U : List Rw) (r : Rw) : Rw := (trM n U).map fun c => dotI r c
theorem mmR_len (n : Nat) (U : List Rw) (r : Rw) : (mmR n U r).length = n := by unfold mmR; rw [List.length_map, trM_len]
theorem dotI_bd {b c : Nat} : ∀ {r k : Rw}, (∀ v ∈ r, v.natAbs ≤ b) → (∀ v ∈ k, v.natAbs ≤ c) → (dotI r k).natAbs ≤ r.length * (b * c)
  | [], _, _, _ => by unfold dotI; simp
  | _ :: _, [], _, _ => by unfold dotI; simp
  | x :: r, y :: k, h1, h2 => by
    have ih := dotI_bd (r := r) (k := k) (fun v hv => h1 v (List.mem_cons_of_mem _ hv)) fun v hv => h2 v (List.mem_cons_of_mem _ hv)
    unfold dotI at ih ⊢
    rw [List.zipWith_cons_cons, List.sum_cons, List.length_cons, Nat.add_mul, Nat.one_mul]
    have e : (x * y).natAbs ≤ b * c := by rw [Int.natAbs_mul]; exact Nat.mul_le_mul (h1 x List.mem_cons_self) (h2 y List.mem_cons_self)
    omega
/-- _law_matmul(one, two) -/
def spMm : Sp := fun vs H Q _ => ∃ (w u : Addr) (k n : Nat) (rows U : List Rw), vs = [.ref w, .ref u] ∧ RowsZ H w rows ∧ RowsZ H u U ∧ U.length = k ∧ (∀ r ∈ U, r.length = n) ∧ (∀ r ∈ rows, r.length = k) ∧ 1 ≤ k ∧ k ≤ 20 ∧ n ≤ 20 ∧ rows.length ≤ 20 ∧ (∀ r ∈ rows, ∀ v ∈ r, v.natAbs < 2 ^ 60) ∧ (∀ r ∈ U, ∀ v ∈ r, v.natAbs < 2 ^ 60) ∧
  ∀ D H', H D = none → Same H H' → RowsZ H' D (rows.map (mmR n U)) → Q (.ref D) H'

abbrev st_law_matmul : Stmt := top 38
theorem sc_law_matmul : FnScope ["_law_one", "_law_two", "_law_columns", "_law_row", "_law_column"] ["_law_one", "_law_two"] (defScope st_law_matmul) := ⟨rfl, rfl, rfl, by decide +kernel, rfl, by decide +kernel, by decide +kernel⟩
theorem ok_law_matmul (B : Blt mg)  {f_law_inner : Addr} {fd_law_inner : FuncData} (D_law_inner : DefAt K mg "_law_inner" st_law_inner ["_law_row", "_law_column"] f_law_inner fd_law_inner) {f_law_turned : Addr} {fd_law_turned : FuncData} (D_law_turned : DefAt K mg "_law_turned" st_law_turned ["_law_rows"] f_law_turned fd_law_turned) {f_law_matmul : Addr} {fd_law_matmul : FuncData} (D_law_matmul : DefAt K mg "_law_matmul" st_law_matmul ["_law_one", "_law_two"] f_law_matmul fd_law_matmul) : FnOk P w K mg base CX0 2 f_law_matmul fd_law_matmul ["_law_one", "_law_two"] spMm := by
  have OK_law_inner : FnOk P w K mg base CX0 1 f_law_inner fd_law_inner ["_law_row", "_law_column"] spInn := ok_law_inner B  D_law_inner
  have OK_law_turned : FnOk P w K mg base CX0 1 f_law_turned fd_law_turned ["_law_rows"] spTr := ok_law_turned B  D_law_turned
  refine D_law_matmul.F.ok sc_law_matmul (fun vs H Q E h => ?_) (fun cdv A outer s H vs Q E hr h => ?_)
  · obtain ⟨w, u, k0, n, rows, U, rfl, _⟩ := h; rfl
  · have hu := hu_of hr
    refine ⟨_, (pss_cons (ps_set (i := 2) sc_law_matmul.nd rfl (Or.inr rfl) (pe_call OK_law_turned (hr.mono (by decide)) rfl D_law_turned.m D_law_turned.F.kp D_law_turned.b .nil pass0 (pa_cons (pv 1) pa_nil)))
    (pss_one (ps_ret (pe_lc (own := [("_law_row", 3)]) (g := gName 3) (tt := tYes) rfl sc_law_matmul.nd (pi_list (pv 0)) (blkOk_by (own := [("_law_row", 3)]) (N := ["_law_one", "_law_two", "_law_columns", "_law_row", "_law_column"]) (by kernel_rfl)) (fun _ _ _ _ _ => (pg_name (i := 3) sc_law_matmul.nd rfl (Or.inr rfl))) (fun _ _ _ _ _ => pts_nil) (fun _ _ _ _ _ => (pe_lc (own := [("_law_column", 4)]) (g := gName 4) (tt := tYes) rfl sc_law_matmul.nd (pi_list (pv 2) : PI _ _ _ (iList K (tVar 2))) (blkOk_by (own := [("_law_column", 4)]) (N := ["_law_one", "_law_two", "_law_columns", "_law_row", "_law_column"]) (by kernel_rfl)) (fun _ _ _ _ _ => (pg_name (i := 4) sc_law_matmul.nd rfl (Or.inl rfl))) (fun _ _ _ _ _ => pts_nil) (fun _ _ _ _ _ => (pe_call OK_law_inner (hr.mono (by decide)) rfl D_law_inner.m D_law_inner.F.kp D_law_inner.b .nil pass0 (pa_cons (pv 3) (pa_cons (pv 4) pa_nil)))))))))), ?_⟩
    obtain ⟨w, u, k0, n, rows, U, rfl, hw, hu, lU, hU, hl, n1, k20, n20, lr, b1, b2, q⟩ := h
    refine ⟨_, rfl, u, n, U, rfl, RowsZ.toT hu, (fun z => by rw [z] at lU; simp at lU; omega), hU, by omega, by omega, fun T H1 hT s1 hTr => ?_⟩
    obtain ⟨as, W1, W2⟩ := hw.same s1
    have las := prd_len W2
    obtain ⟨ts, T1, T2⟩ := hTr
    have lts := prd_len T2
    rw [trM_len] at lts
    refine ⟨_, rfl, w, rfl, ⟨_, SqL.of W1⟩, fun D hD => ?_⟩
    refine lc_list (K := K) (a := w) (xs := as.map V.ref) (fun i H' => Same H1 H' ∧ ∃ bs : List Addr, H' D = some (.lst (bs.map V.ref)) ∧ Paired (fun a r => a ≠ D ∧ H' a = some (.lst (r.map V.int))) bs ((rows.map (mmR n U)).take i)) ⟨AL.Same.new hD, [], upd_same, .nil⟩ (fun i H' _ hh => SqL.of (hh.1 _ _ W1)) ?_ ?_
    · rintro i x H2 hx ⟨s2, bs, hd, pr⟩
      obtain ⟨a, ha, rfl⟩ := map_ref hx
      obtain ⟨r, hr, hra⟩ := prd_get W2 ha
      have il := (List.getElem?_eq_some_iff.mp hr).1
      have lrr := hl r (List.mem_of_getElem? hr)
      have lb := prd_len pr
      rw [List.length_take, List.length_map] at lb
      refine ⟨rfl, ?_⟩
      refine ⟨_, rfl, T, rfl, ⟨_, SqL.of (s2 _ _ T1)⟩, fun D2 hD2 => ?_⟩
      refine lc_list (K := K) (a := T) (xs := ts.map V.ref) (fun j H' => Same H2 H' ∧ H' D2 = some (.lst (((mmR n U r).take j).map V.int))) ⟨AL.Same.new hD2, upd_same⟩ (fun i H' _ hh => SqL.of (hh.1 _ _ (s2 _ _ T1))) ?_ ?_
      · rintro j x H3 hx ⟨s3, hd3⟩
        obtain ⟨b, hb, rfl⟩ := map_ref hx
        obtain ⟨col, hc, hcb⟩ := prd_get T2 hb
        have jl := (List.getElem?_eq_some_iff.mp hc).1
        rw [trM_len] at jl
        have s23 := s2.trans s3
        obtain ⟨lc, j', hj', ec⟩ := trM_row (List.mem_of_getElem? hc)
        refine ⟨rfl, ?_⟩
        refine ⟨_, rfl, _, rfl, a, b, r, col, rfl, .inl (s23 _ _ hra), .inl (s23 _ _ hcb), by rw [lc, lU]; exact lrr, by rw [lc, lU]; omega, fun x hx => Nat.lt_of_lt_of_le (b1 r (List.mem_of_getElem? hr) x hx) (Nat.pow_le_pow_right (by decide) (by decide)), fun x hx => ?_, fun H4 s4 => ?_⟩
        · rw [ec] at hx
          obtain ⟨y, hy, rfl⟩ := List.mem_map.mp hx
          exact Nat.lt_of_lt_of_le (b2 y hy _ (vl_mem (by rw [hU y hy]; exact hj'))) (Nat.pow_le_pow_right (by decide) (by decide))
        refine ⟨_, s4 _ _ hd3, ?_, AL.Same.updn (s3.trans s4) hD2, ?_⟩
        · rw [List.length_map, List.length_take, mmR_len]; exact Nat.lt_of_le_of_lt (by omega : _ ≤ 1000) (by decide)
        · have g : (mmR n U r)[j]? = some (dotI r col) := by unfold mmR; rw [List.getElem?_map, hc]; rfl
          rw [upd_same, List.take_add_one, g, List.map_append]; rfl
      · rintro H3 ⟨s3, hd3⟩
        rw [List.take_of_length_le (by rw [mmR_len, List.length_map]; omega)] at hd3
        have bD : D2 ≠ D := fun z => by rw [z, hd] at hD2; cases hD2
        obtain ⟨r1, r2⟩ := rowsZ_snoc (s3 _ _ hd) (paired_mono pr fun _ _ z => ⟨z.1, s3 _ _ z.2⟩) bD hd3
        refine ⟨_, s3 _ _ hd, ?_, AL.Same.updn (s2.trans s3) hD, bs ++ [D2], r1, ?_⟩
        · rw [List.length_map]; exact Nat.lt_of_le_of_lt (by omega : _ ≤ 1000) (by decide)
        · have g : (rows.map (mmR n U))[i]? = some (mmR n U r) := by rw [List.getElem?_map, hr]; rfl
          rw [List.take_add_one, g]
          exact r2
    rintro H2 ⟨s2, bs, hd, pr⟩
    rw [List.take_of_length_le (by rw [List.length_map, List.length_map]; omega)] at pr
    have hD0 : H D = none := by
      cases e : H D with
      | none => rfl
      | some o => rw [s1 _ _ e] at hD; cases hD
    exact q D H2 hD0 (s1.trans s2) ⟨bs, hd, paired_mono pr fun _ _ z => z.2⟩
end
end AL
set_option Elab.async false
set_option maxRecDepth 100000
set_option exponentiation.threshold 70000
set_option maxHeartbeats 1000000
namespace AL
open PySem PySem.Spec PyProof.Rows L2 RZ
section
variable {P : Program} {w : World} {K : PySem.W.Frag} {mg : Str → Option Value} {base : Heap}
/-- _law_pivots(rows) -/
def spPt : Sp := fun vs H Q _ => ∃ (w : Addr) (N : Nat) (rows : List Rw), vs = [.ref w] ∧ RowsV H w rows ∧ (∀ r ∈ rows, r.length = N) ∧ (∀ r ∈ rows, vl r (piv r) ≠ 0) ∧ rows.length ≤ 100 ∧ N ≤ 100 ∧ ∀ d H', Same H H' → H' d = some (.lst (rows.map fun r => V.int (piv r : Int))) → Q (.ref d) H'

abbrev st_law_pivots : Stmt := top 40
theorem sc_law_pivots : FnScope ["_law_rows", "_law_found", "_law_row", "_law_places", "_law_k"] ["_law_rows"] (defScope st_law_pivots) := ⟨rfl, rfl, rfl, by decide +kernel, rfl, by decide +kernel, by decide +kernel⟩
theorem ok_law_pivots (B : Blt mg)  {f_law_pivots : Addr} {fd_law_pivots : FuncData} (D_law_pivots : DefAt K mg "_law_pivots" st_law_pivots ["_law_rows"] f_law_pivots fd_law_pivots) : FnOk P w K mg base CX0 1 f_law_pivots fd_law_pivots ["_law_rows"] spPt := by
  refine D_law_pivots.F.ok sc_law_pivots (fun vs H Q E h => ?_) (fun cdv A outer s H vs Q E hr h => ?_)
  · obtain ⟨w, N, rows, rfl, _⟩ := h; rfl
  · have hu := hu_of hr
    refine ⟨_, (pss_cons (ps_set (i := 1) sc_law_pivots.nd rfl (Or.inl rfl) (pe_lst pa_nil))
    (pss_cons (ps_for PassesOwn.never rfl (pi_tup (pv 0)) (pg_name (i := 2) sc_law_pivots.nd rfl (Or.inr rfl))
      (pss_cons (ps_setLc (i := 3) (own := [("_law_k", 4)]) (g := gName 4) rfl sc_law_pivots.nd rfl rfl (sw_true rfl rfl rfl (by decide +kernel)) (pi_range1 rfl B.range_ (pa_cons (pe_callB (call_lenK : CallR _ (.builtin "len") (rLenK K)) (by rfl) B.len_ (by decide +kernel) (pa_cons (pv 2) pa_nil)) pa_nil)) (blkOk_by (own := [("_law_k", 4)]) (N := ["_law_rows", "_law_found", "_law_row", "_law_places", "_law_k"]) (sc := defScope st_law_pivots) (by decide +kernel)) (fun _ _ _ _ _ => (pg_name (i := 4) sc_law_pivots.nd rfl (Or.inl rfl))) (fun _ _ _ _ _ => (pts_one (pt_cmpR op_ne (pe_ix (ix_tup : IxR _ (rIxT K)) (pv 2) (pv 4) (fun _ _ => rfl)) pe_int (nomark _)))) (fun _ _ _ _ _ => (pv 4)))
    (pss_one (ps_if (pt_cmpR (op_neD hr.units) (pv 3) (pe_lst pa_nil) (nomark _)) (pss_one (ps_expr (pe_bm PySem.F.plainAttrs_list PySem.F.slot_list_append PySem.F.type_list_append mt_append (pv 1) (pa_cons (pe_ix ix_list (pv 3) pe_int (fun _ _ => rfl)) pa_nil)))) pss_nil))))
    (pss_one (ps_ret (pv 1))))), ?_⟩
    obtain ⟨w, N, rows, rfl, hw, hl, hz, lr, lN, q⟩ := h
    obtain ⟨as, W1, W2⟩ := hw
    have las := prd_len W2
    refine ⟨(by show 0 ≤ sizeLine; decide), fun d hd => ?_⟩
    have n1 := AL.Same.new (o := .lst []) hd
    refine ⟨_, rfl, w, rfl, ⟨_, SqT.of (n1 _ _ W1)⟩, for_tup (K := K) (a := w) (xs := as.map V.ref) (fun i σ H' => ∃ v2 v3 v4 : Option V, σ = [some (.ref w), some (.ref d), v2, v3, v4] ∧ Same H H' ∧ H' d = some (.lst ((rows.take i).map fun r => V.int (piv r : Int)))) ⟨none, none, none, rfl, n1, upd_same⟩ (fun i σ H' _ hh => by obtain ⟨_, _, _, _, s, _⟩ := hh; exact SqT.of (s _ _ W1)) ?_ ?_⟩
    · rintro i x σ H1 hx ⟨v2, v3, v4, rfl, s1, hd1⟩
      obtain ⟨a, ha, rfl⟩ := map_ref hx
      obtain ⟨r, hr, hra⟩ := prd_get W2 ha
      have il := (List.getElem?_eq_some_iff.mp hr).1
      have mr := List.mem_of_getElem? hr
      have lrr := hl r mr
      have hra1 := s1 _ _ hra
      refine ⟨_, rfl, a, _, rfl, .inr (SqT.of hra1), ?_⟩
      rw [List.length_map, lrr]
      refine ⟨_, rfl, by omega, by omega, fun D hD => ?_⟩
      refine lc_range (lo := 0) (n := ((N : Nat) : Int).toNat) (fun t H' => Same H1 H' ∧ ∃ fnd : List Nat, H' D = some (.lst (fnd.map fun j : Nat => V.int (j : Int))) ∧ fnd.length ≤ t ∧ (fnd = [] ↔ t ≤ piv r) ∧ ∀ f, fnd.head? = some f → f = piv r) ⟨AL.Same.new hD, [], upd_same, Nat.le_refl _, ⟨fun _ => Nat.zero_le _, fun _ => rfl⟩, (fun f h => by cases h)⟩ ?_ ?_
      · rintro t H2 ht ⟨s2, fnd, hf, lf, e1, e2⟩
        rw [Int.toNat_natCast] at ht
        have zt : (0 : Int) + (t : Int) = ((t : Nat) : Int) := Int.zero_add _
        rw [zt]
        have gr : atI (r.map V.int) ((t : Nat) : Int) = some (.int (vl r t)) := by rw [atI_of (by rw [List.length_map]; omega), List.getElem?_map, vl_at (by omega)]; rfl
        have ahead := ahead_zero (hz r mr)
        refine ⟨rfl, ?_⟩
        refine ⟨_, rfl, _, rfl, a, _, _, _, rfl, rfl, SqT.of (s2 _ _ hra1), gr, rfl, _, rfl, ?_⟩
        by_cases c : vl r t = 0
        · rw [show (!decide (V.int (vl r t) = V.int 0)) = false by rw [c, decide_eq_true rfl]; rfl]
          refine iteF ?_
          refine ⟨s2, fnd, hf, by omega, ⟨fun h => ?_, fun h => e1.mpr (by omega)⟩, e2⟩
          have := e1.mp h
          have ne : piv r ≠ t := fun z => hz r mr (by rw [z]; exact c)
          omega
        · rw [show (!decide (V.int (vl r t) = V.int 0)) = true by rw [decide_eq_false (fun w => c (by injection w))]; rfl]
          refine iteT ?_
          have pt : piv r ≤ t := Classical.byContradiction fun w => c (ahead t (by omega))
          refine ⟨_, rfl, _, hf, ?_, AL.Same.updn s2 hD, fnd ++ [t], by rw [upd_same, List.map_append]; rfl, by rw [List.length_append]; exact Nat.succ_le_succ lf, ⟨fun h => by simp at h, fun h => by omega⟩, fun f h => ?_⟩
          · rw [List.length_map]; exact Nat.lt_of_le_of_lt (by omega : _ ≤ 1000) (by decide)
          · cases fnd with
            | nil =>
              have := e1.mp rfl
              cases h; omega
            | cons g G => exact e2 f h
      rintro H2 ⟨s2, fnd, hf, lf, e1, e2⟩
      rw [Int.toNat_natCast] at e1
      have pN := piv_lt_len (hz r mr)
      rw [lrr] at pN
      obtain ⟨g, G, rfl⟩ : ∃ g G, fnd = g :: G := by
        cases fnd with
        | nil => have := e1.mp rfl; omega
        | cons g G => exact ⟨g, G, rfl⟩
      obtain rfl := e2 g rfl
      have hd2 := s2 _ _ hd1
      refine ⟨_, rfl, (by show 0 ≤ sizeLine; decide), fun e he => ?_⟩
      have ne := AL.Same.new (o := .lst []) he
      have hf3 := ne _ _ hf
      refine ⟨.list (((piv r :: G).map fun j : Nat => (j : Int)).map PyData.int), .list (([] : List Int).map PyData.int), .lst (SqL.of (by rw [hf3, List.map_map]; rfl)) (dpAll_int _), .lst (SqL.of upd_same) .nil, shaped_intsL _, shaped_intsL _, _, rfl, ?_⟩
      rw [eqv_intsL, show (!decide (((piv r :: G).map fun j : Nat => (j : Int)) = [])) = true from rfl]
      refine iteT ?_
      have g0 : atI ((piv r :: G).map fun j : Nat => V.int (j : Int)) 0 = some (.int (piv r : Int)) := atI_of (by rw [List.length_map, List.length_cons]; omega : 0 < _)
      refine ⟨_, rfl, .inl ⟨rfl, _, SqL.of (ne _ _ hd2)⟩, _, rfl, D, _, _, _, rfl, rfl, SqL.of hf3, g0, d, _, _, rfl, rfl, ne _ _ hd2, ?_, ?_⟩
      · rw [List.length_map, List.length_take]; exact Nat.lt_of_le_of_lt (by omega : _ ≤ 1000) (by decide)
      refine ⟨_, _, _, rfl, AL.Same.updn (s1.trans (s2.trans ne)) (by cases e : H d with | none => rfl | some o => exact absurd hd (by rw [e]; exact fun z => nomatch z)), ?_⟩
      rw [upd_same, List.take_add_one, hr, List.map_append]; rfl
    · rintro σ H1 ⟨v2, v3, v4, rfl, s1, hd1⟩
      rw [List.length_map, las, List.take_length] at hd1
      exact ⟨_, rfl, q d H1 s1 hd1⟩
end
end AL
set_option Elab.async false
set_option maxRecDepth 100000
set_option exponentiation.threshold 70000
set_option maxHeartbeats 1000000
namespace AL
open PySem PySem.Spec PyProof.Rows L2 RZ
section
variable {P : Program} {w : World} {K : PySem.W.Frag} {mg : Str → Option Value} {base : Heap}

/-- a row less what rows with rising pivots take from it -/
def lessR (F : List Rw) (x : Rw) : Rw := F.foldl (fun r f => comb 1 r (-((vl r (piv f)).fdiv (vl f (piv f)))) f) x
theorem ech_drop {N : Nat} {F : List Rw} (h : Hnf N F) (i : Nat) : Ech N (F.drop i) := ⟨fun f hf => h.len f (List.mem_of_mem_drop hf), fun f hf => h.ech.nz f (List.mem_of_mem_drop hf), h.asc.sublist (List.drop_sublist i F)⟩
theorem less_step {N i : Nat} {F : List Rw} {x f : Rw} (h : Hnf N F) (hf : F[i]? = some f) (lx : x.length = N) (hx : Lat (inR (F.drop i)) (vl x)) : Lat (inR (F.drop (i + 1))) (vl (comb 1 x (-((vl x (piv f)).fdiv (vl f (piv f)))) f)) := by
  have e := drop_at hf
  have E := ech_drop h i
  rw [e] at hx E
  obtain ⟨a, y, hy, ey⟩ := lat_cons hx
  have y0 : y (piv f) = 0 := spn_z E hy.spn (Nat.le_refl _)
  have f0 := E.nz f (List.mem_cons_self ..)
  have lf := E.len f (List.mem_cons_self ..)
  have d : (vl x (piv f)).fdiv (vl f (piv f)) = a := by
    rw [ey, y0, Int.add_zero]
    exact Int.mul_fdiv_cancel a f0
  rw [d]
  refine hy.of fun j => ?_
  rw [comb_vl (by rw [lx, lf]), ey j]; grind
/-- _law_belongs(basis, row), a row of the lattice -/
def spBl : Sp := fun vs H Q _ => ∃ (w a : Addr) (N m : Nat) (rows : List Rw) (x : Rw), vs = [.ref w, .ref a] ∧ RowsV H w rows ∧ LT H a x ∧ Hnf N rows ∧ x.length = N ∧ Lat (inR rows) (vl x) ∧ rows.length ≤ 20 ∧ N ≤ 20 ∧ BdR (2 ^ m) x ∧ (∀ r ∈ rows, BdR (2 ^ m) r) ∧ (m + 1) * 22 < 12000 ∧ ∀ H', Same H H' → Q (.bl true) H'

abbrev st_law_belongs : Stmt := top 41
theorem sc_law_belongs : FnScope ["_law_basis", "_law_row", "_law_left", "_law_lead", "_law_place", "_law_by", "_law_one", "_law_two"] ["_law_basis", "_law_row"] (defScope st_law_belongs) := ⟨rfl, rfl, rfl, by decide +kernel, rfl, by decide +kernel, by decide +kernel⟩
theorem ok_law_belongs (B : Blt mg)  {f_law_pivots : Addr} {fd_law_pivots : FuncData} (D_law_pivots : DefAt K mg "_law_pivots" st_law_pivots ["_law_rows"] f_law_pivots fd_law_pivots) {f_law_belongs : Addr} {fd_law_belongs : FuncData} (D_law_belongs : DefAt K mg "_law_belongs" st_law_belongs ["_law_basis", "_law_row"] f_law_belongs fd_law_belongs) : FnOk P w K mg base CX0 2 f_law_belongs fd_law_belongs ["_law_basis", "_law_row"] spBl := by
  have OK_law_pivots : FnOk P w K mg base CX0 1 f_law_pivots fd_law_pivots ["_law_rows"] spPt := ok_law_pivots B  D_law_pivots
  refine D_law_belongs.F.ok sc_law_belongs (fun vs H Q E h => ?_) (fun cdv A outer s H vs Q E hr h => ?_)
  · obtain ⟨w, a, N, m, rows, x, rfl, _⟩ := h; rfl
  · have hu := hu_of hr
    refine ⟨_, (pss_cons (ps_set (i := 2) sc_law_belongs.nd rfl (Or.inl rfl) (pe_callTy (call_listK : CallR _ _ (rListK K)) (by rfl) B.list_ (by decide +kernel) (pa_cons (pv 1) pa_nil)))
    (pss_cons (ps_for PassesOwn.never rfl (pi_zipB (by rfl) B.zip_ (pa_cons (pv 0) (pa_cons (pe_call OK_law_pivots (hr.mono (by decide)) rfl D_law_pivots.m D_law_pivots.F.kp D_law_pivots.b .nil pass0 (pa_cons (pv 0) pa_nil)) pa_nil))) (pg_tup rfl (pgs_cons (pg_name (i := 3) sc_law_belongs.nd rfl (Or.inl rfl)) (pgs_cons (pg_name (i := 4) sc_law_belongs.nd rfl (Or.inl rfl)) pgs_nil)))
      (pss_cons (ps_set (i := 5) sc_law_belongs.nd rfl (Or.inr rfl) (pe_op op_fdivB (pe_ix ix_list (pv 2) (pv 4) (fun _ _ => rfl)) (pe_ix ix_tup (pv 3) (pv 4) (fun _ _ => rfl))))
    (pss_one (ps_setLc (i := 2) (own := [("_law_one", 6), ("_law_two", 7)]) (g := (gTup K 2 (gCons (gName 6) (gCons (gName 7) gNil)))) (tt := tYes) rfl sc_law_belongs.nd rfl rfl (sw_true rfl rfl rfl (by decide +kernel)) (pi_zipB (by rfl) B.zip_ (pa_cons (pv 2) (pa_cons (pv 3) pa_nil))) (blkOk_by (own := [("_law_one", 6), ("_law_two", 7)]) (N := ["_law_basis", "_law_row", "_law_left", "_law_lead", "_law_place", "_law_by", "_law_one", "_law_two"]) (sc := defScope st_law_belongs) (by decide +kernel)) (fun _ _ _ _ _ => (pg_tup rfl (pgs_cons (pg_name (i := 6) sc_law_belongs.nd rfl (Or.inl rfl)) (pgs_cons (pg_name (i := 7) sc_law_belongs.nd rfl (Or.inl rfl)) pgs_nil)))) (fun _ _ _ _ _ => pts_nil) (fun _ _ _ _ _ => (pe_op op_sub (pv 6) (pe_op op_mulW (pv 5) (pv 7))))))))
    (pss_one (ps_ret (pe_cmpR (op_eqD hr.units : OpR _ _ (rEqD K)) (pe_lc (own := [("_law_one", 6)]) (g := gName 6) rfl sc_law_belongs.nd (pi_list (pv 2)) (blkOk_by (own := [("_law_one", 6)]) (N := ["_law_basis", "_law_row", "_law_left", "_law_lead", "_law_place", "_law_by", "_law_one", "_law_two"]) (sc := defScope st_law_belongs) (by decide +kernel)) (fun _ _ _ _ _ => (pg_name (i := 6) sc_law_belongs.nd rfl (Or.inl rfl))) (fun _ _ _ _ _ => (pts_one (pt_cmpR op_ne (pv 6) pe_int (nomark _)))) (fun _ _ _ _ _ => (pv 6))) (pe_lst pa_nil) (nomark _)))))), ?_⟩
    obtain ⟨w, a, N, m, rows, x, rfl, hw, hx, hF, lx, hin, lr, lN, bx, bF, sz, q⟩ := h
    refine ⟨_, rfl, a, _, rfl, hx.seq, fun D0 hD0 => ?_⟩
    have n0 := AL.Same.new (o := .lst (x.map V.int)) hD0
    have hD1 : LI (upd H D0 (.lst (x.map V.int))) D0 x := upd_same
    generalize upd H D0 (.lst (x.map V.int)) = H1 at n0 hD1 ⊢
    have m2 : ∀ i, i ≤ 20 → 2 ^ (m + (m + 1) * i) < 2 ^ 13000 := fun i hi => Nat.pow_lt_pow_right (by decide) (by
      have := Nat.mul_le_mul_left (m + 1) hi
      omega)
    refine ⟨_, rfl, _, rfl, w, N, rows, rfl, hw.same n0, hF.len, hF.ech.nz, by omega, by omega, fun d H2 s2 hd2 => ?_⟩
    have s02 := n0.trans s2
    obtain ⟨as, W1, W2⟩ := hw.same s02
    have las := prd_len W2
    refine ⟨w, d, false, true, _, _, rfl, SqT.of W1, SqL.of hd2, ?_⟩
    refine for_it (walk_zipB (K := K) (a := w) (b := d) (k := false) (l := true) (xs := as.map V.ref) (ys := rows.map fun r => V.int (piv r : Int)) (n := rows.length) (by rw [List.length_map, List.length_map]; omega)) (fun i σ H' => ∃ (la : Addr) (y : Rw) (v3 v4 v5 : Option V), σ = [some (.ref w), some (.ref a), some (.ref la), v3, v4, v5, none, none] ∧ Same H2 H' ∧ LI H' la y ∧ y.length = N ∧ Lat (inR (rows.drop i)) (vl y) ∧ BdR (2 ^ (m + (m + 1) * i)) y) ⟨D0, x, none, none, none, rfl, fun _ _ h => h, s2 _ _ hD1, lx, hin, by rw [Nat.mul_zero, Nat.add_zero]; exact bx⟩ (fun i σ H' _ hh => by obtain ⟨_, _, _, _, _, _, s, _⟩ := hh; exact ⟨SqT.of (s _ _ W1), SqL.of (s _ _ hd2)⟩) ?_ ?_
    · rintro i z σ H3 H4 hi ⟨la, y, v3, v4, v5, rfl, s3, hla, ly, hy, by_⟩ ⟨T0, u1, u2, rfl, hT0, rfl, e1, e2⟩
      obtain ⟨fa, hfa, rfl⟩ := map_ref e1
      obtain ⟨f, hf, hff⟩ := prd_get W2 hfa
      obtain rfl : V.int (piv f : Int) = u2 := by
        replace e2 : (rows.map fun r => V.int (piv r : Int))[i]? = some u2 := e2
        rw [List.getElem?_map, hf] at e2; exact Option.some.inj e2
      have mf := List.mem_of_getElem? hf
      have nT := AL.Same.new (o := .tup [.ref fa, .int (piv f : Int)]) hT0
      have sT := s3.trans nT
      have hla4 := hla.same nT
      have hf4 := sT _ _ hff
      have hp := hF.pos f mf
      have lf := hF.len f mf
      have pf := piv_lt_len (by omega : vl f (piv f) ≠ 0)
      have g1 : atI (y.map V.int) ((piv f : Nat) : Int) = some (.int (vl y (piv f))) := by rw [atI_of (by rw [List.length_map]; omega), List.getElem?_map, vl_at (by omega)]; rfl
      have g2 : atI (f.map V.int) ((piv f : Nat) : Int) = some (.int (vl f (piv f))) := by rw [atI_of (by rw [List.length_map]; omega), List.getElem?_map, vl_at (by omega)]; rfl
      have bi := m2 i (by omega)
      have byp := by_ (piv f)
      have bfp := bF f mf (piv f)
      have b0 := m2 0 (by omega)
      rw [Nat.mul_zero, Nat.add_zero] at b0
      have l35 : 2 ^ 13000 ≤ 2 ^ 13500 := Nat.pow_le_pow_right (by decide) (by decide)
      have st := less_step hF hf ly hy
      have qb := fdivA_le (vl y (piv f)) (b := vl f (piv f)) (by omega)
      refine ⟨T0, _, rfl, SqT.of upd_same, rfl, _, _, rfl, _, _, rfl, rfl, ?_⟩
      refine ⟨_, rfl, _, rfl, la, _, _, _, rfl, rfl, SqL.of hla4, g1, _, rfl, _, rfl, fa, _, _, _, rfl, rfl, SqT.of hf4, g2, _, _, rfl, rfl, ⟨by omega, by omega⟩, ?_⟩
      dsimp only
      generalize (vl y (piv f)).fdiv (vl f (piv f)) = qq at *
      have hn : y.length = f.length := by omega
      have bst : BdR (2 ^ (m + (m + 1) * (i + 1))) (comb 1 y (-qq) f) := by
        refine (comb_bd (a := 1) (b := 2 ^ (m + (m + 1) * i)) (c := 2 ^ (m + (m + 1) * i)) (d := 2 ^ m) hn (by decide) by_ (by omega) (bF f mf)).mono ?_
        have h1 : 2 ^ (m + (m + 1) * i) * 1 ≤ 2 ^ (m + (m + 1) * i) * 2 ^ m := Nat.mul_le_mul_left _ (Nat.two_pow_pos m)
        have h2 : 2 ^ (m + (m + 1) * i) * 2 ^ m + 2 ^ (m + (m + 1) * i) * 2 ^ m = 2 ^ (m + (m + 1) * (i + 1)) := by rw [← Nat.pow_add, Nat.mul_succ, show m + ((m + 1) * i + (m + 1)) = (m + (m + 1) * i + m) + 1 by omega, Nat.pow_succ 2 (m + (m + 1) * i + m), Nat.mul_two]
        omega
      refine ⟨_, rfl, _, rfl, la, fa, true, false, _, _, rfl, SqL.of hla4, SqT.of hf4, fun D hD => ?_⟩
      refine lc_it (walk_zipB (K := K) (a := la) (b := fa) (k := true) (l := false) (xs := y.map V.int) (ys := f.map V.int) (n := y.length) (by rw [List.length_map, List.length_map]; omega)) (fun j H' => Same (upd H3 T0 (.tup [.ref fa, .int (piv f : Int)])) H' ∧ H' D = some (.lst (((comb 1 y (-qq) f).take j).map V.int))) ⟨AL.Same.new hD, upd_same⟩ (fun j H' _ hh => ⟨SqL.of (hh.1 _ _ hla4), SqT.of (hh.1 _ _ hf4)⟩) ?_ ?_
      · rintro j x0 H5 H6 hj ⟨s5, hd5⟩ ⟨T1, u1, u2, rfl, hT1, rfl, e1, e2⟩
        obtain ⟨z1, c1, rfl⟩ := map_int e1
        obtain ⟨z2, c2, rfl⟩ := map_int e2
        have hDT : D ≠ T1 := fun z => by rw [z, hT1] at hd5; cases hd5
        have sT5 : Same _ (upd H5 T1 (.tup [.int z1, .int z2])) := s5.trans (AL.Same.new hT1)
        have vz2 : vl f j = z2 := vl_get c2
        have bz2 := bF f mf j
        rw [vz2] at bz2
        refine ⟨T1, _, rfl, SqT.of upd_same, rfl, _, _, rfl, _, _, rfl, rfl, rfl, ?_⟩
        refine ⟨_, rfl, _, rfl, _, rfl, _, _, rfl, rfl, wmul (by omega) (by omega), _, _, rfl, rfl, _, Eq.trans (upd_ne hDT) hd5, ?_, AL.Same.updn sT5 hD, ?_⟩
        · rw [List.length_map, List.length_take]
          exact Nat.lt_of_le_of_lt (by omega : _ ≤ 1000) (by decide)
        · have g : (comb 1 y (-qq) f)[j]? = some (z1 - qq * z2) := by
            unfold comb; rw [List.getElem?_zipWith, c1, c2]
            show some (1 * z1 + -qq * z2) = _
            rw [Int.one_mul, Int.neg_mul]; rfl
          rw [upd_same, List.take_add_one, g, List.map_append]
          rfl
      · rintro H5 ⟨s5, hd5⟩
        rw [List.take_of_length_le (by rw [comb_len hn]; exact Nat.le_refl _)] at hd5
        exact ⟨D, _, _, _, _, rfl, sT.trans s5, hd5, by rw [comb_len hn]; exact ly, st, bst⟩
    · rintro σ H3 ⟨la, y, v3, v4, v5, rfl, s3, hla, ly, hy, by_⟩
      rw [List.drop_length] at hy
      have y0 : ∀ j, vl y j = 0 := fun j => by
        have : ∀ z, Lat (inR []) z → z j = 0 := fun z h => by
          induction h with
          | mem h => obtain ⟨q, hq, _⟩ := h; exact nomatch hq
          | zero => rfl
          | lin m t _ _ i1 i2 => dsimp only; rw [i1, i2]; omega
        exact this _ hy
      refine ⟨_, rfl, la, rfl, ⟨_, SqL.of hla⟩, fun D hD => ?_⟩
      refine lc_list (K := K) (a := la) (xs := y.map V.int) (fun j H' => Same H3 H' ∧ H' D = some (.lst [])) ⟨AL.Same.new hD, upd_same⟩ (fun j H' _ hh => SqL.of (hh.1 _ _ hla)) ?_ ?_
      · rintro j x0 H4 hx0 ⟨s4, hd4⟩
        obtain ⟨z, hz, rfl⟩ := map_int hx0
        have e0 := y0 j
        rw [vl_get hz] at e0
        subst e0
        refine ⟨rfl, ?_⟩
        refine ⟨_, rfl, rfl, _, rfl, ?_⟩
        rw [show (!decide (V.int 0 = V.int 0)) = false from by rw [decide_eq_true rfl]; rfl]
        refine iteF ?_
        exact ⟨s4, hd4⟩
      rintro H4 ⟨s4, hd4⟩
      refine ⟨(by show 0 ≤ sizeLine; decide), fun e he => ?_⟩
      have ne_ := AL.Same.new (o := .lst []) he
      refine ⟨.list (([] : List Int).map PyData.int), .list (([] : List Int).map PyData.int), .lst (SqL.of (ne_ _ _ hd4)) .nil, .lst (SqL.of upd_same) .nil, shaped_intsL _, shaped_intsL _, ?_⟩
      rw [eqv_intsL, decide_eq_true rfl]
      exact q _ (s02.trans (s3.trans (s4.trans ne_)))
end
end AL
set_option Elab.async false
set_option maxRecDepth 100000
set_option exponentiation.threshold 70000
set_option maxHeartbeats 1000000
namespace AL
open PySem PySem.Spec PyProof.Rows L2 RZ
section
variable {P : Program} {w : World} {K : PySem.W.Frag} {mg : Str → Option Value} {base : Heap}

/-- a list of rows that is empty -/
theorem eq_none {K : PySem.W.Frag} {H : Hp} {D e : Addr} {Q : VK} (h1 : H D = some (.lst [])) (h2 : H e = some (.lst [])) (q : Q (.bl true) H) : rEqD K (.ref D) (.ref e) H Q := by
  refine ⟨.list (([] : List Int).map PyData.int), .list (([] : List Int).map PyData.int), .lst (SqL.of h1) .nil, .lst (SqL.of h2) .nil, shaped_intsL _, shaped_intsL _, ?_⟩
  rw [eqv_intsL, decide_eq_true rfl]
  exact q
/-- _law_same_lattice(one, other), both the same form -/
def spSl : Sp := fun vs H Q _ => ∃ (w u : Addr) (N m : Nat) (rows : List Rw), vs = [.ref w, .ref u] ∧ RowsV H w rows ∧ RowsV H u rows ∧ Hnf N rows ∧ rows.length ≤ 20 ∧ N ≤ 20 ∧ (∀ r ∈ rows, BdR (2 ^ m) r) ∧ (m + 1) * 22 < 12000 ∧ ∀ H', Same H H' → Q (.bl true) H'

abbrev st_law_same_lattice : Stmt := top 46
theorem sc_law_same_lattice : FnScope ["_law_one", "_law_other", "_law_row"] ["_law_one", "_law_other"] (defScope st_law_same_lattice) := ⟨rfl, rfl, rfl, by decide +kernel, rfl, by decide +kernel, by decide +kernel⟩
theorem ok_law_same_lattice (B : Blt mg)  {f_law_pivots : Addr} {fd_law_pivots : FuncData} (D_law_pivots : DefAt K mg "_law_pivots" st_law_pivots ["_law_rows"] f_law_pivots fd_law_pivots) {f_law_belongs : Addr} {fd_law_belongs : FuncData} (D_law_belongs : DefAt K mg "_law_belongs" st_law_belongs ["_law_basis", "_law_row"] f_law_belongs fd_law_belongs) {f_law_same_lattice : Addr} {fd_law_same_lattice : FuncData} (D_law_same_lattice : DefAt K mg "_law_same_lattice" st_law_same_lattice ["_law_one", "_law_other"] f_law_same_lattice fd_law_same_lattice) : FnOk P w K mg base CX0 3 f_law_same_lattice fd_law_same_lattice ["_law_one", "_law_other"] spSl := by
  have OK_law_belongs : FnOk P w K mg base CX0 2 f_law_belongs fd_law_belongs ["_law_basis", "_law_row"] spBl := ok_law_belongs B  D_law_pivots D_law_belongs
  refine D_law_same_lattice.F.ok sc_law_same_lattice (fun vs H Q E h => ?_) (fun cdv A outer s H vs Q E hr h => ?_)
  · obtain ⟨w, u, N, m, rows, rfl, _⟩ := h; rfl
  · have hu := hu_of hr
    refine ⟨_, (pss_cons (ps_if (pt_cmpR op_ne (pe_callB call_len_seq (by rfl) B.len_ (by decide +kernel) (pa_cons (pv 0) pa_nil)) (pe_callB call_len_seq (by rfl) B.len_ (by decide +kernel) (pa_cons (pv 1) pa_nil)) (nomark _)) (pss_one (ps_ret pe_bl)) pss_nil)
    (pss_one (ps_ret (pe_cmpR (op_eqD hr.units : OpR _ _ (rEqD K)) (pe_lc (own := [("_law_row", 2)]) (g := gName 2) rfl sc_law_same_lattice.nd (pi_tup (pv 0)) (blkOk_by (own := [("_law_row", 2)]) (N := ["_law_one", "_law_other", "_law_row"]) (sc := defScope st_law_same_lattice) (by decide +kernel)) (fun _ _ _ _ _ => (pg_name (i := 2) sc_law_same_lattice.nd rfl (Or.inl rfl))) (fun _ _ _ _ _ => (pts_one (pt_not (pt_val (pe_call OK_law_belongs (hr.mono (by decide)) rfl D_law_belongs.m D_law_belongs.F.kp D_law_belongs.b .nil pass0 (pa_cons (pv 1) (pa_cons (pv 2) pa_nil))))))) (fun _ _ _ _ _ => (pv 2))) (pe_lst pa_nil) (nomark _))))), ?_⟩
    obtain ⟨w, u, N, m, rows, rfl, hw, hu, hF, lr, lN, bF, sz, q⟩ := h
    obtain ⟨as, W1, W2⟩ := id hw
    obtain ⟨bs, U1, U2⟩ := id hu
    have las := prd_len W2
    have lbs := prd_len U2
    refine ⟨_, rfl, w, _, rfl, .inr (SqT.of W1), _, rfl, u, _, rfl, .inr (SqT.of U1), rfl, _, rfl, ?_⟩
    rw [show (!decide (V.int ((as.map V.ref).length : Nat) = V.int ((bs.map V.ref).length : Nat))) = false by rw [List.length_map, List.length_map, las, lbs, decide_eq_true rfl]; rfl]
    refine iteF ?_
    refine ⟨_, rfl, w, rfl, ⟨_, SqT.of W1⟩, fun D hD => ?_⟩
    refine lc_tup (K := K) (a := w) (xs := as.map V.ref) (fun j H' => Same H H' ∧ H' D = some (.lst [])) ⟨AL.Same.new hD, upd_same⟩ (fun j H' _ hh => SqT.of (hh.1 _ _ W1)) ?_ ?_
    · rintro j x0 H1 hx0 ⟨s1, hd⟩
      obtain ⟨a, ha, rfl⟩ := map_ref hx0
      obtain ⟨r, hr, hra⟩ := prd_get W2 ha
      have mr := List.mem_of_getElem? hr
      refine ⟨rfl, ?_⟩
      refine ⟨_, rfl, _, rfl, u, a, N, m, rows, r, rfl, hu.same s1, .inr (s1 _ _ hra), hF, hF.len r mr, .mem ⟨r, mr, rfl⟩, lr, lN, bF r mr, bF, sz, fun H2 s2 => ?_⟩
      refine ⟨true, rfl, ?_⟩
      refine iteF ?_
      exact ⟨s1.trans s2, s2 _ _ hd⟩
    rintro H1 ⟨s1, hd⟩
    refine ⟨(by show 0 ≤ sizeLine; decide), fun e he => ?_⟩
    have ne_ := AL.Same.new (o := .lst []) he
    exact eq_none (ne_ _ _ hd) upd_same (q _ (s1.trans ne_))
end
end AL
set_option Elab.async false
set_option maxRecDepth 100000
set_option exponentiation.threshold 70000
set_option maxHeartbeats 1000000
namespace AL
open PySem PySem.Spec PyProof.Rows L2 RZ
section
variable {P : Program} {w : World} {K : PySem.W.Frag} {mg : Str → Option Value} {base : Heap}
theorem erase_perm {α : Type} : ∀ (l : List α) (i : Nat) (h : i < l.length), (l[i] :: l.eraseIdx i).Perm l
  | _ :: _, 0, _ => List.Perm.refl _
  | x :: r, i + 1, h => (List.Perm.swap x _ _).trans ((erase_perm r i (by simpa using h)).cons x)
theorem seqIdx_nat {r : Int} {n : Nat} (h0 : 0 ≤ r) (h : r < (n : Int)) : seqIndex? r n = some r.toNat := by
  unfold seqIndex?
  simp only []
  split <;> simp_all <;> omega

theorem keep_upd {p : Addr} {H H' : Hp} {D : Addr} {o : HO} (k : Keep p H H') (h : H D = none) : Keep p H (upd H' D o) := fun b u n e => by
  rw [upd_ne (ne_of_none e h)]; exact k b u n e
theorem pen_upd {H : Hp} {p c : Addr} {m : Nat} {D : Addr} {o : HO} (P : Pen H p c m) (h1 : p ≠ D) (h2 : c ≠ D) : Pen (upd H D o) p c m := P.keep (fun u e => by rw [upd_ne h1]; exact e) fun u e => by rw [upd_ne h2]; exact e
theorem none_back8 {H H' : Hp} {D : Addr} (s : Same H H') (h : H' D = none) : H D = none := by
  cases e : H D with
  | none => rfl
  | some o => rw [s _ _ e] at h; cases h
/-- _law_shuffled(pen, some) -/
def spShuf : Sp := fun vs H Q _ => ∃ (p c a : Addr) (m : Nat) (xs : List V), vs = [.ref p, .ref a] ∧ Pen H p c m ∧ m < 800000000 ∧ H a = some (.lst xs) ∧ xs.length ≤ 100 ∧
  ∀ l ys H', H l = none → H' l = some (.lst ys) → ys.Perm xs → Pen H' p c (m + 100) → Keep p H H' → Q (.ref l) H'

abbrev st_law_shuffled : Stmt := top 44
theorem sc_law_shuffled : FnScope ["_law_pen_here", "_law_some", "_law_rest", "_law_found", "_law_lap"] ["_law_pen_here", "_law_some"] (defScope st_law_shuffled) := ⟨rfl, rfl, rfl, by decide +kernel, rfl, by decide +kernel, by decide +kernel⟩
theorem ok_law_shuffled (B : Blt mg)  {f_law_draw : Addr} {fd_law_draw : FuncData} (D_law_draw : DefAt K mg "_law_draw" st_law_draw ["_law_pen_here", "_law_many"] f_law_draw fd_law_draw) {f_law_shuffled : Addr} {fd_law_shuffled : FuncData} (D_law_shuffled : DefAt K mg "_law_shuffled" st_law_shuffled ["_law_pen_here", "_law_some"] f_law_shuffled fd_law_shuffled) : FnOk P w K mg base CX0 2 f_law_shuffled fd_law_shuffled ["_law_pen_here", "_law_some"] spShuf := by
  have OK_law_draw : FnOk P w K mg base CX0 1 f_law_draw fd_law_draw ["_law_pen_here", "_law_many"] spDraw := ok_law_draw B  D_law_draw
  refine D_law_shuffled.F.ok sc_law_shuffled (fun vs H Q E h => ?_) (fun cdv A outer s H vs Q E hr h => ?_)
  · obtain ⟨p, c, a, m, xs, rfl, _⟩ := h; rfl
  · have hu := hu_of hr
    refine ⟨_, (pss_cons (ps_par (i := 2) (j := 3) (by rfl) sc_law_shuffled.nd rfl rfl (by decide) rfl rfl (pa_cons (pe_callTy (call_listK : CallR _ _ (rListK K)) (by rfl) B.list_ (by decide +kernel) (pa_cons (pv 1) pa_nil)) (pa_cons (pe_lst pa_nil) pa_nil)) (by rfl))
    (pss_cons (ps_for PassesOwn.never rfl (pi_range1 rfl B.range_ (pa_cons (pe_callB call_len_seq (by rfl) B.len_ (by decide +kernel) (pa_cons (pv 1) pa_nil)) pa_nil)) (pg_name (i := 4) sc_law_shuffled.nd rfl (Or.inl rfl))
      (pss_one (ps_expr (pe_bm PySem.F.plainAttrs_list PySem.F.slot_list_append PySem.F.type_list_append mt_append (pv 3) (pa_cons (pe_bm PySem.F.plainAttrs_list PySem.F.slot_list_pop PySem.F.type_list_pop mt_popAt (pv 2) (pa_cons (pe_call OK_law_draw (hr.mono (by decide)) rfl D_law_draw.m D_law_draw.F.kp D_law_draw.b .nil pass0 (pa_cons (pv 0) (pa_cons (pe_callB call_len_seq (by rfl) B.len_ (by decide +kernel) (pa_cons (pv 2) pa_nil)) pa_nil))) pa_nil)) pa_nil)))))
    (pss_one (ps_ret (pv 3))))), ?_⟩
    obtain ⟨p, c, a, m, xs, rfl, P, hm, ha, hl, q⟩ := h
    refine ⟨_, rfl, a, xs, rfl, .inl (SqL.of ha), fun lr hlr => ⟨(by show 0 ≤ sizeLine; decide), fun lf hlf => ?_⟩⟩
    refine ⟨_, _, rfl, ?_⟩
    have n1 := AL.Same.new (o := .lst xs) hlr
    have n2 := AL.Same.new (o := .lst []) hlf
    have s2 := n1.trans n2
    have nrf : lr ≠ lf := fun e => by rw [← e, upd_same] at hlf; cases hlf
    have hf0 : H lf = none := none_back8 n1 hlf
    obtain ⟨pr, cr⟩ := pen_ne7 P hlr
    obtain ⟨pf, cf⟩ := pen_ne7 P hf0
    refine ⟨_, rfl, a, _, rfl, .inl (SqL.of (s2 _ _ ha)), _, rfl, by omega, by omega, ?_⟩
    refine for_range (lo := 0) (n := ((xs.length : Int)).toNat) (fun i σ H' => ∃ (v : Option V) (rest found : List V), σ = [some (.ref p), some (.ref a), some (.ref lr), some (.ref lf), v] ∧ Pen H' p c (m + i) ∧ Keep p H H' ∧ H' lr = some (.lst rest) ∧ H' lf = some (.lst found) ∧ rest.length = xs.length - i ∧ (found ++ rest).Perm xs) ⟨none, xs, [], rfl, (P.same s2).mono (by omega), same_k7 s2, n2 _ _ upd_same, upd_same, by omega, List.Perm.refl _⟩ ?_ ?_
    · rintro i σ H1 hi ⟨v, rest, found, rfl, P1, k1, h1, h2, l1, pm⟩
      have hi' : i < xs.length := by omega
      refine ⟨_, rfl, .inl ⟨rfl, _, SqL.of h2⟩, _, rfl, .inl ⟨rfl, _, SqL.of h1⟩, _, rfl, _, rfl, lr, _, rfl, .inl (SqL.of h1), p, c, m + i, _, rfl, P1, by omega, by omega, by omega, fun r H2 r0 r1 P2 kk => ?_⟩
      have h1' := kk.at P1 h1 (fun _ z => nomatch z)
      have h2' := kk.at P1 h2 (fun _ z => nomatch z)
      have rk : r.toNat < rest.length := by omega
      refine ⟨lr, rest, r, r.toNat, rest[r.toNat], rfl, rfl, h1', by omega, by omega, seqIdx_nat r0 (by omega), List.getElem?_eq_getElem rk, ?_⟩
      refine ⟨lf, found, _, rfl, rfl, by rw [upd_ne nrf.symm]; exact h2', ?_, ?_⟩
      · have := pm.length_eq
        rw [List.length_append] at this
        exact Nat.lt_of_le_of_lt (by omega : _ ≤ 100) (by decide)
      · refine ⟨_, rest.eraseIdx r.toNat, found ++ [rest[r.toNat]], rfl, (pen_upd (pen_upd P2 pr cr) pf cf).mono (by omega), keep_upd (keep_upd (k1.trans kk) hlr) hf0, by rw [upd_ne nrf]; exact upd_same, upd_same, by rw [List.length_eraseIdx_of_lt rk]; omega, ?_⟩
        rw [List.append_assoc]
        exact (List.Perm.append_left found (erase_perm _ _ rk)).trans pm
    · rintro σ H1 ⟨v, rest, found, rfl, P1, k1, h1, h2, l1, pm⟩
      have r0 : rest = [] := List.eq_nil_of_length_eq_zero (by omega)
      rw [r0, List.append_nil] at pm
      exact ⟨_, rfl, q lf found H1 hf0 h2 pm (P1.mono (by omega)) k1⟩
end
end AL
set_option Elab.async false
set_option maxRecDepth 100000
set_option exponentiation.threshold 70000
set_option maxHeartbeats 1000000
namespace AL
open PySem PySem.Spec PyProof.Rows L2 RZ
section
variable {P : Program} {w : World} {K : PySem.W.Frag} {mg : Str → Option Value} {base : Heap}
theorem sm_left (f : Nat → Int) : ∀ n : Nat, sm (n + 1) f = f 0 + sm n fun k => f (k + 1)
  | 0 => by show sm 0 f + f 0 = _; unfold sm; omega
  | n + 1 => by
    have ih := sm_left f n
    show sm (n + 1) f + f (n + 1) = _
    rw [ih]
    show _ = f 0 + (sm n _ + f (n + 1))
    omega
theorem dotI_sm : ∀ ns es : List Int, ns.length = es.length → dotI ns es = sm es.length fun k => ns.getD k 0 * es.getD k 0
  | [], [], _ => rfl
  | a :: ns, b :: es, h => by
    have ih := dotI_sm ns es (by simpa using h)
    rw [List.length_cons, sm_left]
    show _ = a * b + sm es.length fun k => ns.getD k 0 * es.getD k 0
    rw [← ih]
    unfold dotI
    rw [List.zipWith_cons_cons, List.sum_cons]
theorem sm_swap (n : Nat) (c : Nat → Int) (p : Nat → Int) (a : Nat → Nat → Int) : ∀ m : Nat, (sm n fun i => c i * sm m fun k => p k * a k i) = sm m fun k => p k * sm n fun i => c i * a k i
  | 0 => by
    rw [sm_congr (g := fun _ => 0) fun i _ => by unfold sm; exact Int.mul_zero _, sm_zero]; rfl
  | m + 1 => by
    have e : (sm n fun i => c i * sm (m + 1) fun k => p k * a k i) = sm n fun i => 1 * (c i * sm m fun k => p k * a k i) + p m * (c i * a m i) := sm_congr fun i _ => by
      show c i * (sm m _ + _) = _
      grind
    rw [e, sm_lin, sm_swap n c p a m, Int.one_mul]
    rfl
theorem atI_last {xs : List V} {x : V} (h : xs.getLast? = some x) : atI xs (-1) = some x := by
  rw [List.getLast?_eq_getElem?] at h
  obtain ⟨hl, _⟩ := List.getElem?_eq_some_iff.mp h
  unfold atI ixN
  rw [if_neg (by omega), if_pos (by omega)]
  show xs[((-1 : Int) + (xs.length : Int)).toNat]? = _
  rw [show ((-1 : Int) + (xs.length : Int)).toNat = xs.length - 1 by omega]
  exact h

/-- columns that hang on other columns, and those on them -/
def ColEq (N : Nat) (C C' : List Rw) : Prop := ∀ x : Nat → Int, (∀ c ∈ C, sm N (fun i => x i * vl c i) = 0) ↔ ∀ c ∈ C', sm N (fun i => x i * vl c i) = 0
theorem trM_at {n j : Nat} {rows : List Rw} (hj : j < n) : (trM n rows)[j]? = some (rows.map fun r => vl r j) := by
  unfold trM; rw [List.getElem?_map, List.getElem?_range hj]; rfl
theorem trM_getD {n j : Nat} {rows : List Rw} (hj : j < n) : (trM n rows).getD j [] = rows.map fun r => vl r j := by
  rw [List.getD_eq_getElem?_getD, trM_at hj]; rfl
theorem mapvl {C : List Rw} {d i : Nat} (hd : d < C.length) : vl (C.map fun q => vl q i) d = vl (C.getD d []) i := by
  rw [vl_get (by rw [List.getElem?_map, List.getElem?_eq_getElem hd]; rfl), List.getD_eq_getElem?_getD, List.getElem?_eq_getElem hd]; rfl
theorem trM_trM {N : Nat} {C : List Rw} (h : ∀ c ∈ C, c.length = N) : trM C.length (trM N C) = C := by
  refine List.ext_getElem? fun j => ?_
  by_cases hj : j < C.length
  · rw [trM_at hj, List.getElem?_eq_getElem hj]
    congr 1
    have lj := h _ (List.getElem_mem hj)
    refine vl_ext (by rw [List.length_map, trM_len, lj]) fun i => ?_
    by_cases hi : i < N
    · rw [mapvl (by rw [trM_len]; exact hi), trM_getD hi, mapvl hj, List.getD_eq_getElem?_getD, List.getElem?_eq_getElem hj]; rfl
    · rw [vl_out (by rw [List.length_map, trM_len]; omega), vl_out (by omega)]
  · rw [List.getElem?_eq_none (by rw [trM_len]; omega), List.getElem?_eq_none (by omega)]
theorem mmR_at {k N i : Nat} {C : List Rw} {r : Rw} (lr : r.length = k) (lC : C.length = k) (hi : i < N) : vl (mmR N C r) i = sm k fun d => vl r d * vl (C.getD d []) i := by
  rw [vl_get (x := mmR N C r) (v := dotI r (C.map fun q => vl q i)) (by unfold mmR; rw [List.getElem?_map, trM_at hi]; rfl), dotI_sm _ _ (by rw [List.length_map]; omega), List.length_map, lC]
  exact sm_congr fun d hd => by rw [show (C.map fun q => vl q i).getD d 0 = vl (C.map fun q => vl q i) d from rfl, mapvl (by omega)]; rfl
theorem mm_sm {k N : Nat} {C : List Rw} {r : Rw} (lr : r.length = k) (lC : C.length = k) (x : Nat → Int) : (sm N fun i => x i * vl (mmR N C r) i) = sm k fun d => vl r d * sm N fun i => x i * vl (C.getD d []) i := by
  rw [sm_congr (g := fun i => x i * sm k fun d => vl r d * vl (C.getD d []) i) fun i hi => by rw [mmR_at lr lC hi], sm_swap N x (fun d => vl r d) (fun d i => vl (C.getD d []) i) k]
theorem col_mm {N n e : Nat} {C U : List Rw} (lC : C.length = n) (u : Uni n e U) : ColEq N C (U.map (mmR N C)) := fun x => by
  constructor
  · intro h c hc
    obtain ⟨r, hr, rfl⟩ := List.mem_map.mp hc
    rw [mm_sm (u.rl r hr) lC, sm_congr (g := fun _ => 0) fun d hd => by rw [h _ (getD_in (by omega)), Int.mul_zero], sm_zero]
  · intro h c hc
    obtain ⟨d, hd⟩ := List.mem_iff_getElem?.mp hc
    have dl := (List.getElem?_eq_some_iff.mp hd).1
    have gd : C.getD d [] = c := by rw [List.getD_eq_getElem?_getD, hd]; rfl
    have key : ∀ y, Lat (inR U) y → (sm n fun t => y t * sm N fun i => x i * vl (C.getD t []) i) = 0 := fun y hy => by
      induction hy with
      | mem hy =>
        obtain ⟨r, hr, rfl⟩ := hy
        rw [← mm_sm (u.rl r hr) lC]
        exact h _ (List.mem_map.mpr ⟨r, hr, rfl⟩)
      | zero => rw [sm_congr (g := fun _ => 0) fun t _ => Int.zero_mul _, sm_zero]
      | @lin y1 y2 a b _ _ i1 i2 =>
        have e : (sm n fun t => (a * y1 t + b * y2 t) * sm N fun i => x i * vl (C.getD t []) i) = a * (sm n fun t => y1 t * sm N fun i => x i * vl (C.getD t []) i) + b * sm n fun t => y2 t * sm N fun i => x i * vl (C.getD t []) i := by
          rw [← sm_lin]; exact sm_congr fun t _ => by grind
        rw [e, i1, i2]; omega
    have := key _ (u.gn.2 (unitR n d) (List.mem_map.mpr ⟨d, List.mem_range.mpr (by omega), rfl⟩))
    rw [sm_one (k := d) (by omega) fun t ht ne => by rw [unitR_at ht, if_neg ne, Int.zero_mul], unitR_at (by omega), if_pos rfl, Int.one_mul, gd] at this
    exact this
theorem ColEq.refl (N : Nat) (C : List Rw) : ColEq N C C := fun _ => Iff.rfl
theorem col_by {N : Nat} {c : Rw} {C : List Rw} {b : Int} (hb : b ≠ 0) : ColEq N (c :: C) (c.map (fun v => b * v) :: C) := fun x => by
  have e : (sm N fun i => x i * vl (c.map fun v => b * v) i) = b * (sm N fun i => x i * vl c i) + 0 * sm N fun _ => 0 := by
    rw [← sm_lin]; exact sm_congr fun i _ => by rw [vl_map (f := fun v => b * v) (Int.mul_zero b)]; grind
  rw [Int.zero_mul, Int.add_zero] at e
  refine ⟨fun h k hk => ?_, fun h k hk => ?_⟩
  · rcases List.mem_cons.mp hk with rfl | hk
    · rw [e, h c (List.mem_cons_self ..), Int.mul_zero]
    · exact h k (List.mem_cons_of_mem _ hk)
  · rcases List.mem_cons.mp hk with rfl | hk
    · have := h _ (List.mem_cons_self ..)
      rw [e] at this
      exact (Int.mul_eq_zero.mp this).resolve_left hb
    · exact h k (List.mem_cons_of_mem _ hk)
theorem col_more {N : Nat} {C : List Rw} {d : Rw} (h : ∀ x : Nat → Int, (∀ c ∈ C, sm N (fun i => x i * vl c i) = 0) → sm N (fun i => x i * vl d i) = 0) : ColEq N C (C ++ [d]) := fun x => by
  refine ⟨fun k c hc => ?_, fun k c hc => k c (List.mem_append_left _ hc)⟩
  rcases List.mem_append.mp hc with hc | hc
  · exact k c hc
  · rw [List.mem_singleton.mp hc]; exact h x k
/-- what the columns are after some ways -/
structure TuOk (N k v : Nat) (C C' : List Rw) : Prop where
  eq : ColEq N C C'
  len : ∀ c ∈ C', c.length = N
  one : 1 ≤ C'.length
  bd : C'.length ≤ 3 ∧ (∀ c ∈ C', ∀ x ∈ c, x.natAbs ≤ 7864320) ∨ C'.length ≤ 4 ∧ ∀ c ∈ C', ∀ x ∈ c, x.natAbs ≤ 3200
  no : k ≤ v → C' = C
theorem TuOk.next {N k v : Nat} {C C' : List Rw} (h : TuOk N k v C C') : TuOk N (k + 1) v C C' := ⟨h.eq, h.len, h.one, h.bd, fun w => h.no (by omega)⟩
/-- _law_turned_units(pen, rows) -/
def spTu : Sp := fun vs H Q _ => ∃ (p c w : Addr) (m n : Nat) (rows : List Rw), vs = [.ref p, .ref w] ∧ Pen H p c m ∧ m < 600000000 ∧ RowsZ H w rows ∧ rows ≠ [] ∧ rows.length ≤ 6 ∧ (∀ r ∈ rows, r.length = n) ∧ 1 ≤ n ∧ n ≤ 3 ∧ (∀ r ∈ rows, ∀ v ∈ r, v.natAbs ≤ 640) ∧
  ∀ u H' n' T, Pen H' p c (m + 200) → Keep p H H' → RowsZ H' u T → T.length = rows.length → (∀ r ∈ T, r.length = n') → 1 ≤ n' → (n' ≤ 3 ∧ (∀ r ∈ T, ∀ v ∈ r, v.natAbs ≤ 7864320) ∨ n' ≤ 4 ∧ ∀ r ∈ T, ∀ v ∈ r, v.natAbs ≤ 3200) → ColEq rows.length (trM n rows) (trM n' T) → Q (.ref u) H'

abbrev st_law_turned_units : Stmt := top 45
theorem sc_law_turned_units : FnScope ["_law_pen_here", "_law_rows", "_law_columns", "_law_way", "_law_by", "_law_item", "_law_a", "_law_b"] ["_law_pen_here", "_law_rows"] (defScope st_law_turned_units) := ⟨rfl, rfl, rfl, by decide +kernel, rfl, by decide +kernel, by decide +kernel⟩
theorem ok_law_turned_units (B : Blt mg)  {f_law_draw : Addr} {fd_law_draw : FuncData} (D_law_draw : DefAt K mg "_law_draw" st_law_draw ["_law_pen_here", "_law_many"] f_law_draw fd_law_draw) {f_law_inner : Addr} {fd_law_inner : FuncData} (D_law_inner : DefAt K mg "_law_inner" st_law_inner ["_law_row", "_law_column"] f_law_inner fd_law_inner) {f_law_turned : Addr} {fd_law_turned : FuncData} (D_law_turned : DefAt K mg "_law_turned" st_law_turned ["_law_rows"] f_law_turned fd_law_turned) {f_law_matmul : Addr} {fd_law_matmul : FuncData} (D_law_matmul : DefAt K mg "_law_matmul" st_law_matmul ["_law_one", "_law_two"] f_law_matmul fd_law_matmul) {f_law_pick : Addr} {fd_law_pick : FuncData} (D_law_pick : DefAt K mg "_law_pick" st_law_pick ["_law_pen_here", "_law_some"] f_law_pick fd_law_pick) {f_law_unit : Addr} {fd_law_unit : FuncData} (D_law_unit : DefAt K mg "_law_unit" st_law_unit ["_law_many"] f_law_unit fd_law_unit) {f_law_unimodular : Addr} {fd_law_unimodular : FuncData} (D_law_unimodular : DefAt K mg "_law_unimodular" st_law_unimodular ["_law_pen_here", "_law_many", "_law_steps"] f_law_unimodular fd_law_unimodular) {f_law_turned_units : Addr} {fd_law_turned_units : FuncData} (D_law_turned_units : DefAt K mg "_law_turned_units" st_law_turned_units ["_law_pen_here", "_law_rows"] f_law_turned_units fd_law_turned_units) : FnOk P w K mg base CX0 4 f_law_turned_units fd_law_turned_units ["_law_pen_here", "_law_rows"] spTu := by
  have OK_law_draw : FnOk P w K mg base CX0 1 f_law_draw fd_law_draw ["_law_pen_here", "_law_many"] spDraw := ok_law_draw B  D_law_draw
  have OK_law_matmul : FnOk P w K mg base CX0 2 f_law_matmul fd_law_matmul ["_law_one", "_law_two"] spMm := ok_law_matmul B  D_law_inner D_law_turned D_law_matmul
  have OK_law_pick : FnOk P w K mg base CX0 2 f_law_pick fd_law_pick ["_law_pen_here", "_law_some"] (spPick K) := ok_law_pick B  D_law_draw D_law_pick
  have OK_law_turned : FnOk P w K mg base CX0 1 f_law_turned fd_law_turned ["_law_rows"] spTr := ok_law_turned B  D_law_turned
  have OK_law_unimodular : FnOk P w K mg base CX0 3 f_law_unimodular fd_law_unimodular ["_law_pen_here", "_law_many", "_law_steps"] spUm := ok_law_unimodular B  D_law_draw D_law_pick D_law_unit D_law_unimodular
  refine D_law_turned_units.F.ok sc_law_turned_units (fun vs H Q E h => ?_) (fun cdv A outer s H vs Q E hr h => ?_)
  · obtain ⟨p, c, w, m, n, rows, rfl, _⟩ := h; rfl
  · have hu := hu_of hr
    refine ⟨_, (pss_cons (ps_asg (pe_call OK_law_turned (hr.mono (by decide)) rfl D_law_turned.m D_law_turned.F.kp D_law_turned.b .nil pass0 (pa_cons (pv 1) pa_nil)) (pg_name (i := 2) sc_law_turned_units.nd rfl (Or.inl rfl)))
    (pss_cons (ps_asg (pe_call OK_law_draw (hr.mono (by decide)) rfl D_law_draw.m D_law_draw.F.kp D_law_draw.b .nil pass0 (pa_cons (pv 0) (pa_cons pe_int pa_nil))) (pg_name (i := 3) sc_law_turned_units.nd rfl (Or.inl rfl)))
    (Evl.pss_cut (ps_if (pt_cmpR op_eq (pv 3) pe_int (nomark _)) (pss_one (ps_asg (pe_call OK_law_matmul (hr.mono (by decide)) rfl D_law_matmul.m D_law_matmul.F.kp D_law_matmul.b .nil pass0 (pa_cons (pe_call OK_law_unimodular (hr.mono (by decide)) rfl D_law_unimodular.m D_law_unimodular.F.kp D_law_unimodular.b .nil pass0 (pa_cons (pv 0) (pa_cons (pe_callB call_len_seq (by rfl) B.len_ (by decide +kernel) (pa_cons (pv 2) pa_nil)) (pa_cons pe_int pa_nil)))) (pa_cons (pv 2) pa_nil))) (pg_name (i := 2) sc_law_turned_units.nd rfl (Or.inl rfl)))) pss_nil)
    (Evl.pss_cut (ps_if (pt_cmpR op_eq (pv 3) pe_int (nomark _)) (pss_cons (ps_asg (pe_call OK_law_pick (hr.mono (by decide)) rfl D_law_pick.m D_law_pick.F.kp D_law_pick.b .nil pass0 (pa_cons (pv 0) (pa_cons (pe_lst (pa_cons pe_int (pa_cons pe_int (pa_cons (pe_un un_neg pe_int) pa_nil)))) pa_nil))) (pg_name (i := 4) sc_law_turned_units.nd rfl (Or.inr rfl)))
    (pss_one (ps_asg (pe_op op_cat (pe_lst (pa_cons (pe_lc (own := [("_law_item", 5)]) (g := gName 5) (tt := tYes) rfl sc_law_turned_units.nd (pi_list (pe_ix (ix_list : IxR _ (rIxL K)) (pv 2) pe_int (fun _ _ => rfl))) (blkOk_by (own := [("_law_item", 5)]) (N := ["_law_pen_here", "_law_rows", "_law_columns", "_law_way", "_law_by", "_law_item", "_law_a", "_law_b"]) (sc := defScope st_law_turned_units) (by decide +kernel)) (fun _ _ _ _ _ => (pg_name (i := 5) sc_law_turned_units.nd rfl (Or.inl rfl))) (fun _ _ _ _ _ => pts_nil) (fun _ _ _ _ _ => (pe_op op_mulW (pv 4) (pv 5)))) pa_nil)) (pe_slice sl_list (pv 2) (po_some pe_int) po_none)) (pg_name (i := 2) sc_law_turned_units.nd rfl (Or.inl rfl))))) pss_nil)
    (Evl.pss_cut (ps_if (pt_cmpR op_eq (pv 3) pe_int (nomark _)) (pss_one (ps_asg (pe_op op_cat (pv 2) (pe_lst (pa_cons (pe_op op_rep (pe_lst (pa_cons pe_int pa_nil)) (pe_callB call_len_seq (by rfl) B.len_ (by decide +kernel) (pa_cons (pv 1) pa_nil))) pa_nil))) (pg_name (i := 2) sc_law_turned_units.nd rfl (Or.inl rfl)))) pss_nil)
    (Evl.pss_cut (ps_if (pt_cmpR op_eq (pv 3) pe_int (nomark _)) (pss_one (ps_asg (pe_op op_cat (pv 2) (pe_lst (pa_cons (pe_lc (own := [("_law_a", 6), ("_law_b", 7)]) (g := (gTup K 2 (gCons (gName 6) (gCons (gName 7) gNil)))) (tt := tYes) rfl sc_law_turned_units.nd (pi_zip (by rfl) B.zip_ (pa_cons (pe_ix (ix_list : IxR _ (rIxL K)) (pv 2) pe_int (fun _ _ => rfl)) (pa_cons (pe_ix (ix_list : IxR _ (rIxL K)) (pv 2) (pe_un un_neg pe_int) (fun _ _ => rfl)) pa_nil))) (blkOk_by (own := [("_law_a", 6), ("_law_b", 7)]) (N := ["_law_pen_here", "_law_rows", "_law_columns", "_law_way", "_law_by", "_law_item", "_law_a", "_law_b"]) (sc := defScope st_law_turned_units) (by decide +kernel)) (fun _ _ _ _ _ => (pg_tup rfl (pgs_cons (pg_name (i := 6) sc_law_turned_units.nd rfl (Or.inl rfl)) (pgs_cons (pg_name (i := 7) sc_law_turned_units.nd rfl (Or.inl rfl)) pgs_nil)))) (fun _ _ _ _ _ => pts_nil) (fun _ _ _ _ _ => (pe_op op_sub (pv 6) (pe_op op_mulW pe_int (pv 7))))) pa_nil))) (pg_name (i := 2) sc_law_turned_units.nd rfl (Or.inl rfl)))) pss_nil)
    (pss_one (ps_ret (pe_call OK_law_turned (hr.mono (by decide)) rfl D_law_turned.m D_law_turned.F.kp D_law_turned.b .nil pass0 (pa_cons (pv 2) pa_nil)))))))))), ?_⟩
    obtain ⟨p, c, w, m, n, rows, rfl, P, hm, hw, ne, lr, hl, n1, n3, hB, q⟩ := h
    refine ⟨_, rfl, w, n, rows, rfl, RowsZ.toT hw, ne, hl, by omega, by omega, fun C0 H1 hC0 s1 hC1 => ?_⟩
    have P1 := P.same s1
    have k1 : Keep p H H1 := same_k7 s1
    clear hC0 s1
    refine ⟨_, rfl, p, c, _, (4 : Int), rfl, P1, by omega, by decide, by decide, fun way H2 v0 v1 P2 k2 => ?_⟩
    obtain ⟨v, hv⟩ : ∃ v : Nat, way = (v : Int) := ⟨way.toNat, by omega⟩
    subst hv
    have lC := trM_len n rows
    have tc : ∀ c ∈ trM n rows, c.length = rows.length := fun c hc => (trM_row hc).1
    have tb : ∀ c ∈ trM n rows, ∀ x ∈ c, x.natAbs ≤ 640 := trM_bd hB
    have hC2 : RowsZ H2 C0 (trM n rows) := by
      obtain ⟨as, h1, h2⟩ := hC1
      exact ⟨as, k2.at P1 h1 (fun _ z => nomatch z), paired_mono h2 fun _ _ z => k2.at P1 z (fun _ z => nomatch z)⟩
    have k02 := k1.trans k2
    have ok0 : TuOk rows.length 0 v (trM n rows) (trM n rows) := ⟨.refl _ _, tc, by omega, .inl ⟨by omega, fun c hc x hx => Nat.le_trans (tb c hc x hx) (by decide)⟩, fun _ => rfl⟩
    let inv : Nat → L2.St → Hp → Prop := fun k σ' H' => ∃ (u : Addr) (C' : List Rw) (v4 v5 v6 v7 : Option V), σ' = [some (.ref p), some (.ref w), some (.ref u), some (.int (v : Int)), v4, v5, v6, v7] ∧ Pen H' p c (m + 2 + 30 * k) ∧ Keep p H H' ∧ RowsZ H' u C' ∧ TuOk rows.length k v (trM n rows) C'
    refine ⟨inv 1, ?_, ?_⟩
    · refine ⟨_, rfl, rfl, _, rfl, ?_⟩
      by_cases w0 : v = 0
      · rw [decide_eq_true (by rw [w0]; rfl)]
        refine iteT ?_
        obtain ⟨as, A1, A2⟩ := id hC2
        have las := prd_len A2
        refine ⟨_, rfl, _, rfl, C0, _, rfl, .inl (SqL.of A1), ?_⟩
        rw [List.length_map, las, lC]
        refine ⟨p, c, m + 1, n, 6, rfl, P2, by omega, n1, by omega, by omega, fun uw H4 U P4 k4 hU u => ?_⟩
        have hC4 : RowsZ H4 C0 (trM n rows) := ⟨as, k4.at P2 A1 (fun _ z => nomatch z), paired_mono A2 fun _ _ z => k4.at P2 z (fun _ z => nomatch z)⟩
        refine ⟨_, rfl, uw, C0, n, rows.length, U, trM n rows, rfl, hU, hC4, lC, tc, u.rl, n1, by omega, by omega, by rw [u.len]; omega, fun r hr y hy => Nat.lt_of_le_of_lt (u.bd r hr y hy) (by decide), fun r hr y hy => Nat.lt_of_le_of_lt (tb r hr y hy) (by decide), fun D H5 hD s5 hR => ?_⟩
        refine ⟨D, U.map (mmR rows.length (trM n rows)), _, _, _, _, rfl, (P4.same s5).mono (by omega), (k02.trans k4).trans (same_k7 s5), hR, col_mm lC u, fun c hc => ?_, by rw [List.length_map, u.len]; exact n1, .inl ⟨by rw [List.length_map, u.len]; exact n3, fun c hc y hy => ?_⟩, fun w => absurd w (by omega)⟩
        · obtain ⟨r, _, rfl⟩ := List.mem_map.mp hc
          exact mmR_len _ _ _
        · obtain ⟨r, hr, rfl⟩ := List.mem_map.mp hc
          unfold mmR at hy
          obtain ⟨k, hk, rfl⟩ := List.mem_map.mp hy
          obtain ⟨lk, i, hi, ek⟩ := trM_row hk
          have := dotI_bd (r := r) (k := k) (b := 4 ^ 6) (c := 640) (u.bd r hr) fun y hy => by
            rw [ek] at hy
            obtain ⟨q, hq, rfl⟩ := List.mem_map.mp hy
            exact bd_len (W := 0).mpr (tb q hq) i
          rw [u.rl r hr] at this
          have h3 : n * (4 ^ 6 * 640) ≤ 3 * (4 ^ 6 * 640) := Nat.mul_le_mul_right _ n3
          exact Nat.le_trans this (Nat.le_trans h3 (by decide))
      · rw [decide_eq_false (fun z => w0 (by injection z with z; omega))]
        refine iteF ?_
        exact ⟨C0, _, _, _, _, _, rfl, P2.mono (by omega), k02, hC2, ok0.next⟩
    rintro σ' H3 ⟨u, C', v4, v5, v6, v7, rfl, P3, k3, hC3, ok⟩
    refine ⟨inv 2, ?_, ?_⟩
    · refine ⟨_, rfl, rfl, _, rfl, ?_⟩
      by_cases w0 : v = 1
      · rw [decide_eq_true (by rw [w0]; rfl)]
        refine iteT ?_
        obtain rfl := ok.no (by omega)
        obtain ⟨c0, C1, eC⟩ : ∃ c0 C1, trM n rows = c0 :: C1 := by
          cases h : trM n rows with
          | nil => rw [h] at lC; simp at lC; omega
          | cons a b => exact ⟨a, b, rfl⟩
        rw [eC] at hC3 tc tb lC
        obtain ⟨as0, A1, A2⟩ := hC3
        obtain ⟨a0, as, rfl⟩ : ∃ a0 as, as0 = a0 :: as := by
          cases as0 with
          | nil => cases A2
          | cons a b => exact ⟨a, b, rfl⟩
        have las := prd_len A2
        rw [List.length_cons, lC] at las
        have l0 := tc c0 (List.mem_cons_self ..)
        refine ⟨_, rfl, _, rfl, (by show 3 ≤ sizeLine; decide), fun lp hlp => ?_⟩
        have nlp := AL.Same.new (o := .lst [.int 2, .int 3, .int (-5)]) hlp
        refine ⟨p, c, lp, _, _, rfl, P3.same nlp, by omega, SqL.of upd_same, (by show 0 < 3; decide), (by show 3 < 1000000000; decide), fun jx x H4 hx P4 k4 => ?_⟩
        obtain ⟨z, rfl, z0, z5⟩ : ∃ s : Int, x = V.int s ∧ s ≠ 0 ∧ s.natAbs ≤ 5 := by
          refine pick_of (P := fun x => ∃ s : Int, x = V.int s ∧ s ≠ 0 ∧ s.natAbs ≤ 5) (fun y hy => ?_) hx
          simp only [List.mem_cons, List.not_mem_nil, or_false] at hy
          rcases hy with rfl | rfl | rfl <;> exact ⟨_, rfl, by decide, by decide⟩
        have k34 := (same_k7 (p := p) nlp).trans k4
        have A4 := k34.at P3 A1 (fun _ z => nomatch z)
        have p4 := paired_mono A2 fun _ _ z => k34.at P3 z (fun _ z => nomatch z)
        have ha0 : LI H4 a0 c0 := by cases p4 with | cons z _ => exact z
        have pas : Paired (fun a r => H4 a = some (.lst (r.map V.int))) as C1 := by cases p4 with | cons _ z => exact z
        have g0 : atI ((a0 :: as).map V.ref) 0 = some (.ref a0) := atI_of (by rw [List.length_map, List.length_cons]; omega : 0 < _)
        refine ⟨_, rfl, u, _, _, _, rfl, rfl, SqL.of A4, g0, a0, rfl, ⟨_, SqL.of ha0⟩, fun D hD => ?_⟩
        refine lc_list (K := K) (a := a0) (xs := c0.map V.int) (fun j H' => Same H4 H' ∧ H' D = some (.lst (((c0.map fun v => z * v).take j).map V.int))) ⟨AL.Same.new hD, upd_same⟩ (fun j H' _ hh => SqL.of (hh.1 _ _ ha0)) ?_ ?_
        · rintro j x H5 hx ⟨s5, hd⟩
          obtain ⟨y, hy, rfl⟩ := map_int hx
          have jl := (List.getElem?_eq_some_iff.mp hy).1
          have yb := tb c0 (List.mem_cons_self ..) y (List.mem_of_getElem? hy)
          refine ⟨rfl, ?_⟩
          refine ⟨_, rfl, _, rfl, _, _, rfl, rfl, wide_mul (a := 60) (b := 60) (by omega) (by omega) (by decide) (by decide) (by decide), _, hd, ?_, AL.Same.updn s5 hD, ?_⟩
          · rw [List.length_map, List.length_take, List.length_map]; exact Nat.lt_of_lt_of_le (by omega : _ < 9) (by decide)
          · rw [upd_same, List.take_add_one, List.getElem?_map, hy, List.map_append]; rfl
        rintro H5 ⟨s5, hd⟩
        rw [List.take_of_length_le (by rw [List.length_map, List.length_map]; exact Nat.le_refl _)] at hd
        refine ⟨(by show 1 ≤ sizeLine; decide), fun l3 hl3 => ?_⟩
        have n3_ := AL.Same.new (o := .lst [.ref D]) hl3
        have s35 := s5.trans n3_
        refine ⟨_, rfl, _, rfl, u, _, rfl, SqL.of (s35 _ _ A4), fun pS hpS => ?_⟩
        rw [show cutV ((a0 :: as).map V.ref) (some (1 : Int)) none = ((a0 :: as).map V.ref).drop 1 from cutV_from 1]
        have nS := AL.Same.new (o := .lst (as.map V.ref)) hpS
        have hS : upd (upd H5 l3 (.lst [.ref D])) pS (.lst (((a0 :: as).map V.ref).drop 1)) pS = some (.lst (as.map V.ref)) := upd_same
        have h3 : upd (upd H5 l3 (.lst [.ref D])) pS (.lst (((a0 :: as).map V.ref).drop 1)) l3 = some (.lst [.ref D]) := nS _ _ upd_same
        refine ⟨l3, pS, _, _, rfl, rfl, h3, hS, ?_, fun R hR => ?_⟩
        · rw [List.length_map]; exact Nat.le_of_lt (Nat.lt_of_le_of_lt (show 1 + as.length ≤ 1000 by omega) (by decide))
        have nR := AL.Same.new (o := .lst ([V.ref D] ++ as.map V.ref)) hR
        have s6 := s35.trans (nS.trans nR)
        have hd6 := (n3_.trans (nS.trans nR)) _ _ hd
        refine ⟨R, c0.map (fun v => z * v) :: C1, _, _, _, _, rfl, (P4.same s6).mono (by omega), (k3.trans k34).trans (same_k7 s6), ⟨D :: as, upd_same, .cons hd6 (paired_mono pas fun _ _ z => s6 _ _ z)⟩, by rw [eC]; exact col_by z0, fun c hc => ?_, by rw [List.length_cons]; omega, .inr ⟨by rw [List.length_cons] at lC ⊢; omega, fun c hc y hy => ?_⟩, fun w => absurd w (by omega)⟩
        · rcases List.mem_cons.mp hc with rfl | hc
          · rw [List.length_map]; exact l0
          · exact tc c (List.mem_cons_of_mem _ hc)
        · rcases List.mem_cons.mp hc with rfl | hc
          · obtain ⟨v0, hv0, rfl⟩ := List.mem_map.mp hy
            have := tb c0 (List.mem_cons_self ..) v0 hv0
            rw [Int.natAbs_mul]
            exact Nat.le_trans (Nat.mul_le_mul z5 this) (by decide)
          · exact Nat.le_trans (tb c (List.mem_cons_of_mem _ hc) y hy) (by decide)
      · rw [decide_eq_false (fun z => w0 (by injection z with z; omega))]
        refine iteF ?_
        exact ⟨u, _, _, _, _, _, rfl, P3.mono (by omega), k3, hC3, ok.next⟩
    clear hC3 ok P3 k3 hC2
    rintro σ' H3 ⟨u, C', v4, v5, v6, v7, rfl, P3, k3, hC3, ok⟩
    refine ⟨inv 3, ?_, ?_⟩
    · refine ⟨_, rfl, rfl, _, rfl, ?_⟩
      by_cases w0 : v = 2
      · rw [decide_eq_true (by rw [w0]; rfl)]
        refine iteT ?_
        obtain rfl := ok.no (by omega)
        obtain ⟨as, A1, A2⟩ := hC3
        obtain ⟨ws, W1, W2⟩ := hw
        have las := prd_len A2
        have lws := prd_len W2
        have W3 := k3.at P W1 (fun _ z => nomatch z)
        refine ⟨_, rfl, (by show 1 ≤ sizeLine; decide), fun z1 hz1 => ?_⟩
        have n1_ := AL.Same.new (o := .lst [.int 0]) hz1
        refine ⟨_, rfl, w, _, rfl, .inl (SqL.of (n1_ _ _ W3)), ?_⟩
        rw [List.length_map, lws]
        refine ⟨z1, _, _, rfl, rfl, upd_same, by omega, by omega, ?_, fun zq hzq => ?_⟩
        · rw [Int.toNat_natCast]; show 1 * rows.length ≤ _; exact Nat.le_of_lt (Nat.lt_of_le_of_lt (by omega : _ ≤ 1000) (by decide))
        have nz := AL.Same.new (o := .lst (List.replicate ((rows.length : Nat) : Int).toNat [V.int 0]).flatten) hzq
        have hzq1 : upd (upd H3 z1 (.lst [.int 0])) zq (.lst (List.replicate ((rows.length : Nat) : Int).toNat [V.int 0]).flatten) zq = some (.lst ((List.replicate rows.length (0 : Int)).map V.int)) := by
          rw [upd_same, Int.toNat_natCast, List.flatten_replicate_singleton, List.map_replicate]
        have sz := n1_.trans nz
        generalize upd (upd H3 z1 (.lst [.int 0])) zq (.lst (List.replicate ((rows.length : Nat) : Int).toNat [V.int 0]).flatten) = H4 at sz hzq1 ⊢
        refine ⟨(by show 1 ≤ sizeLine; decide), fun l4 hl4 => ?_⟩
        have n4 := AL.Same.new (o := .lst [.ref zq]) hl4
        have s4 := sz.trans n4
        refine ⟨u, l4, _, _, rfl, rfl, s4 _ _ A1, upd_same, ?_, fun R hR => ?_⟩
        · rw [List.length_map, las]; exact Nat.le_of_lt (Nat.lt_of_le_of_lt (show (trM n rows).length + 1 ≤ 1000 by omega) (by decide))
        have nR := AL.Same.new (o := .lst (as.map V.ref ++ [V.ref zq])) hR
        have s6 := s4.trans nR
        refine ⟨R, trM n rows ++ [List.replicate rows.length 0], _, _, _, _, rfl, (P3.same s6).mono (by omega), k3.trans (same_k7 s6), ⟨as ++ [zq], by rw [upd_same, List.map_append]; rfl, prd_snoc (paired_mono A2 fun _ _ z => s6 _ _ z) ((n4.trans nR) _ _ hzq1)⟩, col_more fun x _ => ?_, fun c hc => ?_, by rw [List.length_append, List.length_singleton]; omega, .inr ⟨by rw [List.length_append, List.length_singleton]; omega, fun c hc y hy => ?_⟩, fun w => absurd w (by omega)⟩
        · rw [sm_congr (g := fun _ => 0) fun i _ => by
            rw [show vl (List.replicate rows.length 0) i = 0 by unfold vl; rw [List.getD_eq_getElem?_getD, List.getElem?_replicate]; split <;> rfl, Int.mul_zero], sm_zero]
        · rcases List.mem_append.mp hc with hc | hc
          · exact tc c hc
          · rw [List.mem_singleton.mp hc]; exact List.length_replicate
        · rcases List.mem_append.mp hc with hc | hc
          · exact Nat.le_trans (tb c hc y hy) (by decide)
          · rw [List.mem_singleton.mp hc] at hy
            rw [(List.mem_replicate.mp hy).2]; exact Nat.zero_le _
      · rw [decide_eq_false (fun z => w0 (by injection z with z; omega))]
        refine iteF ?_
        exact ⟨u, _, _, _, _, _, rfl, P3.mono (by omega), k3, hC3, ok.next⟩
    clear hC3 ok P3 k3
    rintro σ' H3 ⟨u, C', v4, v5, v6, v7, rfl, P3, k3, hC3, ok⟩
    refine ⟨inv 4, ?_, ?_⟩
    · refine ⟨_, rfl, rfl, _, rfl, ?_⟩
      by_cases w0 : v = 3
      · rw [decide_eq_true (by rw [w0]; rfl)]
        refine iteT ?_
        obtain rfl := ok.no (by omega)
        obtain ⟨as, A1, A2⟩ := hC3
        have las := prd_len A2
        have cg : ∀ i, i < n → ∃ a, as[i]? = some a ∧ H3 a = some (.lst (((trM n rows).getD i []).map V.int)) := fun i hi => by
          have il : i < as.length := by omega
          obtain ⟨r, hr, hra⟩ := prd_get A2 (List.getElem?_eq_getElem il)
          refine ⟨_, List.getElem?_eq_getElem il, ?_⟩
          rw [List.getD_eq_getElem?_getD, hr]; exact hra
        obtain ⟨a0, e0, ha0⟩ := cg 0 (by omega)
        obtain ⟨aN, eN, haN⟩ := cg (n - 1) (by omega)
        have g0 : atI (as.map V.ref) 0 = some (.ref a0) := by
          have := atI_of (xs := as.map V.ref) (j := 0) (by rw [List.length_map]; omega)
          rw [List.getElem?_map, e0] at this
          exact this
        have gN : atI (as.map V.ref) (-1) = some (.ref aN) := atI_last (by rw [List.getLast?_map, List.getLast?_eq_getElem?, las, lC, eN]; rfl)
        have m0 : (trM n rows).getD 0 [] ∈ trM n rows := getD_in (by omega)
        have mN : (trM n rows).getD (n - 1) [] ∈ trM n rows := getD_in (by omega)
        have l0 := tc _ m0
        have lN := tc _ mN
        have b0 := tb _ m0
        have bN := tb _ mN
        have sC : ∀ x : Nat → Int, (∀ c ∈ trM n rows, sm rows.length (fun i => x i * vl c i) = 0) → sm rows.length (fun i => x i * vl (comb 1 ((trM n rows).getD 0 []) (-3) ((trM n rows).getD (n - 1) [])) i) = 0 := fun x h => by
          have e : (sm rows.length fun i => x i * vl (comb 1 ((trM n rows).getD 0 []) (-3) ((trM n rows).getD (n - 1) [])) i) = 1 * (sm rows.length fun i => x i * vl ((trM n rows).getD 0 []) i) + (-3) * sm rows.length fun i => x i * vl ((trM n rows).getD (n - 1) []) i := by
            rw [← sm_lin]; exact sm_congr fun i _ => by rw [comb_vl (by omega)]; grind
          rw [e, h _ m0, h _ mN]; rfl
        generalize (trM n rows).getD 0 [] = c0 at *
        generalize (trM n rows).getD (n - 1) [] = cN at *
        refine ⟨_, rfl, _, rfl, u, _, _, _, rfl, rfl, SqL.of A1, g0, ?_⟩
        refine ⟨_, rfl, _, rfl, u, _, _, _, rfl, rfl, SqL.of A1, gN, a0, aN, _, _, rfl, SqL.of ha0, SqL.of haN, fun D hD => ?_⟩
        refine lc_it (walk_zip (K := K) (a := a0) (b := aN) (xs := c0.map V.int) (ys := cN.map V.int) (n := c0.length) (by rw [List.length_map, List.length_map]; omega)) (fun i H' => Same H3 H' ∧ H' D = some (.lst (((comb 1 c0 (-3) cN).take i).map V.int))) ⟨AL.Same.new hD, upd_same⟩ (fun i H' _ hh => ⟨SqL.of (hh.1 _ _ ha0), SqL.of (hh.1 _ _ haN)⟩) ?_ ?_
        · rintro i x0 H4 H5 hi ⟨s4, hd4⟩ ⟨T0, u1, u2, rfl, hT, rfl, e1, e2⟩
          obtain ⟨z1, c1, rfl⟩ := map_int e1
          obtain ⟨z2, c2, rfl⟩ := map_int e2
          have hDT : D ≠ T0 := fun z => by rw [z, hT] at hd4; cases hd4
          have sT : Same H3 (upd H4 T0 (.tup [.int z1, .int z2])) := s4.trans (AL.Same.new hT)
          have y2 := bN z2 (List.mem_of_getElem? c2)
          refine ⟨T0, _, rfl, SqT.of upd_same, rfl, _, _, rfl, _, _, rfl, rfl, rfl, ?_⟩
          refine ⟨_, rfl, _, rfl, _, _, rfl, rfl, wide_mul (a := 60) (b := 60) (by decide) (by omega) (by decide) (by decide) (by decide), _, _, rfl, rfl, _, Eq.trans (upd_ne hDT) hd4, ?_, AL.Same.updn sT hD, ?_⟩
          · rw [List.length_map, List.length_take]
            exact Nat.lt_of_le_of_lt (by omega : _ ≤ 1000) (by decide)
          · have g : (comb 1 c0 (-3) cN)[i]? = some (z1 - 3 * z2) := by
              unfold comb; rw [List.getElem?_zipWith, c1, c2]
              show some (1 * z1 + -3 * z2) = _
              rw [Int.one_mul, Int.neg_mul]; rfl
            rw [upd_same, List.take_add_one, g, List.map_append]
            rfl
        rintro H4 ⟨s4, hd⟩
        have hn : c0.length = cN.length := by omega
        rw [List.take_of_length_le (by rw [comb_len hn]; exact Nat.le_refl _)] at hd
        refine ⟨(by show 1 ≤ sizeLine; decide), fun l4 hl4 => ?_⟩
        have n4 := AL.Same.new (o := .lst [.ref D]) hl4
        refine ⟨u, l4, _, _, rfl, rfl, n4 _ _ (s4 _ _ A1), upd_same, ?_, fun R hR => ?_⟩
        · rw [List.length_map, las]; exact Nat.le_of_lt (Nat.lt_of_le_of_lt (show (trM n rows).length + 1 ≤ 1000 by omega) (by decide))
        have nR := AL.Same.new (o := .lst (as.map V.ref ++ [V.ref D])) hR
        have s6 := s4.trans (n4.trans nR)
        refine ⟨R, trM n rows ++ [comb 1 c0 (-3) cN], _, _, _, _, rfl, (P3.same s6).mono (by omega), k3.trans (same_k7 s6), ⟨as ++ [D], by rw [upd_same, List.map_append]; rfl, prd_snoc (paired_mono A2 fun _ _ z => s6 _ _ z) ((n4.trans nR) _ _ hd)⟩, col_more sC, fun c hc => ?_, by rw [List.length_append, List.length_singleton]; omega, .inr ⟨by rw [List.length_append, List.length_singleton]; omega, fun c hc y hy => ?_⟩, fun w => absurd w (by omega)⟩
        · rcases List.mem_append.mp hc with hc | hc
          · exact tc c hc
          · rw [List.mem_singleton.mp hc, comb_len hn]; exact l0
        · rcases List.mem_append.mp hc with hc | hc
          · exact Nat.le_trans (tb c hc y hy) (by decide)
          · rw [List.mem_singleton.mp hc] at hy
            have := bd_len (W := 0).mp (comb_bd (a := 1) (b := 640) (c := 3) (d := 640) (m := 1) (t := -3) hn (by decide) (bd_len (W := 0).mpr b0) (by decide) (bd_len (W := 0).mpr bN)) y hy
            omega
      · rw [decide_eq_false (fun z => w0 (by injection z with z; omega))]
        refine iteF ?_
        exact ⟨u, _, _, _, _, _, rfl, P3.mono (by omega), k3, hC3, ok.next⟩
    clear hC3 ok P3 k3
    rintro σ' H3 ⟨u, C', v4, v5, v6, v7, rfl, P3, k3, hC3, ok⟩
    have l4 : C'.length ≤ 4 := by rcases ok.bd with h | h <;> omega
    refine ⟨_, rfl, u, rows.length, C', rfl, RowsZ.toT hC3, (fun z => by have := ok.one; rw [z] at this; simp at this), ok.len, by omega, by omega, fun T H4 hT s4 hT4 => ?_⟩
    have bT : ∀ {b : Nat}, (∀ c ∈ C', ∀ x ∈ c, x.natAbs ≤ b) → ∀ r ∈ trM rows.length C', ∀ x ∈ r, x.natAbs ≤ b := fun h => trM_bd h
    refine q T H4 C'.length (trM rows.length C') ((P3.same s4).mono (by omega)) (k3.trans (same_k7 s4)) hT4 (trM_len _ _) (fun r hr => (trM_row hr).1) ok.one ?_ ?_
    · rcases ok.bd with ⟨h1, h2⟩ | ⟨h1, h2⟩
      · exact .inl ⟨h1, bT h2⟩
      · exact .inr ⟨h1, bT h2⟩
    · rw [trM_trM ok.len]; exact ok.eq
end
end AL
set_option Elab.async false
set_option maxRecDepth 100000
set_option exponentiation.threshold 70000
set_option maxHeartbeats 1000000
namespace AL
open PySem PySem.Spec PyProof.Rows L2 RZ
section
variable {P : Program} {w : World} {K : PySem.W.Frag} {mg : Str → Option Value} {base : Heap}
/-- what a linear map makes of a span -/
theorem Spn.map {S T : Fn → Prop} {φ : Fn → Fn} (l : ∀ (x y : Fn) (m t : Int), φ (fun j => m * x j + t * y j) = fun c => m * φ x c + t * φ y c) (h : ∀ y, S y → Spn T (φ y)) {x : Fn} (s : Spn S x) : Spn T (φ x) := by
  have z0 : φ (fun _ => 0) = fun _ => 0 := by
    have := l (fun _ => 0) (fun _ => 0) 0 0
    rw [show (fun _ : Nat => (0 : Int) * 0 + 0 * 0) = fun _ => 0 from funext fun _ => by omega] at this
    rw [this]; funext c; omega
  refine s.clo (R := fun x => Spn T (φ x)) ⟨?_, ?_, ?_⟩ h
  · rw [z0]; exact .zero
  · intro x y m t hx hy
    rw [l]; exact .lin m t hx hy
  · intro x s s0 hx
    refine .div s0 (hx.of fun c => ?_)
    have := congrFun (l x x s 0) c
    rw [show (fun j => s * x j + 0 * x j) = fun j => s * x j from funext fun _ => by omega] at this
    rw [this]; omega

def sg (N : Nat) (A : List Rw) (v : Nat → Int) (c : Nat) : Int := sm N fun i => v i * vl (A.getD i []) c
theorem sg_lin {N : Nat} {A : List Rw} (a b : Int) (u v : Nat → Int) (c : Nat) : sg N A (fun i => a * u i + b * v i) c = a * sg N A u c + b * sg N A v c := by
  unfold sg
  rw [← sm_lin]; exact sm_congr fun i _ => by grind
theorem sg_unit {N j : Nat} {A : List Rw} (hj : j < N) (c : Nat) : sg N A (fun i => if i = j then 1 else 0) c = vl (A.getD j []) c := by
  unfold sg
  rw [sm_one (k := j) hj fun t _ ne => by show (if t = j then (1 : Int) else 0) * _ = 0; rw [if_neg ne, Int.zero_mul]]
  show (if j = j then (1 : Int) else 0) * _ = _
  rw [if_pos rfl, Int.one_mul]
theorem sg_out {N n c : Nat} {A : List Rw} (lA : A.length = N) (hA : ∀ r ∈ A, r.length = n) (hc : n ≤ c) (v : Nat → Int) : sg N A v c = 0 := by
  unfold sg
  rw [sm_congr (g := fun _ => 0) fun i hi => by rw [vl_out (by rw [hA _ (getD_in (by omega))]; exact hc), Int.mul_zero], sm_zero]
theorem rel_iff {N n : Nat} {A : List Rw} (lA : A.length = N) (hA : ∀ r ∈ A, r.length = n) (x : Nat → Int) : (∀ k ∈ trM n A, sm N (fun i => x i * vl k i) = 0) ↔ ∀ c, sg N A x c = 0 := by
  have e : ∀ c, (sm N fun i => x i * vl (A.map fun q => vl q c) i) = sg N A x c := fun c => sm_congr fun i hi => by rw [mapvl (by omega)]
  constructor
  · intro h c
    by_cases hc : c < n
    · rw [← e c]
      exact h _ (List.mem_of_getElem? (trM_at hc))
    · exact sg_out lA hA (by omega) x
  · intro h k hk
    obtain ⟨_, j, hj, rfl⟩ := trM_row hk
    rw [e j]; exact h j
def SameRel (N : Nat) (A T : List Rw) : Prop := ∀ x : Nat → Int, (∀ c, sg N A x c = 0) ↔ ∀ c, sg N T x c = 0
theorem ColEq.rel {N n n' : Nat} {A T : List Rw} (h : ColEq N (trM n A) (trM n' T)) (lA : A.length = N) (hA : ∀ r ∈ A, r.length = n) (lT : T.length = N) (hT : ∀ r ∈ T, r.length = n') : SameRel N A T := fun x => by
  rw [← rel_iff lA hA, ← rel_iff lT hT]; exact h x
theorem SameRel.symm {N : Nat} {A T : List Rw} (h : SameRel N A T) : SameRel N T A := fun x => (h x).symm
/-- what hangs on some rows hangs by whole numbers -/
theorem spn_sg {N : Nat} {A : List Rw} {J : List Nat} (bJ : ∀ j ∈ J, j < N) {x : Fn} (h : Spn (inR (chs A J)) x) : ∃ m : Int, m ≠ 0 ∧ ∃ v : Nat → Int, ∀ c, m * x c = sg N A v c := by
  refine h.clo (R := fun x => ∃ m : Int, m ≠ 0 ∧ ∃ v : Nat → Int, ∀ c, m * x c = sg N A v c) ⟨⟨1, by decide, fun _ => 0, fun c => ?_⟩, ?_, ?_⟩ ?_
  · unfold sg
    rw [sm_congr (g := fun _ => 0) fun i _ => Int.zero_mul _, sm_zero]; rfl
  · rintro x y a b ⟨m, m0, u, hu⟩ ⟨t, t0, v, hv⟩
    refine ⟨m * t, Int.mul_ne_zero m0 t0, fun i => (a * t) * u i + (b * m) * v i, fun c => ?_⟩
    rw [sg_lin, ← hu, ← hv]; grind
  · rintro x s s0 ⟨m, m0, u, hu⟩
    exact ⟨m * s, Int.mul_ne_zero m0 s0, u, fun c => by rw [← hu, Int.mul_assoc]⟩
  · rintro y ⟨r, hr, rfl⟩
    obtain ⟨j, hj, rfl⟩ := List.mem_map.mp hr
    exact ⟨1, by decide, _, fun c => by rw [sg_unit (bJ j hj), Int.one_mul]⟩
theorem rank_le_rel {N n' s t : Nat} {A T : List Rw} {J : List Nat} (lT : T.length = N) (hT : ∀ r ∈ T, r.length = n') (bJ : ∀ j ∈ J, j < N) (imp : ∀ x, (∀ c, sg N A x c = 0) → ∀ c, sg N T x c = 0) (rA : RankIs (chs A J) s) (rT : RankIs (chs T J) t) : t ≤ s := by
  obtain ⟨B, P, lB, _, hB, _, hS⟩ := rA.ex
  have ch : ∀ b : Rw, ∃ u : Nat → Int, b ∈ B → ∃ m : Int, m ≠ 0 ∧ ∀ c, m * vl b c = sg N A u c := fun b => by
    by_cases h : b ∈ B
    · obtain ⟨m, m0, u, hu⟩ := spn_sg bJ (hB b h)
      exact ⟨u, fun _ => ⟨m, m0, hu⟩⟩
    · exact ⟨fun _ => 0, fun w => absurd w h⟩
  have rv : ∀ (u : Nat → Int) c, vl ((List.range n').map fun c => sg N T u c) c = sg N T u c := fun u c => by
    by_cases hc : c < n'
    · exact vl_get (by rw [List.getElem?_map, List.getElem?_range hc]; rfl)
    · rw [sg_out lT hT (by omega), vl_out (by rw [List.length_map, List.length_range]; omega)]
  have le := rT.le (F := B.map fun b => (List.range n').map fun c => sg N T (Classical.choose (ch b)) c) fun r hr => by
    obtain ⟨j, hj, rfl⟩ := List.mem_map.mp hr
    have hA : Spn (inR B) (vl (A.getD j [])) := hS _ (List.mem_map.mpr ⟨j, hj, rfl⟩)
    have key := hA.clo (R := fun x => ∃ m : Int, m ≠ 0 ∧ ∃ v : Nat → Int, (∀ c, m * x c = sg N A v c) ∧ Spn (inR (B.map fun b => (List.range n').map fun c => sg N T (Classical.choose (ch b)) c)) (sg N T v)) ⟨⟨1, by decide, fun _ => 0, fun c => ?_, ?_⟩, ?_, ?_⟩ ?_
    · obtain ⟨m, m0, v, hv, sv⟩ := key
      have r0 := imp (fun i => m * (if i = j then 1 else 0) + (-1) * v i) fun c => by
        rw [sg_lin, sg_unit (bJ j hj), ← hv]; omega
      refine Spn.div m0 (sv.of fun c => ?_)
      have := r0 c
      rw [sg_lin, sg_unit (bJ j hj)] at this
      omega
    · unfold sg
      rw [sm_congr (g := fun _ => 0) fun i _ => Int.zero_mul _, sm_zero]; rfl
    · refine Spn.zero.of fun c => ?_
      unfold sg
      rw [sm_congr (g := fun _ => 0) fun i _ => Int.zero_mul _, sm_zero]
    · rintro x y a b ⟨m, m0, u, hu, su⟩ ⟨t, t0, v, hv, sv⟩
      refine ⟨m * t, Int.mul_ne_zero m0 t0, fun i => (a * t) * u i + (b * m) * v i, fun c => ?_, (Spn.lin (a * t) (b * m) su sv).of fun c => sg_lin ..⟩
      rw [sg_lin, ← hu, ← hv]; grind
    · rintro x s s0 ⟨m, m0, u, hu, su⟩
      exact ⟨m * s, Int.mul_ne_zero m0 s0, u, fun c => by rw [← hu, Int.mul_assoc], su⟩
    · rintro y ⟨b, hb, rfl⟩
      obtain ⟨m, m0, hm⟩ := Classical.choose_spec (ch b) hb
      exact ⟨m, m0, _, hm, .mem ⟨_, List.mem_map.mpr ⟨b, hb, rfl⟩, funext fun c => (rv _ c).symm⟩⟩
  rw [List.length_map, lB] at le
  exact le
theorem rank_same {N n n' s : Nat} {A T : List Rw} {J : List Nat} (lT : T.length = N) (hT : ∀ r ∈ T, r.length = n') (lA : A.length = N) (hA : ∀ r ∈ A, r.length = n) (bJ : ∀ j ∈ J, j < N) (e : SameRel N A T) (rA : RankIs (chs A J) s) : RankIs (chs T J) s := by
  have rT := spn_rank (rows := chs T J) (W := n') fun r hr => hT r (chs_in (by rw [lT]; exact bJ) r hr)
  have h1 := rank_le_rel lT hT bJ (fun x => (e x).mp) rA rT
  have h2 := rank_le_rel lA hA bJ (fun x => (e x).mpr) rT rA
  rwa [Nat.le_antisymm h1 h2] at rT
theorem chs_range {A : List Rw} : chs A (List.range A.length) = A := by
  unfold chs
  refine List.ext_getElem? fun i => ?_
  by_cases h : i < A.length
  · rw [List.getElem?_map, List.getElem?_range h, List.getElem?_eq_getElem h]
    show some (A.getD i []) = _
    rw [List.getD_eq_getElem?_getD, List.getElem?_eq_getElem h]; rfl
  · rw [List.getElem?_eq_none (by rw [List.length_map, List.length_range]; omega), List.getElem?_eq_none (by omega)]
theorem pB_same {N n n' s : Nat} {A T : List Rw} (lT : T.length = N) (hT : ∀ r ∈ T, r.length = n') (lA : A.length = N) (hA : ∀ r ∈ A, r.length = n) (e : SameRel N A T) : (subs N s).filter (pB T s false) = (subs N s).filter (pB A s false) := by
  refine List.filter_congr fun J hJ => ?_
  have bJ := (subs_ok hJ).2.2
  rw [Bool.eq_iff_iff, pB_iff, pB_iff]
  exact ⟨fun h => ⟨rank_same lA hA lT hT bJ e.symm h.1, fun w => Bool.noConfusion w⟩, fun h => ⟨rank_same lT hT lA hA bJ e h.1, fun w => Bool.noConfusion w⟩⟩
theorem getD_at' {A : List Rw} {i : Nat} (h : i < A.length) : A[i]? = some (A.getD i []) := by
  rw [List.getD_eq_getElem?_getD, List.getElem?_eq_getElem h]; rfl
section
variable {n N s : Nat} {A F : List Rw}
theorem kz_piv {f : Rw} (lf : n ≤ f.length) (f0 : vl f (piv f) ≠ 0) : kzB n f = true ↔ n ≤ piv f := by
  rw [kz_iff lf]
  exact ⟨fun h => Classical.byContradiction fun c => f0 (h _ (by omega)), fun h c hc => ahead_zero f0 c (by omega)⟩
theorem drop_piv {f : Rw} (f0 : vl f (piv f) ≠ 0) (h : n ≤ piv f) : piv (f.drop n) = piv f - n := by
  refine piv_is (by rw [drop_vl, show n + (piv f - n) = piv f by omega]; exact f0) fun j hj => ?_
  rw [drop_vl]; exact ahead_zero f0 _ (by omega)
theorem ker_hnf (h : Hnf (n + N) F) : Hnf N (kerF n F) := by
  have kp : ∀ f ∈ F.filter (kzB n), f ∈ F ∧ n ≤ piv f := fun f hf => by
    obtain ⟨mf, kz⟩ := List.mem_filter.mp hf
    exact ⟨mf, (kz_piv (by rw [h.len f mf]; omega) (h.ech.nz f mf)).mp kz⟩
  unfold kerF
  refine ⟨fun u hu => ?_, fun u hu => ?_, ?_, ?_⟩
  · obtain ⟨f, hf, rfl⟩ := List.mem_map.mp hu
    rw [List.length_drop, h.len f (kp f hf).1]; omega
  · obtain ⟨f, hf, rfl⟩ := List.mem_map.mp hu
    obtain ⟨mf, pf⟩ := kp f hf
    rw [drop_piv (h.ech.nz f mf) pf, drop_vl, show n + (piv f - n) = piv f by omega]
    exact h.pos f mf
  · rw [List.pairwise_map]
    refine (h.asc.filter _).imp_of_mem fun {a b} ha hb o => ?_
    rw [drop_piv (h.ech.nz a (kp a ha).1) (kp a ha).2, drop_piv (h.ech.nz b (kp b hb).1) (kp b hb).2]
    have := (kp a ha).2
    omega
  · rw [List.pairwise_map]
    refine (h.red.filter _).imp_of_mem fun {a b} ha hb o => ?_
    rw [drop_piv (h.ech.nz b (kp b hb).1) (kp b hb).2, drop_vl, drop_vl, show n + (piv b - n) = piv b by have := (kp b hb).2; omega]
    exact o
theorem lat_split {W : Nat} : ∀ {F : List Rw} {w : Fn}, Ech W F → n ≤ W → Lat (inR F) w → (∀ c, c < n → w c = 0) → Lat (inR (F.filter (kzB n))) w
  | [], _, _, _, h, _ => h
  | f :: F, w, E, nW, h, z => by
    obtain ⟨a, y, hy, e⟩ := lat_cons h
    have f0 := E.nz f (List.mem_cons_self ..)
    have lf := E.len f (List.mem_cons_self ..)
    cases hk : kzB n f with
    | true =>
      have pf := (kz_piv (by omega) f0).mp hk
      rw [List.filter_eq_self.mpr fun g hg => ?_]
      · exact h
      · rcases List.mem_cons.mp hg with rfl | hg
        · exact hk
        · have := (List.pairwise_cons.mp E.asc).1 g hg
          exact (kz_piv (by rw [E.len g (List.mem_cons_of_mem _ hg)]; exact nW) (E.nz g (List.mem_cons_of_mem _ hg))).mpr (by omega)
    | false =>
      have pf : piv f < n := Classical.byContradiction fun c => by
        rw [(kz_piv (by omega) f0).mpr (by omega)] at hk; cases hk
      have y0 : y (piv f) = 0 := spn_z E hy.spn (Nat.le_refl _)
      have a0 : a = 0 := by
        have := e (piv f)
        rw [z _ pf, y0, Int.add_zero] at this
        exact (Int.mul_eq_zero.mp this.symm).resolve_right f0
      subst a0
      rw [List.filter_cons, if_neg (by rw [hk]; decide)]
      have ey : ∀ j, w j = y j := fun j => by rw [e j]; omega
      exact (lat_split E.tail nW hy fun c hc => by rw [← ey]; exact z c hc).of ey
theorem lat_sm {S : Fn → Prop} {W : List Rw} {a : Nat → Int} : ∀ {m : Nat}, (∀ i, i < m → S (vl (W.getD i []))) → Lat S fun c => sm m fun i => a i * vl (W.getD i []) c
  | 0, _ => Lat.zero
  | m + 1, h => by
    have ih := lat_sm (m := m) (a := a) fun i hi => h i (by omega)
    exact (Lat.lin 1 (a m) ih (.mem (h m (by omega)))).of fun c => by show sm m _ + a m * _ = _; omega
/-- a relation is in the lattice of the kernel -/
theorem ker_lat (hF : Hnf (n + N) F) (g : Gen F (wideR A)) (hA : ∀ r ∈ A, r.length = n) (lA : A.length = N) {x : Fn} (out : ∀ i, N ≤ i → x i = 0) (h : ∀ c, sg N A x c = 0) : Lat (inR (kerF n F)) x := by
  have wg : ∀ i, i < N → (wideR A).getD i [] = A.getD i [] ++ unitR N i := fun i hi => by
    rw [List.getD_eq_getElem?_getD, wideR_at (getD_at' (by omega)), lA]; rfl
  have lw := lat_sm (S := inR F) (W := wideR A) (a := x) (m := 0) (fun i hi => absurd hi (by omega))
  have l1 : Lat (inR (wideR A)) fun c => sm N fun i => x i * vl ((wideR A).getD i []) c := lat_sm fun i hi => ⟨_, getD_in (by rw [wideR_len]; omega), rfl⟩
  have l2 : Lat (inR F) fun c => sm N fun i => x i * vl ((wideR A).getD i []) c := lat_in l1 g.2
  have v1 : ∀ c, c < n → (sm N fun i => x i * vl ((wideR A).getD i []) c) = 0 := fun c hc => by
    rw [← h c]
    unfold sg
    exact sm_congr fun i hi => by rw [wg i hi, app_vl, if_pos (by rw [hA _ (getD_in (by omega))]; exact hc)]
  have v2 : ∀ j, (sm N fun i => x i * vl ((wideR A).getD i []) (n + j)) = x j := fun j => by
    by_cases hj : j < N
    · rw [sm_one (k := j) hj fun t ht ne => by
        rw [wg t ht, app_vl, if_neg (by rw [hA _ (getD_in (by omega))]; omega), hA _ (getD_in (by omega)), show n + j - n = j by omega, unitR_at hj, if_neg (fun z => ne z.symm), Int.mul_zero],
        wg j hj, app_vl, if_neg (by rw [hA _ (getD_in (by omega))]; omega), hA _ (getD_in (by omega)), show n + j - n = j by omega, unitR_at hj, if_pos rfl, Int.mul_one]
    · rw [out j (by omega), sm_congr (g := fun _ => 0) fun t ht => by
        rw [wg t ht, vl_out (by rw [List.length_append, unitR_len, hA _ (getD_in (by omega))]; omega), Int.mul_zero], sm_zero]
  have l3 := lat_split hF.ech (by omega) l2 v1
  have mp : ∀ w, Lat (inR (F.filter (kzB n))) w → Lat (inR (kerF n F)) fun j => w (n + j) := fun w hw => by
    induction hw with
    | mem hw =>
      obtain ⟨f, hf, rfl⟩ := hw
      exact .mem ⟨f.drop n, List.mem_map.mpr ⟨f, hf, rfl⟩, funext fun j => drop_vl.symm⟩
    | zero => exact .zero
    | lin m t _ _ i1 i2 => exact .lin m t i1 i2
  exact (mp _ l3).of fun j => (v2 j).symm
theorem ker_rel (hF : Hnf (n + N) F) (g : Gen F (wideR A)) (hA : ∀ r ∈ A, r.length = n) (lA : A.length = N) {u : Rw} (hu : u ∈ kerF n F) : u.length = N ∧ ∀ c, sg N A (vl u) c = 0 := by
  obtain ⟨h1, _, h3⟩ := ker_item hF g hA lA hu
  refine ⟨h1, fun c => ?_⟩
  by_cases hc : c < n
  · exact h3 c hc
  · exact sg_out lA hA (by omega) _
theorem ker_same {n' : Nat} {T F' : List Rw} (hF : Hnf (n + N) F) (g : Gen F (wideR A)) (hA : ∀ r ∈ A, r.length = n) (lA : A.length = N) (hF' : Hnf (n' + N) F') (g' : Gen F' (wideR T)) (hT : ∀ r ∈ T, r.length = n') (lT : T.length = N) (e : SameRel N A T) : kerF n' F' = kerF n F := by
  refine hnf_same (ker_hnf hF') (ker_hnf hF) ⟨fun u hu => ?_, fun u hu => ?_⟩
  · obtain ⟨l, z⟩ := ker_rel hF' g' hT lT hu
    exact ker_lat hF g hA lA (fun i hi => vl_out (by omega)) ((e _).mpr z)
  · obtain ⟨l, z⟩ := ker_rel hF g hA lA hu
    exact ker_lat hF' g' hT lT (fun i hi => vl_out (by omega)) ((e _).mp z)
/-- the rows of the form that lead ahead: at most the rank of the one -/
theorem low_le (hF : Hnf (n + N) F) (g : Gen F (wideR A)) (hA : ∀ r ∈ A, r.length = n) (lA : A.length = N) (rA : RankIs A r) : (F.filter fun f => !kzB n f).length ≤ r := by
  have low : ∀ f ∈ F.filter (fun f => !kzB n f), f ∈ F ∧ piv f < n := fun f hf => by
    obtain ⟨mf, kz⟩ := List.mem_filter.mp hf
    refine ⟨mf, Classical.byContradiction fun c => ?_⟩
    have lf := hF.len f mf
    have : kzB n f = true := (kz_iff (by omega)).mpr fun c hc => ahead_zero (hF.ech.nz f mf) c (by omega)
    rw [this] at kz; cases kz
  have pv : ∀ f ∈ F.filter (fun f => !kzB n f), piv (f.take n) = piv f := fun f hf => piv_is (by rw [take_vl, if_pos (low f hf).2]; exact hF.ech.nz f (low f hf).1) fun j hj => by
    rw [take_vl]
    split
    · exact ahead_zero (hF.ech.nz f (low f hf).1) j hj
    · rfl
  have E : Ech n ((F.filter fun f => !kzB n f).map (List.take n)) := by
    refine ⟨fun m hm => ?_, fun m hm => ?_, ?_⟩
    · obtain ⟨f, hf, rfl⟩ := List.mem_map.mp hm
      rw [List.length_take, hF.len f (low f hf).1]; omega
    · obtain ⟨f, hf, rfl⟩ := List.mem_map.mp hm
      rw [pv f hf, take_vl, if_pos (low f hf).2]; exact hF.ech.nz f (low f hf).1
    · rw [List.pairwise_map]
      refine List.Pairwise.imp_of_mem (fun {a b} ha hb o => ?_) (hF.asc.filter _)
      rw [pv a ha, pv b hb]; exact o
  obtain ⟨B, P, lB, _, _, _, hB⟩ := rA.ex
  have le := minor_le (F := B) (B := (F.filter fun f => !kzB n f).map (List.take n)) (fun m hm => ?_) (ech_det E)
  · rw [List.length_map] at le; omega
  · obtain ⟨f, hf, rfl⟩ := List.mem_map.mp hm
    have w := spn_lin hA lA (g.1 f (low f hf).1).spn
    refine (sm_spn (S := inR B) (A := A) (a := fun i => vl f (n + i)) (n := N) fun i hi => .inr ?_).of fun c => ?_
    · rw [List.getD_eq_getElem?_getD, List.getElem?_eq_getElem (by omega)]
      exact hB _ (List.getElem_mem _)
    · rw [take_vl]
      split
      · rename_i hc; exact w c hc
      · rename_i hc
        rw [sm_congr (g := fun _ => 0) fun i hi => by
          rw [vl_out (x := A.getD i []) (by
            rw [List.getD_eq_getElem?_getD, List.getElem?_eq_getElem (by omega)]
            show (A[i]).length ≤ c
            rw [hA _ (List.getElem_mem _)]; omega), Int.mul_zero], sm_zero]

theorem ker_len (hF : Hnf (n + N) F) (g : Gen F (wideR A)) (hA : ∀ r ∈ A, r.length = n) (lA : A.length = N) (rA : RankIs A s) (lF : F.length = N) : (kerF n F).length + s = N := by
  have h1 := low_le hF g hA lA rA
  have h2 := rA.le (F := (F.filter fun f => !kzB n f).map (List.take n)) fun r hr => by
    obtain ⟨i, hi⟩ := List.mem_iff_getElem?.mp hr
    have mw : r ++ unitR A.length i ∈ wideR A := List.mem_of_getElem? (wideR_at hi)
    have sp := (g.2 _ mw).spn
    have im := Spn.map (T := inR ((F.filter fun f => !kzB n f).map (List.take n))) (φ := fun x c => if c < n then x c else 0) (fun x y m t => funext fun c => by (try dsimp only); split <;> simp) ?_ sp
    · refine im.of fun c => ?_
      try dsimp only
      split
      · rename_i hc; rw [app_vl, if_pos (by rw [hA r hr]; exact hc)]
      · rename_i hc; exact vl_out (by rw [hA r hr]; omega)
    · rintro y ⟨f, hf, rfl⟩
      cases hk : kzB n f with
      | false => exact .mem ⟨_, List.mem_map.mpr ⟨f, List.mem_filter.mpr ⟨hf, by rw [hk]; rfl⟩, rfl⟩, funext fun c => take_vl.symm⟩
      | true =>
        have z := (kz_iff (by rw [hF.len f hf]; omega)).mp hk
        refine Spn.zero.of fun c => ?_
        try dsimp only
        split
        · rename_i hc; exact z c hc
        · rfl
  rw [List.length_map] at h2
  have h3 : (F.filter (kzB n)).length + (F.filter fun f => !kzB n f).length = F.length := by
    clear h1 h2 g hF lF
    induction F with
    | nil => rfl
    | cons f F ih =>
      rw [List.filter_cons, List.filter_cons, List.length_cons]
      cases kzB n f <;> simp <;> omega
  have h4 : (kerF n F).length = (F.filter (kzB n)).length := List.length_map _
  omega
end

end
end AL
set_option Elab.async false
set_option maxRecDepth 100000
set_option exponentiation.threshold 70000
set_option maxHeartbeats 1000000
namespace AL
open PySem PySem.Spec PyProof.Rows L2 RZ
section
variable {P : Program} {w : World} {K : PySem.W.Frag} {mg : Str → Option Value} {base : Heap}

theorem go_c {k n B : Nat} (hk : k ≤ 7) (h : n ≤ 3 ∧ B ≤ 7864320 ∨ n ≤ 4 ∧ B ≤ 7680) (k1 : 1 ≤ k) (B1 : 1 ≤ B) : k * (k * B) ^ n ≤ 2 ^ 80 := by
  rcases h with ⟨hn, hB⟩ | ⟨hn, hB⟩
  · have h1 : (k * B) ^ n ≤ (7 * 7864320) ^ n := Nat.pow_le_pow_left (Nat.mul_le_mul hk hB) n
    have h2 : (7 * 7864320) ^ n ≤ (7 * 7864320) ^ 3 := Nat.pow_le_pow_right (by decide) hn
    exact Nat.le_trans (Nat.mul_le_mul hk (Nat.le_trans h1 h2)) (by decide +kernel)
  · have h1 : (k * B) ^ n ≤ (7 * 7680) ^ n := Nat.pow_le_pow_left (Nat.mul_le_mul hk hB) n
    have h2 : (7 * 7680) ^ n ≤ (7 * 7680) ^ 4 := Nat.pow_le_pow_right (by decide) hn
    exact Nat.le_trans (Nat.mul_le_mul hk (Nat.le_trans h1 h2)) (by decide +kernel)
theorem fld_b {K : PySem.W.Frag} {CG o : Addr} {H : Hp} {N n : Nat} {rows F : List Rw} {Q : VK} (g : GrpsAt CG H o N n rows F) (cl : Cls K CG) (na : NoAttr K CG "basis") (q : ∀ tb, RowsV H tb (kerF n F) → Q (.ref tb) H) : ∃ a C dx fs v, V.ref o = V.ref a ∧ H a = some (.ins C dx fs) ∧ Cls K C ∧ NoAttr K C "basis" ∧ fs.lookup (Str.ofString "basis") = some v ∧ Q v H := by
  obtain ⟨dz, tb, td, tu, G, h1, h2, _⟩ := g.at_
  exact ⟨o, CG, dz, _, _, rfl, h1, cl, na, rfl, q tb h2⟩
theorem rowsZ_keep {p c w : Addr} {m : Nat} {H H' : Hp} {A : List Rw} (k : Keep p H H') (P : Pen H p c m) (h : RowsZ H w A) : RowsZ H' w A := by
  obtain ⟨as, h1, h2⟩ := h
  exact ⟨as, k.at P h1 (fun _ z => nomatch z), paired_mono h2 fun _ _ z => k.at P z (fun _ z => nomatch z)⟩
theorem rowsV_keep {p c w : Addr} {m : Nat} {H H' : Hp} {A : List Rw} (k : Keep p H H') (P : Pen H p c m) (h : RowsV H w A) : RowsV H' w A := by
  obtain ⟨as, h1, h2⟩ := h
  exact ⟨as, k.at P h1 (fun _ z => nomatch z), paired_mono h2 fun _ _ z => k.at P z (fun _ z => nomatch z)⟩
def dV (z : List Int) : PyData := .tuple (z.map PyData.int)
theorem can_dV : ∀ Js : List (List Int), PyData.canLayAll0 (Js.map dV) = true ∧ PyData.depthAll (Js.map dV) ≤ 2
  | [] => ⟨rfl, by decide⟩
  | z :: r => by
    have a := can_dL z
    have b := can_dV r
    rw [List.map_cons]
    unfold dV at *
    constructor
    · simp only [PyData.canLayAll0, PyData.canLay0, a.1, b.1, Bool.and_self]
    · simp only [PyData.depthAll, PyData.depth]
      omega
theorem shaped_dV (Js : List (List Int)) : SeqAt.shaped (.tuple (Js.map dV)) = true := by
  have z := can_dV Js
  unfold SeqAt.shaped
  rw [show PyData.canLay0 (.tuple (Js.map dV)) = true by simpa only [PyData.canLay0] using z.1]
  have d : PyData.depth (.tuple (Js.map dV)) ≤ 3 := by simp only [PyData.depth]; omega
  simp only [Bool.true_and, decide_eq_true_eq]
  omega
theorem dp_dV {K : PySem.W.Frag} {H : Hp} {rs : List Addr} {Js : List (List Int)} (h : Paired (fun a J => H a = some (.tup (J.map V.int))) rs Js) : DpAll K H (rs.map V.ref) (Js.map dV) := by
  induction h with
  | nil => exact .nil
  | cons r _ ih => exact .cons (.tup (SqT.of r) (dpAll_z _)) ih
/-- tuples of rows told alike -/
theorem neV {K : PySem.W.Frag} {H : Hp} {w u : Addr} {rows : List Rw} {Q : VK} (h1 : RowsV H w rows) (h2 : RowsV H u rows) (q : Q (.bl false) H) : rNeD K (.ref w) (.ref u) H Q := by
  obtain ⟨as, a1, a2⟩ := h1
  obtain ⟨bs, b1, b2⟩ := h2
  refine ⟨.tuple (rows.map dV), .tuple (rows.map dV), .tup (SqT.of a1) (dp_dV a2), .tup (SqT.of b1) (dp_dV b2), shaped_dV _, shaped_dV _, ?_⟩
  rw [SeqAt.eqv_refl _ (SeqAt.canLay_of_shaped (shaped_dV _))]
  exact q
theorem ne_none {K : PySem.W.Frag} {H : Hp} {D e : Addr} {Q : VK} (h1 : H D = some (.lst [])) (h2 : H e = some (.lst [])) (q : Q (.bl false) H) : rNeD K (.ref D) (.ref e) H Q := by
  refine ⟨.list (([] : List Int).map PyData.int), .list (([] : List Int).map PyData.int), .lst (SqL.of h1) .nil, .lst (SqL.of h2) .nil, shaped_intsL _, shaped_intsL _, ?_⟩
  rw [eqv_intsL, decide_eq_true rfl]
  exact q
theorem prd_zJ {H : Hp} : ∀ {as : List Addr} {Js : List (List Nat)}, Paired (fun a (J : List Nat) => H a = some (.tup ((zJ J).map V.int))) as Js → Paired (fun a J => H a = some (.tup (J.map V.int))) as (Js.map zJ)
  | [], [], _ => .nil
  | _ :: _, _ :: _, .cons h t => .cons h (prd_zJ t)
theorem neJ {K : PySem.W.Frag} {H : Hp} {w u : Addr} {Js : List (List Nat)} {Q : VK} (h1 : TupJ H w Js) (h2 : TupJ H u Js) (q : Q (.bl false) H) : rNeD K (.ref w) (.ref u) H Q := by
  obtain ⟨as, a1, a2⟩ := h1
  obtain ⟨bs, b1, b2⟩ := h2
  exact neV ⟨as, a1, prd_zJ a2⟩ ⟨bs, b1, prd_zJ b2⟩ q
/-! the letters in another order -/
theorem sm_sum (f : Nat → Int) : ∀ N, sm N f = ((List.range N).map f).sum
  | 0 => rfl
  | N + 1 => by
    rw [List.range_succ, List.map_append, List.sum_append, ← sm_sum f N]
    show sm N f + f N = _
    simp
theorem perm_sum {l l' : List Int} (h : l.Perm l') : l.sum = l'.sum := by
  induction h with
  | nil => rfl
  | cons x _ ih => rw [List.sum_cons, List.sum_cons, ih]
  | swap x y l => simp only [List.sum_cons]; omega
  | trans _ _ i1 i2 => rw [i1, i2]
theorem perm_mapped {α β : Type} {f : α → β} {ys zs : List β} (h : ys.Perm zs) : ∀ xs : List α, zs = xs.map f → ∃ ws : List α, ws.Perm xs ∧ ys = ws.map f := by
  induction h with
  | nil => intro xs e; exact ⟨xs, .refl _, e⟩
  | cons x _ ih =>
    intro xs e
    cases xs with
    | nil => cases e
    | cons a r =>
      rw [List.map_cons] at e
      injection e with e1 e2
      obtain ⟨ws, w1, w2⟩ := ih r e2
      exact ⟨a :: ws, w1.cons a, by rw [List.map_cons, ← w2, ← e1]⟩
  | swap x y l =>
    intro xs e
    match xs, e with
    | a :: b :: r, e =>
      rw [List.map_cons, List.map_cons] at e
      injection e with e1 e2
      injection e2 with e2 e3
      exact ⟨b :: a :: r, .swap _ _ _, by rw [List.map_cons, List.map_cons, ← e1, ← e2, ← e3]⟩
  | trans _ _ i1 i2 =>
    intro xs e
    obtain ⟨ws, w1, w2⟩ := i2 xs e
    obtain ⟨us, u1, u2⟩ := i1 ws w2
    exact ⟨us, u1.trans w1, u2⟩
def plc (o : List Nat) (j : Nat) : Nat := o.findIdx (· == j)
def bkR (o : List Nat) (N : Nat) (u : Rw) : Rw := (List.range N).map fun j => vl u (plc o j)
theorem plc_at {o : List Nat} (nd : o.Nodup) {k : Nat} (hk : k < o.length) : plc o o[k] = k := by
  unfold plc
  rw [List.findIdx_eq hk]
  refine ⟨by simp, fun j hj => ?_⟩
  have : o[j]'(by omega) ≠ o[k] := List.pairwise_iff_getElem.mp (List.nodup_iff_pairwise_ne.mp nd) j k (by omega) hk hj
  simpa using this
theorem bk_rel {N : Nat} {A : List Rw} {o : List Nat} {u : Rw} (pm : o.Perm (List.range N)) {c : Nat} (h : sg N (chs A o) (vl u) c = 0) : sg N A (vl (bkR o N u)) c = 0 := by
  have lo : o.length = N := by rw [pm.length_eq, List.length_range]
  have nd : o.Nodup := pm.nodup_iff.mpr List.nodup_range
  rw [← h]
  unfold sg
  have e1 : (sm N fun i => vl (bkR o N u) i * vl (A.getD i []) c) = sm N fun i => vl u (plc o i) * vl (A.getD i []) c := sm_congr fun i hi => by
    rw [vl_get (x := bkR o N u) (v := vl u (plc o i)) (by unfold bkR; rw [List.getElem?_map, List.getElem?_range hi]; rfl)]
  rw [e1, sm_sum, sm_sum, ← perm_sum (pm.map _)]
  congr 1
  refine List.ext_getElem? fun k => ?_
  by_cases hk : k < N
  · have ko : k < o.length := by omega
    rw [List.getElem?_map, List.getElem?_map, List.getElem?_range hk, List.getElem?_eq_getElem ko]
    show some (vl u (plc o o[k]) * vl (A.getD o[k] []) c) = some (vl u k * vl ((chs A o).getD k []) c)
    rw [plc_at nd ko, show (chs A o).getD k [] = A.getD o[k] [] by unfold chs; rw [List.getD_eq_getElem?_getD, List.getElem?_map, List.getElem?_eq_getElem ko]; rfl]
  · rw [List.getElem?_eq_none (by rw [List.length_map]; omega), List.getElem?_eq_none (by rw [List.length_map, List.length_range]; omega)]
theorem chs_rank {N n s : Nat} {A : List Rw} {o : List Nat} (lA : A.length = N) (hA : ∀ r ∈ A, r.length = n) (pm : o.Perm (List.range N)) (rA : RankIs A s) : RankIs (chs A o) s := by
  have bo : ∀ j ∈ o, j < A.length := fun j hj => by rw [lA]; exact List.mem_range.mp (pm.mem_iff.mp hj)
  have rC := spn_rank (rows := chs A o) (W := n) fun r hr => hA r (chs_in bo r hr)
  have h1 := rC.le_of rA fun r hr => .mem ⟨r, chs_in bo r hr, rfl⟩
  have h2 := rA.le_of rC fun r hr => by
    obtain ⟨i, hi⟩ := List.mem_iff_getElem?.mp hr
    have il := (List.getElem?_eq_some_iff.mp hi).1
    refine .mem ⟨r, List.mem_map.mpr ⟨i, pm.mem_iff.mpr (List.mem_range.mpr (by omega)), ?_⟩, rfl⟩
    rw [List.getD_eq_getElem?_getD, hi]; rfl
  rwa [Nat.le_antisymm h1 h2] at rC
/-! a letter more -/
theorem app_getD {A : List Rw} {d : Rw} {N i : Nat} (lA : A.length = N) : (A ++ [d]).getD i [] = if i < N then A.getD i [] else if i = N then d else [] := by
  rw [List.getD_eq_getElem?_getD]
  by_cases h : i < N
  · rw [if_pos h, List.getElem?_append_left (by omega), List.getD_eq_getElem?_getD]
  · rw [if_neg h, List.getElem?_append_right (by omega), lA]
    by_cases e : i = N
    · rw [if_pos e, e, Nat.sub_self]; rfl
    · rw [if_neg e, List.getElem?_eq_none (by rw [List.length_singleton]; omega)]; rfl
theorem sg_app {A : List Rw} {d : Rw} {N : Nat} (lA : A.length = N) (x : Nat → Int) (c : Nat) : sg (N + 1) (A ++ [d]) x c = sg N A x c + x N * vl d c := by
  unfold sg
  show sm N _ + x N * vl ((A ++ [d]).getD N []) c = _
  rw [sm_congr (g := fun i => x i * vl (A.getD i []) c) fun i hi => by rw [app_getD lA, if_pos hi]]
  rw [app_getD lA, if_neg (by omega), if_pos rfl]
theorem rel_twice {N : Nat} {A T : List Rw} (lA : A.length = N) (lT : T.length = N) (N1 : 1 ≤ N) (e : SameRel N A T) : SameRel (N + 1) (A ++ [A.getD 0 []]) (T ++ [T.getD 0 []]) := fun x => by
  have k : ∀ (B : List Rw), B.length = N → ∀ c, sg (N + 1) (B ++ [B.getD 0 []]) x c = sg N B (fun i => 1 * x i + x N * if i = 0 then 1 else 0) c := fun B lB c => by
    rw [sg_app lB, sg_lin, sg_unit (by omega)]; omega
  constructor
  · intro h c
    rw [k T lT]
    exact (e _).mp (fun c => by rw [← k A lA]; exact h c) c
  · intro h c
    rw [k A lA]
    exact (e _).mpr (fun c => by rw [← k T lT]; exact h c) c
theorem snoc_vl {r : Rw} {v : Int} {N : Nat} (lr : r.length = N) (i : Nat) : vl (r ++ [v]) i = if i < N then vl r i else if i = N then v else 0 := by
  rw [app_vl, lr]
  split
  · rfl
  · by_cases e : i = N
    · rw [if_pos e, e, Nat.sub_self]; rfl
    · rw [if_neg e, vl_out (by rw [List.length_singleton]; omega)]
theorem sg_snoc {A : List Rw} {d r : Rw} {v : Int} {N : Nat} (lA : A.length = N) (lr : r.length = N) (c : Nat) : sg (N + 1) (A ++ [d]) (vl (r ++ [v])) c = sg N A (vl r) c + v * vl d c := by
  rw [sg_app lA, snoc_vl lr, if_neg (by omega), if_pos rfl]
  congr 1
  unfold sg
  exact sm_congr fun i hi => by rw [snoc_vl lr, if_pos hi]
theorem more_rank {N n s : Nat} {A : List Rw} {d : Rw} {x : Nat → Int} (lA : A.length = N) (hA : ∀ r ∈ A, r.length = n) (ld : d.length = n) (e : ∀ c, vl d c = sg N A x c) (rA : RankIs A s) : RankIs (A ++ [d]) s := by
  have rC := spn_rank (rows := A ++ [d]) (W := n) fun r hr => by
    rcases List.mem_append.mp hr with h | h
    · exact hA r h
    · rw [List.mem_singleton.mp h]; exact ld
  have h1 := rA.le_of rC fun r hr => .mem ⟨r, List.mem_append_left _ hr, rfl⟩
  have h2 := rC.le_of rA fun r hr => by
    rcases List.mem_append.mp hr with h | h
    · exact .mem ⟨r, h, rfl⟩
    · rw [List.mem_singleton.mp h]
      refine (sm_spn (S := inR A) (A := A) (a := x) (n := N) fun i hi => .inr (.mem ⟨_, getD_in (by omega), rfl⟩)).of fun c => ?_
      exact e c
  rwa [Nat.le_antisymm h2 h1] at rC

end
end AL
set_option Elab.async false
set_option maxRecDepth 100000
set_option exponentiation.threshold 70000
set_option maxHeartbeats 8000000
namespace AL
open PySem PySem.Spec PyProof.Rows L2 RZ
section
variable {P : Program} {w : World} {K : PySem.W.Frag} {mg : Str → Option Value} {base : Heap}
abbrev stlaw : Stmt := top 47
theorem sclaw : FnScope ["_law_script", "_law_pen_here", "_law_turn", "_law_many", "_law_rows", "_law_basis", "_law_turned_here", "_law_order", "_law_told", "_law_j", "_law_back", "_law_row", "_law_powers", "_law_more", "_law_column", "_law_wide"] ["_law_script"] (defScope stlaw) := ⟨rfl, rfl, rfl, by decide +kernel, rfl, by decide +kernel, by decide +kernel⟩
theorem oklaw (B : Blt mg) {CGroups : Addr} (Es : ErH K mg CGroups) {f_law_pivots : Addr} {fd_law_pivots : FuncData} (D_law_pivots : DefAt K mg "_law_pivots" st_law_pivots ["_law_rows"] f_law_pivots fd_law_pivots) {f_law_belongs : Addr} {fd_law_belongs : FuncData} (D_law_belongs : DefAt K mg "_law_belongs" st_law_belongs ["_law_basis", "_law_row"] f_law_belongs fd_law_belongs) {f_law_draw : Addr} {fd_law_draw : FuncData} (D_law_draw : DefAt K mg "_law_draw" st_law_draw ["_law_pen_here", "_law_many"] f_law_draw fd_law_draw) {f_law_pick : Addr} {fd_law_pick : FuncData} (D_law_pick : DefAt K mg "_law_pick" st_law_pick ["_law_pen_here", "_law_some"] f_law_pick fd_law_pick) {f_law_exponents : Addr} {fd_law_exponents : FuncData} (D_law_exponents : DefAt K mg "_law_exponents" st_law_exponents ["_law_pen_here", "_law_many", "_law_base"] f_law_exponents fd_law_exponents) {f_law_inner : Addr} {fd_law_inner : FuncData} (D_law_inner : DefAt K mg "_law_inner" st_law_inner ["_law_row", "_law_column"] f_law_inner fd_law_inner) {f_law_pen : Addr} {fd_law_pen : FuncData} (D_law_pen : DefAt K mg "_law_pen" st_law_pen ["_law_script"] f_law_pen fd_law_pen) {f_law_same_lattice : Addr} {fd_law_same_lattice : FuncData} (D_law_same_lattice : DefAt K mg "_law_same_lattice" st_law_same_lattice ["_law_one", "_law_other"] f_law_same_lattice fd_law_same_lattice) {f_law_shuffled : Addr} {fd_law_shuffled : FuncData} (D_law_shuffled : DefAt K mg "_law_shuffled" st_law_shuffled ["_law_pen_here", "_law_some"] f_law_shuffled fd_law_shuffled) {f_law_turned : Addr} {fd_law_turned : FuncData} (D_law_turned : DefAt K mg "_law_turned" st_law_turned ["_law_rows"] f_law_turned fd_law_turned) {f_law_matmul : Addr} {fd_law_matmul : FuncData} (D_law_matmul : DefAt K mg "_law_matmul" st_law_matmul ["_law_one", "_law_two"] f_law_matmul fd_law_matmul) {f_law_unit : Addr} {fd_law_unit : FuncData} (D_law_unit : DefAt K mg "_law_unit" st_law_unit ["_law_many"] f_law_unit fd_law_unit) {f_law_unimodular : Addr} {fd_law_unimodular : FuncData} (D_law_unimodular : DefAt K mg "_law_unimodular" st_law_unimodular ["_law_pen_here", "_law_many", "_law_steps"] f_law_unimodular fd_law_unimodular) {f_law_turned_units : Addr} {fd_law_turned_units : FuncData} (D_law_turned_units : DefAt K mg "_law_turned_units" st_law_turned_units ["_law_pen_here", "_law_rows"] f_law_turned_units fd_law_turned_units) {fis_whole : Addr} {fdis_whole : FuncData} (Dis_whole : DefAt K mg "is_whole" stis_whole ["value"] fis_whole fdis_whole) {fare_integers : Addr} {fdare_integers : FuncData} (Dare_integers : DefAt K mg "are_integers" stare_integers ["items"] fare_integers fdare_integers) {fis_list : Addr} {fdis_list : FuncData} (Dis_list : DefAt K mg "is_list" stis_list ["value"] fis_list fdis_list) {fis_matrix : Addr} {fdis_matrix : FuncData} (Dis_matrix : DefAt K mg "is_matrix" stis_matrix ["rows"] fis_matrix fdis_matrix) {fcheck_matrix : Addr} {fdcheck_matrix : FuncData} (Dcheck_matrix : DefDf [.str "rows"] K mg "check_matrix" stcheck_matrix ["rows", "what"] fcheck_matrix fdcheck_matrix) {fcombined : Addr} {fdcombined : FuncData} (Dcombined : DefAt K mg "combined" stcombined ["many", "one", "times", "other"] fcombined fdcombined) {fpivot_of : Addr} {fdpivot_of : FuncData} (Dpivot_of : DefAt K mg "pivot_of" stpivot_of ["row"] fpivot_of fdpivot_of) {freduced : Addr} {fdreduced : FuncData} (Dreduced : DefAt K mg "reduced" streduced ["rows"] freduced fdreduced) {fbezout : Addr} {fdbezout : FuncData} (Dbezout : DefAt K mg "bezout" stbezout ["one", "other"] fbezout fdbezout) {ftaken_in : Addr} {fdtaken_in : FuncData} (Dtaken_in : DefAt K mg "taken_in" sttaken_in ["basis", "row"] ftaken_in fdtaken_in) {fhermite_rows : Addr} {fdhermite_rows : FuncData} (Dhermite_rows : DefAt K mg "hermite_rows" sthermite_rows ["rows"] fhermite_rows fdhermite_rows) {fwithout_item : Addr} {fdwithout_item : FuncData} (Dwithout_item : DefAt K mg "without_item" stwithout_item ["row", "at", "held"] fwithout_item fdwithout_item) {fcleared : Addr} {fdcleared : FuncData} (Dcleared : DefAt K mg "cleared" stcleared ["reduced_rows", "row"] fcleared fdcleared) {fprimitive : Addr} {fdprimitive : FuncData} (Dprimitive : DefAt K mg "primitive" stprimitive ["row"] fprimitive fdprimitive) {fspan_of : Addr} {fdspan_of : FuncData} (Dspan_of : DefAt K mg "span_of" stspan_of ["rows"] fspan_of fdspan_of) {frank_of : Addr} {fdrank_of : FuncData} (Drank_of : DefAt K mg "rank_of" strank_of ["rows"] frank_of fdrank_of) {fsets_of : Addr} {fdsets_of : FuncData} (Dsets_of : DefAt K mg "sets_of" stsets_of ["many", "size"] fsets_of fdsets_of) {fbase_sets : Addr} {fdbase_sets : FuncData} (Dbase_sets : DefDk [.bl false] K mg "base_sets" stbase_sets ["A", "whole"] fbase_sets fdbase_sets) {fas_tuples0 : Addr} {fdas_tuples0 : FuncData} (Das_tuples0 : DefAt K mg "as_tuples" stas_tuples0 ["value"] fas_tuples0 fdas_tuples0) {fas_tuples1 : Addr} {fdas_tuples1 : FuncData} (Das_tuples1 : DefAt K mg "as_tuples" stas_tuples1 ["value"] fas_tuples1 fdas_tuples1) {fas_tuples : Addr} {fdas_tuples : FuncData} (Das_tuples : DefAt K mg "as_tuples" stas_tuples ["value"] fas_tuples fdas_tuples) {fG_init : Addr} {fdG_init : FuncData} (DG_init : IniA K "__init__" "Groups.__init__" stG_init ["self", "basis", "down", "up"] CGroups fG_init fdG_init) {fidentity : Addr} {fdidentity : FuncData} (Didentity : DefAt K mg "identity" stidentity ["many"] fidentity fdidentity) {fhermite_pair : Addr} {fdhermite_pair : FuncData} (Dhermite_pair : DefAt K mg "hermite_pair" sthermite_pair ["rows"] fhermite_pair fdhermite_pair) {fgroups_of : Addr} {fdgroups_of : FuncData} (Dgroups_of : DefAt K mg "groups_of" stgroups_of ["A"] fgroups_of fdgroups_of) {flaw : Addr} {fdlaw : FuncData} (Dlaw : DefAt K mg "law" stlaw ["_law_script"] flaw fdlaw) : FnOk P w K mg base CX0 9 flaw fdlaw ["_law_script"] (spLaw K) := by
  obtain ⟨ds_bs, hv_bs, hb_bs⟩ := Dbase_sets.d
  have OK_law_belongs : FnOk P w K mg base CX0 2 f_law_belongs fd_law_belongs ["_law_basis", "_law_row"] spBl := ok_law_belongs B  D_law_pivots D_law_belongs
  have OK_law_draw : FnOk P w K mg base CX0 1 f_law_draw fd_law_draw ["_law_pen_here", "_law_many"] spDraw := ok_law_draw B  D_law_draw
  have OK_law_exponents : FnOk P w K mg base CX0 3 f_law_exponents fd_law_exponents ["_law_pen_here", "_law_many", "_law_base"] spEx6 := ok_law_exponents B  D_law_draw D_law_pick D_law_exponents
  have OK_law_inner : FnOk P w K mg base CX0 1 f_law_inner fd_law_inner ["_law_row", "_law_column"] spInn := ok_law_inner B  D_law_inner
  have OK_law_pen : FnOk P w K mg base CX0 1 f_law_pen fd_law_pen ["_law_script"] (spPen K) := ok_law_pen B  D_law_pen
  have OK_law_same_lattice : FnOk P w K mg base CX0 3 f_law_same_lattice fd_law_same_lattice ["_law_one", "_law_other"] spSl := ok_law_same_lattice B  D_law_pivots D_law_belongs D_law_same_lattice
  have OK_law_shuffled : FnOk P w K mg base CX0 2 f_law_shuffled fd_law_shuffled ["_law_pen_here", "_law_some"] spShuf := ok_law_shuffled B  D_law_draw D_law_shuffled
  have OK_law_turned : FnOk P w K mg base CX0 1 f_law_turned fd_law_turned ["_law_rows"] spTr := ok_law_turned B  D_law_turned
  have OK_law_turned_units : FnOk P w K mg base CX0 4 f_law_turned_units fd_law_turned_units ["_law_pen_here", "_law_rows"] spTu := ok_law_turned_units B  D_law_draw D_law_inner D_law_turned D_law_matmul D_law_pick D_law_unit D_law_unimodular D_law_turned_units
  have OKbase_sets : FnOk P w K mg base CX0 7 fbase_sets fdbase_sets ["A", "whole"] spBs := okbase_sets B Es Dis_whole Dare_integers Dis_list Dis_matrix Dcheck_matrix Dcombined Dpivot_of Dreduced Dbezout Dtaken_in Dhermite_rows Dwithout_item Dcleared Dprimitive Dspan_of Drank_of Dsets_of Dbase_sets
  have OKgroups_of : FnOk P w K mg base CX0 7 fgroups_of fdgroups_of ["A"] (spGo CGroups) := okgroups_of B Es Dis_list Das_tuples0 Das_tuples1 Das_tuples DG_init Dis_whole Dare_integers Dis_matrix Dcheck_matrix Dcombined Dpivot_of Dreduced Dbezout Dtaken_in Dhermite_rows Didentity Dhermite_pair Dgroups_of
  refine Dlaw.F.ok sclaw (fun vs H Q E h => ?_) (fun cdv A outer s H vs Q E hr h => ?_)
  · obtain ⟨a, ns, rfl, _⟩ := h; rfl
  · have hu := hu_of hr
    refine ⟨_, (pss_cons (ps_set (i := 1) sclaw.nd rfl (Or.inr rfl) (pe_call OK_law_pen (hr.mono (by decide)) rfl D_law_pen.m D_law_pen.F.kp D_law_pen.b .nil pass0 (pa_cons (pv 0) pa_nil)))
    (pss_cons (ps_for PassesOwn.never rfl (pi_range1 rfl B.range_ (pa_cons pe_int pa_nil)) (pg_name (i := 2) sclaw.nd rfl (Or.inl rfl))
      (pss_cons (ps_set (i := 3) sclaw.nd rfl (Or.inr rfl) (pe_op op_add pe_int (pe_call OK_law_draw (hr.mono (by decide)) rfl D_law_draw.m D_law_draw.F.kp D_law_draw.b .nil pass0 (pa_cons (pv 1) (pa_cons pe_int pa_nil)))))
    (pss_cons (ps_set (i := 4) sclaw.nd rfl (Or.inr rfl) (pe_call OK_law_exponents (hr.mono (by decide)) rfl D_law_exponents.m D_law_exponents.F.kp D_law_exponents.b .nil pass0 (pa_cons (pv 1) (pa_cons (pv 3) (pa_cons (pe_op op_add pe_int (pe_call OK_law_draw (hr.mono (by decide)) rfl D_law_draw.m D_law_draw.F.kp D_law_draw.b .nil pass0 (pa_cons (pv 1) (pa_cons pe_int pa_nil)))) pa_nil)))))
    (pss_cons (ps_set (i := 5) sclaw.nd rfl (Or.inr rfl) (pe_fld (pe_call OKgroups_of (hr.mono (by decide)) rfl Dgroups_of.m Dgroups_of.F.kp Dgroups_of.b .nil pass0 (pa_cons (pv 4) pa_nil)) rfl))
    (pss_cons (ps_set (i := 6) sclaw.nd rfl (Or.inl rfl) (pe_call OK_law_turned_units (hr.mono (by decide)) rfl D_law_turned_units.m D_law_turned_units.F.kp D_law_turned_units.b .nil pass0 (pa_cons (pv 1) (pa_cons (pv 4) pa_nil))))
    (pss_cons (ps_if (PW.pt (pw_or (pt_cmpR (op_neD hr.units : OpR _ _ (rNeD K)) (pe_fld (pe_call OKgroups_of (hr.mono (by decide)) rfl Dgroups_of.m Dgroups_of.F.kp Dgroups_of.b .nil pass0 (pa_cons (pv 6) pa_nil)) rfl) (pv 5) (nomark _)) (pw_or1 (pt_cmpR (op_neD hr.units : OpR _ _ (rNeD K)) (pe_call OKbase_sets (hr.mono (by decide)) rfl Dbase_sets.m Dbase_sets.F.kp hb_bs hv_bs pass0 (pa_cons (pv 6) pa_nil)) (pe_call OKbase_sets (hr.mono (by decide)) rfl Dbase_sets.m Dbase_sets.F.kp hb_bs hv_bs pass0 (pa_cons (pv 4) pa_nil)) (nomark _))))) (pss_one (ps_ret pe_bl)) pss_nil)
    (pss_cons (ps_set (i := 7) sclaw.nd rfl (Or.inr rfl) (pe_call OK_law_shuffled (hr.mono (by decide)) rfl D_law_shuffled.m D_law_shuffled.F.kp D_law_shuffled.b .nil pass0 (pa_cons (pv 1) (pa_cons (pe_listRg rfl (by rfl) B.list_ (prg_1 (by rfl) B.range_ (pv 3))) pa_nil))))
    (pss_cons (ps_set (i := 8) sclaw.nd rfl (Or.inl rfl) (pe_fld (pe_call OKgroups_of (hr.mono (by decide)) rfl Dgroups_of.m Dgroups_of.F.kp Dgroups_of.b .nil pass0 (pa_cons (pe_lc (own := [("_law_j", 9)]) (g := gName 9) (tt := tYes) rfl sclaw.nd (pi_list (pv 7)) (blkOk_by (own := [("_law_j", 9)]) (N := ["_law_script", "_law_pen_here", "_law_turn", "_law_many", "_law_rows", "_law_basis", "_law_turned_here", "_law_order", "_law_told", "_law_j", "_law_back", "_law_row", "_law_powers", "_law_more", "_law_column", "_law_wide"]) (sc := defScope stlaw) (by decide +kernel)) (fun _ _ _ _ _ => (pg_name (i := 9) sclaw.nd rfl (Or.inl rfl))) (fun _ _ _ _ _ => pts_nil) (fun _ _ _ _ _ => (pe_ix (ix_list : IxR _ (rIxL K)) (pv 4) (pv 9) (fun _ _ => rfl)))) pa_nil)) rfl))
    (pss_cons (ps_setLc (i := 10) (own := [("_law_row", 11)]) (g := gName 11) (tt := tYes) rfl sclaw.nd rfl rfl (sw_true rfl rfl rfl (by decide +kernel)) (pi_tup (pv 8)) (blkOk_by (own := [("_law_row", 11)]) (N := ["_law_script", "_law_pen_here", "_law_turn", "_law_many", "_law_rows", "_law_basis", "_law_turned_here", "_law_order", "_law_told", "_law_j", "_law_back", "_law_row", "_law_powers", "_law_more", "_law_column", "_law_wide"]) (by kernel_rfl)) (fun _ _ _ _ _ => (pg_name (i := 11) sclaw.nd rfl (Or.inr rfl))) (fun _ _ _ _ _ => pts_nil) (fun _ _ _ _ _ => (pe_callTy (call_tupK : CallR _ _ (rTup K)) (by rfl) B.tuple_ (by decide +kernel) (pa_cons (pe_lc (own := [("_law_j", 9)]) (g := gName 9) (tt := tYes) rfl sclaw.nd (pi_range1 rfl B.range_ (pa_cons (pv 3) pa_nil)) (blkOk_by (own := [("_law_j", 9)]) (N := ["_law_script", "_law_pen_here", "_law_turn", "_law_many", "_law_rows", "_law_basis", "_law_turned_here", "_law_order", "_law_told", "_law_j", "_law_back", "_law_row", "_law_powers", "_law_more", "_law_column", "_law_wide"]) (by kernel_rfl)) (fun _ _ _ _ _ => (pg_name (i := 9) sclaw.nd rfl (Or.inl rfl))) (fun _ _ _ _ _ => pts_nil) (fun _ _ _ _ _ => (pe_ix (ix_tup : IxR _ (rIxT K)) (pv 11) (pe_bm PySem.F.plainAttrs_list PySem.F.slot_list_index PySem.F.type_list_index mt_index (pv 7) (pa_cons (pv 9) pa_nil) : PE _ _ (tBM K "list" (rIndex K) (tVar 7) (tCons (tVar 9) tNil))) (fun _ _ => rfl)))) pa_nil))))
    (Evl.pss_cut (ps_if (PW.pt (pw_or (pt_cmpR (op_neD hr.units : OpR _ _ (rNeD K)) (pe_lc (own := [("_law_row", 11)]) (g := gName 11) rfl sclaw.nd (pi_list (pv 10)) (blkOk_by (own := [("_law_row", 11)]) (N := ["_law_script", "_law_pen_here", "_law_turn", "_law_many", "_law_rows", "_law_basis", "_law_turned_here", "_law_order", "_law_told", "_law_j", "_law_back", "_law_row", "_law_powers", "_law_more", "_law_column", "_law_wide"]) (sc := defScope stlaw) (by decide +kernel)) (fun _ _ _ _ _ => (pg_name (i := 11) sclaw.nd rfl (Or.inl rfl))) (fun _ _ _ _ _ => (pts_one (pt_not (pt_val (pe_call OK_law_belongs (hr.mono (by decide)) rfl D_law_belongs.m D_law_belongs.F.kp D_law_belongs.b .nil pass0 (pa_cons (pv 5) (pa_cons (pv 11) pa_nil))))))) (fun _ _ _ _ _ => (pv 11))) (pe_lst pa_nil) (nomark _)) (pw_or1 (pt_cmpR op_ne (pe_callB call_len_seq (by rfl) B.len_ (by decide +kernel) (pa_cons (pv 10) pa_nil)) (pe_callB call_len_seq (by rfl) B.len_ (by decide +kernel) (pa_cons (pv 5) pa_nil)) (nomark _))))) (pss_one (ps_ret pe_bl)) pss_nil)
    (pss_cons (ps_set (i := 12) sclaw.nd rfl (Or.inr rfl) (pe_lc (own := [("_law_j", 9)]) (g := gName 9) (tt := tYes) rfl sclaw.nd (pi_range1 rfl B.range_ (pa_cons (pv 3) pa_nil)) (blkOk_by (own := [("_law_j", 9)]) (N := ["_law_script", "_law_pen_here", "_law_turn", "_law_many", "_law_rows", "_law_basis", "_law_turned_here", "_law_order", "_law_told", "_law_j", "_law_back", "_law_row", "_law_powers", "_law_more", "_law_column", "_law_wide"]) (sc := defScope stlaw) (by decide +kernel)) (fun _ _ _ _ _ => (pg_name (i := 9) sclaw.nd rfl (Or.inl rfl))) (fun _ _ _ _ _ => pts_nil) (fun _ _ _ _ _ => (pe_op op_sub (pe_call OK_law_draw (hr.mono (by decide)) rfl D_law_draw.m D_law_draw.F.kp D_law_draw.b .nil pass0 (pa_cons (pv 1) (pa_cons pe_int pa_nil))) pe_int))))
    (pss_cons (ps_set (i := 13) sclaw.nd rfl (Or.inl rfl) (pe_op op_cat (pv 4) (pe_lst (pa_cons (pe_lc (own := [("_law_column", 14)]) (g := gName 14) (tt := tYes) rfl sclaw.nd (pi_list (pe_call OK_law_turned (hr.mono (by decide)) rfl D_law_turned.m D_law_turned.F.kp D_law_turned.b .nil pass0 (pa_cons (pv 4) pa_nil))) (blkOk_by (own := [("_law_column", 14)]) (N := ["_law_script", "_law_pen_here", "_law_turn", "_law_many", "_law_rows", "_law_basis", "_law_turned_here", "_law_order", "_law_told", "_law_j", "_law_back", "_law_row", "_law_powers", "_law_more", "_law_column", "_law_wide"]) (sc := defScope stlaw) (by decide +kernel)) (fun _ _ _ _ _ => (pg_name (i := 14) sclaw.nd rfl (Or.inl rfl))) (fun _ _ _ _ _ => pts_nil) (fun _ _ _ _ _ => (pe_call OK_law_inner (hr.mono (by decide)) rfl D_law_inner.m D_law_inner.F.kp D_law_inner.b .nil pass0 (pa_cons (pv 12) (pa_cons (pv 14) pa_nil))))) pa_nil))))
    (pss_cons (ps_set (i := 15) sclaw.nd rfl (Or.inr rfl) (pe_fld (pe_call OKgroups_of (hr.mono (by decide)) rfl Dgroups_of.m Dgroups_of.F.kp Dgroups_of.b .nil pass0 (pa_cons (pv 13) pa_nil)) rfl))
    (pss_cons (ps_if (PW.pt (pw_or (pt_cmpR op_ne (pe_callB call_len_seq (by rfl) B.len_ (by decide +kernel) (pa_cons (pv 15) pa_nil)) (pe_op op_add (pe_callB call_len_seq (by rfl) B.len_ (by decide +kernel) (pa_cons (pv 5) pa_nil)) pe_int) (nomark _)) (pw_or1 (pt_not (pt_val (pe_call OK_law_belongs (hr.mono (by decide)) rfl D_law_belongs.m D_law_belongs.F.kp D_law_belongs.b .nil pass0 (pa_cons (pv 15) (pa_cons (pe_op (op_catA : OpR _ _ (rCatA K)) (pe_callTy (call_tupK : CallR _ _ (rTup K)) (by rfl) B.tuple_ (by decide +kernel) (pa_cons (pv 12) pa_nil)) (pe_tup (pa_cons (pe_un un_neg pe_int) pa_nil))) pa_nil)))))))) (pss_one (ps_ret pe_bl)) pss_nil)
    (Evl.pss_cut (ps_if (pt_cmpR (op_neD hr.units : OpR _ _ (rNeD K)) (pe_lc (own := [("_law_row", 11)]) (g := gName 11) rfl sclaw.nd (pi_tup (pv 5)) (blkOk_by (own := [("_law_row", 11)]) (N := ["_law_script", "_law_pen_here", "_law_turn", "_law_many", "_law_rows", "_law_basis", "_law_turned_here", "_law_order", "_law_told", "_law_j", "_law_back", "_law_row", "_law_powers", "_law_more", "_law_column", "_law_wide"]) (sc := defScope stlaw) (by decide +kernel)) (fun _ _ _ _ _ => (pg_name (i := 11) sclaw.nd rfl (Or.inl rfl))) (fun _ _ _ _ _ => (pts_one (pt_not (pt_val (pe_call OK_law_belongs (hr.mono (by decide)) rfl D_law_belongs.m D_law_belongs.F.kp D_law_belongs.b .nil pass0 (pa_cons (pv 15) (pa_cons (pe_op (op_catA : OpR _ _ (rCatA K)) (pv 11) (pe_tup (pa_cons pe_int pa_nil))) pa_nil))))))) (fun _ _ _ _ _ => (pv 11))) (pe_lst pa_nil) (nomark _)) (pss_one (ps_ret pe_bl)) pss_nil)
    (pss_one (ps_if (pt_not (pt_val (pe_call OK_law_same_lattice (hr.mono (by decide)) rfl D_law_same_lattice.m D_law_same_lattice.F.kp D_law_same_lattice.b .nil pass0 (pa_cons (pe_fld (pe_call OKgroups_of (hr.mono (by decide)) rfl Dgroups_of.m Dgroups_of.F.kp Dgroups_of.b .nil pass0 (pa_cons (pe_op op_cat (pv 6) (pe_slice sl_list (pv 6) po_none (po_some pe_int))) pa_nil)) rfl) (pa_cons (pe_fld (pe_call OKgroups_of (hr.mono (by decide)) rfl Dgroups_of.m Dgroups_of.F.kp Dgroups_of.b .nil pass0 (pa_cons (pe_op op_cat (pv 4) (pe_slice sl_list (pv 4) po_none (po_some pe_int))) pa_nil)) rfl) pa_nil))))) (pss_one (ps_ret pe_bl)) pss_nil)))))))))))))))))
    (pss_one (ps_ret pe_bl)))), ?_⟩
    obtain ⟨a, ns, rfl, ha, _, q⟩ := h
    refine ⟨_, rfl, a, ns, rfl, ha, fun p c H0 hpn hcn pc P0 s0 => ?_⟩
    refine ⟨_, rfl, by omega, by omega, for_range (lo := 0) (n := ((3 : Int)).toNat) (fun i σ H' => ∃ v2 v3 v4 v5 v6 v7 v8 v9 v10 v11 v12 v13 v14 v15 : Option V, σ = [some (.ref a), some (.ref p), v2, v3, v4, v5, v6, v7, v8, v9, v10, v11, v12, v13, v14, v15] ∧ Pen H' p c (3000 * i)) ⟨none, none, none, none, none, none, none, none, none, none, none, none, none, none, rfl, P0⟩ ?_ ?_⟩
    · rintro turn σ H1 hturn ⟨v2, v3, v4, v5, v6, v7, v8, v9, v10, v11, v12, v13, v14, v15, rfl, P1⟩
      have tu : turn < 3 := hturn
      refine ⟨_, rfl, p, c, _, (6 : Int), rfl, P1, by omega, by decide, by decide, fun v H2 v0 v1 P2 k2 => ⟨_, _, rfl, rfl, ?_⟩⟩
      obtain ⟨N, hN, N1, N6⟩ : ∃ N : Nat, (1 : Int) + v = (N : Int) ∧ 1 ≤ N ∧ N ≤ 6 := ⟨(1 + v).toNat, by omega, by omega, by omega⟩
      dsimp only
      rw [hN]
      refine ⟨_, rfl, _, rfl, _, rfl, p, c, _, (3 : Int), rfl, P2, by omega, by decide, by decide, fun u H3 u0 u1 P3 k3 => ⟨_, _, rfl, rfl, ?_⟩⟩
      obtain ⟨n, hn, n1, n3⟩ : ∃ n : Nat, (1 : Int) + u = (n : Int) ∧ 1 ≤ n ∧ n ≤ 3 := ⟨(1 + u).toNat, by omega, by omega, by omega⟩
      dsimp only
      rw [hn]
      refine ⟨p, c, _, N, n, rfl, P3, by omega, by omega, by omega, fun w H4 A P4 k4 hA4 lA bA => ?_⟩
      have Al : ∀ r ∈ A, r.length = n := fun r hr => (bA r hr).1
      have Ab : ∀ r ∈ A, ∀ v ∈ r, v.natAbs ≤ 640 := fun r hr v hv => by
        have h3 := (bA r hr).2 v hv
        have h4 : 2 ^ (N - 1) ≤ 2 ^ 5 := Nat.pow_le_pow_right (by decide) (by omega)
        omega
      have Ane : A ≠ [] := fun z => by rw [z] at lA; simp at lA; omega
      clear bA P1 P2 P3 k2 k3 k4
      refine ⟨_, rfl, w, n, 640, A, rfl, hA4.toT, Ane, Al, n1, by omega, by omega, Ab, by decide, by decide, go_c (by omega) (.inl ⟨n3, by decide⟩) (by omega) (by decide), fun o H5 F s5 gr => ?_⟩
      obtain ⟨dz1, tb, _, _, _, hz1, hB5, _⟩ := gr.at_
      refine ⟨o, CGroups, dz1, _, _, rfl, hz1, Es.clG, Es.gB, rfl, ?_⟩
      have gF := gr.gen
      have hF := gr.hnf
      have lF := gr.ln
      have bF := gr.bd
      rw [lA] at hF lF
      clear gr
      refine ⟨_, rfl, _, rfl, p, c, w, _, n, A, rfl, P4.same s5, by omega, hA4.same s5, Ane, by omega, Al, n1, n3, Ab, fun u H6 n' T P6 k6 hT6 lT Tl n'1 Tb ce => ?_⟩
      rw [lA] at lT ce
      have Tne : T ≠ [] := fun z => by rw [z] at lT; simp at lT; omega
      have hA6 := rowsZ_keep k6 (P4.same s5) (hA4.same s5)
      have hB6 := rowsV_keep k6 (P4.same s5) hB5
      have sr : SameRel N A T := ce.rel lA Al lT Tl
      clear hA4 hB5 P4 k6 s5 ce
      obtain ⟨B, B1, Tn, TB, Tb'⟩ : ∃ B, 1 ≤ B ∧ (n' ≤ 3 ∧ B ≤ 7864320 ∨ n' ≤ 4 ∧ B ≤ 7680) ∧ B ≤ 7864320 ∧ ∀ r ∈ T, ∀ v ∈ r, v.natAbs ≤ B := by
        rcases Tb with ⟨h1, h2⟩ | ⟨h1, h2⟩
        · exact ⟨7864320, by decide, .inl ⟨h1, Nat.le_refl _⟩, Nat.le_refl _, h2⟩
        · exact ⟨3200, by decide, .inr ⟨h1, by decide⟩, by decide, h2⟩
      have n'4 : n' ≤ 4 := by rcases Tn with h | h <;> omega
      have T80 : B ≤ 2 ^ 80 := Nat.le_trans TB (by decide)
      clear Tb
      refine ⟨_, rfl, u, n', B, T, rfl, hT6.toT, Tne, Tl, n'1, by omega, by omega, Tb', B1, T80, go_c (by omega) Tn (by omega) B1, fun o2 H7 F2 s7 gr2 => ?_⟩
      obtain ⟨dz2, tb2, _, _, _, hz2, hB7, _⟩ := gr2.at_
      refine ⟨o2, CGroups, dz2, _, _, rfl, hz2, Es.clG, Es.gB, rfl, ?_⟩
      have hF2 := gr2.hnf
      have gF2 := gr2.gen
      rw [lT] at hF2
      rw [ker_same hF gF Al lA hF2 gF2 Tl lT sr] at hB7
      clear gr2 hF2 gF2
      refine ⟨_, rfl, neV hB7 (hB6.same s7) ?_⟩
      refine ⟨_, rfl, ?_⟩
      refine iteF ?_
      have cA : chs A (List.range N) = A := by rw [← lA]; exact chs_range
      have cT : chs T (List.range N) = T := by rw [← lT]; exact chs_range
      obtain ⟨s, rA⟩ : ∃ s, RankIs A s := ⟨_, spn_rank Al⟩
      have rT : RankIs T s := by
        have := rank_same lT Tl lA Al (J := List.range N) (fun j hj => List.mem_range.mp hj) sr (by rw [cA]; exact rA)
        rwa [cT] at this
      refine ⟨_, rfl, u, false, T, n', s, rfl, (hT6.same s7).toT.toA, Tne, Tl, by omega, by omega, by omega, fun r hr v hv => Nat.le_trans (Tb' r hr v hv) TB, rT, fun t1 H8 s8 hJ1 _ _ => ?_⟩
      refine ⟨_, rfl, w, false, A, n, s, rfl, ((hA6.same s7).same s8).toT.toA, Ane, Al, by omega, by omega, by omega, fun r hr v hv => Nat.le_trans (Ab r hr v hv) (by decide), rA, fun t2 H9 s9 hJ2 _ _ => ?_⟩
      have hJ3 : TupJ H9 t1 ((subs T.length s).filter (pB T s false)) := by
        obtain ⟨as, h1, h2⟩ := hJ1
        exact ⟨as, s9 _ _ h1, paired_mono h2 fun _ _ z => s9 _ _ z⟩
      rw [lT, pB_same lT Tl lA Al sr] at hJ3
      rw [lA] at hJ2
      refine neJ hJ3 hJ2 ?_
      refine ⟨_, rfl, ?_⟩
      refine iteF ?_
      have s69 := s7.trans (s8.trans s9)
      have P9 := P6.same s69
      have hA9 := hA6.same s69
      have hT9 := hT6.same s69
      have hB9 := hB6.same s69
      clear hJ1 hJ2 hJ3 hA6 hT6 hB6 hB7 P6 s7 s8 s9 s69
      refine ⟨_, rfl, _, rfl, _, rfl, ?_, fun od hod => ?_⟩
      · exact RgOk.of_le (by omega) (by omega) (by omega) (by omega)
      have n1_ := AL.Same.new (o := .lst (rgV 0 (N : Int))) hod
      have ho : upd H9 od (.lst (rgV 0 (N : Int))) od = some (.lst ((List.range N).map fun k : Nat => V.int (k : Int))) := by
        rw [upd_same]
        unfold rgV
        rw [Int.sub_zero, Int.toNat_natCast]
        congr 2
        exact List.map_congr_left fun k _ => show V.int (0 + (k : Int)) = V.int (k : Int) by rw [Int.zero_add]
      refine ⟨p, c, od, _, _, rfl, P9.same n1_, by omega, ho, by rw [List.length_map, List.length_range]; omega, fun ol ys H10 hl0 hly pm P10 k10' => ?_⟩
      obtain ⟨od', pm', rfl⟩ := perm_mapped pm _ rfl
      have k10 := (same_k7 (p := p) n1_).trans k10'
      have hA10 := rowsZ_keep k10 P9 hA9
      have hT10 := rowsZ_keep k10 P9 hT9
      have hB10 := rowsV_keep k10 P9 hB9
      clear n1_ ho k10' k10 hA9 hT9 hB9 pm hl0 hod
      have lo : od'.length = N := by rw [pm'.length_eq, List.length_range]
      have nd : od'.Nodup := pm'.nodup_iff.mpr List.nodup_range
      have bo : ∀ j ∈ od', j < N := fun j hj => List.mem_range.mp (pm'.mem_iff.mp hj)
      obtain ⟨as, A1, A2⟩ := hA10
      have las := prd_len A2
      refine ⟨_, rfl, ol, rfl, ⟨_, SqL.of hly⟩, fun D hD => ?_⟩
      refine lc_list (K := K) (a := ol) (xs := od'.map fun k : Nat => V.int (k : Int)) (fun i H' => Same H10 H' ∧ ∃ bs : List Addr, H' D = some (.lst (bs.map V.ref)) ∧ Paired (fun b r => H10 b = some (.lst (r.map V.int))) bs ((chs A od').take i)) ⟨AL.Same.new hD, [], upd_same, .nil⟩ (fun i H' _ hh => SqL.of (hh.1 _ _ hly)) ?_ ?_
      · rintro i x H11 hx ⟨s11, bs, hd, pr⟩
        rw [List.getElem?_map] at hx
        obtain ⟨jj, hjj, rfl⟩ := Option.map_eq_some_iff.mp hx
        have jl := bo jj (List.mem_of_getElem? hjj)
        have lbs := prd_len pr
        rw [List.length_take, chs_len] at lbs
        have ja : jj < as.length := by omega
        have ga := atI_of (xs := as.map V.ref) (j := jj) (by rw [List.length_map]; exact ja)
        rw [List.getElem?_map, List.getElem?_eq_getElem ja] at ga
        obtain ⟨r, hr, hra⟩ := prd_get A2 (List.getElem?_eq_getElem ja)
        have gr : A.getD jj [] = r := by rw [List.getD_eq_getElem?_getD, hr]; rfl
        refine ⟨rfl, ?_⟩
        refine ⟨_, rfl, _, rfl, w, _, _, _, rfl, rfl, SqL.of (s11 _ _ A1), ga, ?_⟩
        refine ⟨_, hd, ?_, AL.Same.updn s11 hD, bs ++ [as[jj]], by rw [upd_same, List.map_append]; rfl, ?_⟩
        · rw [List.length_map, lbs]; exact Nat.lt_of_le_of_lt (by omega : _ ≤ 1000) (by decide)
        · rw [List.take_add_one, show (chs A od')[i]? = some r by unfold chs; rw [List.getElem?_map, hjj, ← gr]; rfl]
          exact prd_snoc pr hra
      rintro H11 ⟨s11, bs, hd, pr⟩
      rw [List.take_of_length_le (by rw [List.length_map, chs_len]; exact Nat.le_refl _)] at pr
      have hC : RowsZ H11 D (chs A od') := ⟨bs, hd, paired_mono pr fun _ _ z => s11 _ _ z⟩
      have Cin := chs_in (A := A) (J := od') (by rw [lA]; exact bo)
      have lC : (chs A od').length = N := by rw [chs_len]; exact lo
      refine ⟨D, n, 640, chs A od', rfl, hC.toT, (fun z => by rw [z] at lC; simp at lC; omega), fun r hr => Al r (Cin r hr), n1, by omega, by omega, fun r hr => Ab r (Cin r hr), by decide, by decide, go_c (by omega) (.inl ⟨n3, by decide⟩) (by omega) (by decide), fun o3 H12 F3 s12 gr3 => ?_⟩
      obtain ⟨dz3, tt, _, _, _, hz3, hT12, _⟩ := gr3.at_
      refine ⟨o3, CGroups, dz3, _, _, rfl, hz3, Es.clG, Es.gB, rfl, ?_⟩
      have hF3 := gr3.hnf
      have gF3 := gr3.gen
      have lF3 := gr3.ln
      have bF3 := gr3.bd
      rw [lC] at hF3 lF3
      clear gr3
      have Cl : ∀ r ∈ chs A od', r.length = n := fun r hr => Al r (Cin r hr)
      have s1012 := s11.trans s12
      have hly12 := s1012 _ _ hly
      have hB12 := hB10.same s1012
      have hA12 : RowsZ H12 w A := RowsZ.same ⟨as, A1, A2⟩ s1012
      have hT12' := hT10.same s1012
      have P12 := P10.same s1012
      clear pr hd hC s11 s12 s1012 hly hB10 hT10 A1 A2 las P10 hD
      have hK := ker_hnf hF
      have lK : (kerF n F).length ≤ N := by unfold kerF; rw [List.length_map, ← lF]; exact List.length_filter_le _ _
      have bK : ∀ {F : List Rw}, (∀ f ∈ F, BdR (2 ^ 80) f) → ∀ r ∈ kerF n F, BdR (2 ^ 80) r := fun h r hr => by
        unfold kerF at hr
        obtain ⟨f, hf, rfl⟩ := List.mem_map.mp hr
        exact fun j => by rw [drop_vl]; exact h f (List.mem_filter.mp hf).1 _
      have bK1 := bK bF
      have bK3 := bK bF3
      have lk3 : (kerF n F3).length ≤ N := by unfold kerF; rw [List.length_map, ← lF3]; exact List.length_filter_le _ _
      obtain ⟨ts, T1, T2⟩ := hT12
      have lts := prd_len T2
      refine ⟨_, rfl, tt, rfl, ⟨_, SqT.of T1⟩, fun D2 hD2 => ?_⟩
      refine lc_tup (K := K) (a := tt) (xs := ts.map V.ref) (fun i H' => Same H12 H' ∧ ∃ bs : List Addr, H' D2 = some (.lst (bs.map V.ref)) ∧ Paired (fun b r => H' b = some (.tup (r.map V.int))) bs (((kerF n F3).map (bkR od' N)).take i)) ⟨AL.Same.new hD2, [], upd_same, .nil⟩ (fun i H' _ hh => SqT.of (hh.1 _ _ T1)) ?_ ?_
      · rintro i x H13 hx ⟨s13, bs2, hd2, pr2⟩
        obtain ⟨ta, hta, rfl⟩ := map_ref hx
        obtain ⟨r, hr, hra⟩ := prd_get T2 hta
        have il := (List.getElem?_eq_some_iff.mp hr).1
        have mr := List.mem_of_getElem? hr
        have lr := (ker_hnf hF3).len r mr
        have lbs2 := prd_len pr2
        rw [List.length_take, List.length_map] at lbs2
        refine ⟨rfl, ?_⟩
        refine ⟨_, rfl, _, rfl, by omega, by omega, fun D3 hD3 => ?_⟩
        refine lc_range (lo := 0) (n := ((N : Nat) : Int).toNat) (fun t H' => Same H13 H' ∧ H' D3 = some (.lst (((bkR od' N r).take t).map V.int))) ⟨AL.Same.new hD3, upd_same⟩ ?_ ?_
        · rintro t H14 ht ⟨s14, hd3⟩
          rw [Int.toNat_natCast] at ht
          have tm : t ∈ od' := pm'.mem_iff.mpr (List.mem_range.mpr ht)
          have kl : plc od' t < od'.length := List.findIdx_lt_length_of_exists ⟨t, tm, by simp⟩
          have ke : od'[plc od' t] = t := by
            have := List.findIdx_getElem (xs := od') (p := (· == t)) (w := kl)
            exact eq_of_beq this
          have hol := s14 _ _ (s13 _ _ hly12)
          have hta14 := s14 _ _ (s13 _ _ hra)
          have g1 : atI (r.map V.int) ((plc od' t : Nat) : Int) = some (.int (vl r (plc od' t))) := by rw [atI_of (by rw [List.length_map]; omega), List.getElem?_map, vl_at (by omega)]; rfl
          refine ⟨rfl, ?_⟩
          refine ⟨_, rfl, _, rfl, .inl ⟨rfl, _, SqL.of hol⟩, _, rfl, ol, _, _, plc od' t, V.int ((od'[plc od' t] : Nat) : Int), rfl, rfl, SqL.of hol, rfl, ?_, ?_, ?_, ?_, ta, _, _, _, rfl, rfl, SqT.of hta14, g1, ?_⟩
          · rw [List.all_eq_true]
            intro x hx
            obtain ⟨k, _, rfl⟩ := List.mem_map.mp hx
            rfl
          · rw [List.getElem?_map, List.getElem?_eq_getElem kl]; rfl
          · rw [ke, Int.zero_add]; show ((t : Int) == (t : Int)) = true; exact beq_self_eq_true _
          · intro k z hk hz
            rw [List.getElem?_map] at hz
            obtain ⟨y, hy, rfl⟩ := Option.map_eq_some_iff.mp hz
            obtain ⟨yl, ey⟩ := List.getElem?_eq_some_iff.mp hy
            have := List.not_of_lt_findIdx (xs := od') (p := (· == t)) hk
            rw [ey] at this
            have ne : y ≠ t := by simpa using this
            show ((y : Int) == (0 + (t : Int))) = false
            rw [Int.zero_add]
            exact beq_eq_false_iff_ne.mpr (by omega)
          refine ⟨_, hd3, ?_, AL.Same.updn s14 hD3, ?_⟩
          · rw [List.length_map, List.length_take]; exact Nat.lt_of_le_of_lt (by omega : _ ≤ 1000) (by decide)
          · have g : (bkR od' N r)[t]? = some (vl r (plc od' t)) := by unfold bkR; rw [List.getElem?_map, List.getElem?_range ht]; rfl
            rw [upd_same, List.take_add_one, g, List.map_append]; rfl
        rintro H14 ⟨s14, hd3⟩
        rw [Int.toNat_natCast, List.take_of_length_le (by unfold bkR; rw [List.length_map, List.length_range]; exact Nat.le_refl _)] at hd3
        refine ⟨D3, _, rfl, .inl ⟨SqL.of hd3, fun tp htp => ?_⟩⟩
        have np := AL.Same.new (o := .tup ((bkR od' N r).map V.int)) htp
        have s134 := s14.trans np
        have hd2' := s134 _ _ hd2
        refine ⟨_, hd2', ?_, AL.Same.updn (s13.trans s134) hD2, bs2 ++ [tp], by rw [upd_same, List.map_append]; rfl, ?_⟩
        · rw [List.length_map, lbs2]; exact Nat.lt_of_le_of_lt (by omega : _ ≤ 1000) (by decide)
        · have tu := upd_tups (o := .lst (bs2.map V.ref ++ [.ref tp])) hd2' (fun _ z => nomatch z)
          rw [List.take_add_one, List.getElem?_map, hr]
          exact prd_snoc (paired_mono pr2 fun _ _ z => tu _ _ (s134 _ _ z)) (tu _ _ upd_same)
      rintro H13 ⟨s13, bs2, hd2, pr2⟩
      rw [List.take_of_length_le (by rw [List.length_map, List.length_map, lts]; exact Nat.le_refl _)] at pr2
      have lbs2 := prd_len pr2
      rw [List.length_map] at lbs2
      have hB13 := hB12.same s13
      refine ⟨fun σ' H' => ∃ v7 v8 v9 v10 v11 v12 v13 v14 v15 : Option V, σ' = [some (.ref a), some (.ref p), some (.int (0 + (turn : Int))), some (.int (N : Int)), some (.ref w), some (.ref tb), some (.ref u), v7, v8, v9, v10, v11, v12, v13, v14, v15] ∧ Pen H' p c (3000 * turn + 1 + 1 + 20 * N + 200 + 100) ∧ RowsZ H' w A ∧ RowsZ H' u T ∧ RowsV H' tb (kerF n F), ?_, ?_⟩
      · skip
        refine ⟨_, rfl, D2, rfl, ⟨_, SqL.of hd2⟩, fun D4 hD4 => ?_⟩
        refine lc_list (K := K) (a := D2) (xs := bs2.map V.ref) (fun j H' => Same H13 H' ∧ H' D4 = some (.lst [])) ⟨AL.Same.new hD4, upd_same⟩ (fun j H' _ hh => SqL.of (hh.1 _ _ hd2)) ?_ ?_
        · rintro j x0 H14 hx0 ⟨s14, hd4⟩
          obtain ⟨b, hb, rfl⟩ := map_ref hx0
          obtain ⟨r, hr, hrb⟩ := prd_get pr2 hb
          obtain ⟨u0, hu0, rfl⟩ := List.mem_map.mp (List.mem_of_getElem? hr)
          obtain ⟨lu0, zu0⟩ := ker_rel hF3 gF3 Cl lC hu0
          have lbk : (bkR od' N u0).length = N := by unfold bkR; rw [List.length_map, List.length_range]
          have bbk : BdR (2 ^ 80) (bkR od' N u0) := bd_len (W := 0).mpr fun v hv => by
            unfold bkR at hv
            obtain ⟨k, _, rfl⟩ := List.mem_map.mp hv
            exact bK3 u0 hu0 _
          refine ⟨rfl, ?_⟩
          refine ⟨_, rfl, _, rfl, tb, b, N, 80, kerF n F, bkR od' N u0, rfl, hB13.same s14, .inr (s14 _ _ hrb), hK, lbk, ker_lat hF gF Al lA (fun i hi => vl_out (by omega)) (fun c => bk_rel pm' (zu0 c)), by omega, by omega, bbk, bK1, by decide, fun H15 s15 => ?_⟩
          refine ⟨true, rfl, ?_⟩
          refine iteF ?_
          exact ⟨s14.trans s15, s15 _ _ hd4⟩
        rintro H14 ⟨s14, hd4⟩
        refine ⟨(by show 0 ≤ sizeLine; decide), fun e he => ?_⟩
        have ne_ := AL.Same.new (o := .lst []) he
        refine ne_none (ne_ _ _ hd4) upd_same ?_
        refine ⟨_, rfl, ?_⟩
        refine iteF ?_
        have s134 := s14.trans ne_
        generalize upd H14 e (.lst []) = H15 at s134 ⊢
        have hd15 := s134 _ _ hd2
        have hB15 := hB13.same s134
        have k1 := ker_len hF gF Al lA rA lF
        have k3 := ker_len hF3 gF3 Cl lC (chs_rank lA Al pm' rA) lF3
        obtain ⟨ks, K1, K2⟩ := id hB15
        have lks := prd_len K2
        refine ⟨_, rfl, D2, _, rfl, .inl (SqL.of hd15), _, rfl, tb, _, rfl, .inr (SqT.of K1), rfl, _, rfl, ?_⟩
        rw [List.length_map, List.length_map, lbs2, lks, show (kerF n F3).length = (kerF n F).length by omega, decide_eq_true rfl]
        refine iteF ?_
        have s15 := s13.trans s134
        have P15 := P12.same s15
        have hA15 := hA12.same s15
        have hT15 := hT12'.same s15
        exact ⟨_, _, _, _, _, _, _, _, _, rfl, P15, hA15, hT15, hB15⟩
      clear lbs2 pr2 hd2 hB13 hB12 hA12 hT12' P12 T1 T2 lts s13 hF3 gF3 lF3 bF3 bK3 lk3 Cl Cin lC hly12 hz1 hz2 hz3 hD2 P9 pm' lo nd bo cA cT rT
      rintro σ' H15 ⟨v7, v8, v9, v10, v11, v12, v13, v14, v15, rfl, P15, hA15, hT15, hB15⟩
      have k1 := ker_len hF gF Al lA rA lF
      refine ⟨_, rfl, _, rfl, by omega, by omega, fun pl hpl => ?_⟩
      obtain ⟨pD, cD⟩ := pen_ne7 P15 hpl
      have nD := AL.Same.new (o := .lst []) hpl
      refine lc_range (lo := 0) (n := ((N : Nat) : Int).toNat) (fun j H' => Pen H' p c (3000 * turn + 1 + 1 + 20 * N + 200 + 100 + j) ∧ Keep p H15 H' ∧ ∃ qs : List Int, H' pl = some (.lst (qs.map V.int)) ∧ qs.length = j ∧ ∀ x ∈ qs, x.natAbs ≤ 2) ⟨(P15.same nD).mono (by omega), same_k7 nD, [], upd_same, rfl, (fun r hr => nomatch hr)⟩ ?_ ?_
      · rintro j H16 hj ⟨P16, k16, qs, hq, lq, bq⟩
        rw [Int.toNat_natCast] at hj
        refine ⟨rfl, ?_⟩
        refine ⟨_, rfl, p, c, _, (5 : Int), rfl, P16, by omega, by decide, by decide, fun v H17 v0 v1 P17 k17 => ⟨_, _, rfl, rfl, ?_⟩⟩
        refine ⟨_, k17.at P16 hq (fun _ z => nomatch z), ?_, (pen_upd (P17) pD cD).mono (by omega), keep_upd (k16.trans k17) hpl, qs ++ [v - 2], ?_, ?_, ?_⟩
        · rw [List.length_map, lq]; exact Nat.lt_of_lt_of_le (by omega : j < 9) (by decide)
        · rw [upd_same, List.map_append]; rfl
        · rw [List.length_append, lq]; rfl
        · intro y hy
          rcases List.mem_append.mp hy with hy | hy
          · exact bq y hy
          · rw [List.mem_singleton.mp hy]; omega
      rintro H16 ⟨P16, k16, qs, hq, lq, bq⟩
      rw [Int.toNat_natCast] at P16 lq
      have hA16 := rowsZ_keep k16 P15 hA15
      have hT16 := rowsZ_keep k16 P15 hT15
      have hB16 := rowsV_keep k16 P15 hB15
      clear k16 P15 hA15 hT15 hB15 nD pD cD hpl
      refine ⟨_, rfl, _, rfl, w, n, A, rfl, hA16.toT, Ane, Al, by omega, by omega, fun C0 H17 hC0 s17 hC => ?_⟩
      obtain ⟨cs, C1, C2⟩ := hC
      have lcs := prd_len C2
      rw [trM_len] at lcs
      have hq17 := s17 _ _ hq
      refine ⟨C0, rfl, ⟨_, SqL.of C1⟩, fun D5 hD5 => ?_⟩
      refine lc_list (K := K) (a := C0) (xs := cs.map V.ref) (fun j H' => Same H17 H' ∧ H' D5 = some (.lst ((((trM n A).map (dotI qs)).take j).map V.int))) ⟨AL.Same.new hD5, upd_same⟩ (fun j H' _ hh => SqL.of (hh.1 _ _ C1)) ?_ ?_
      · rintro j x H18 hx ⟨s18, hd⟩
        obtain ⟨b, hb, rfl⟩ := map_ref hx
        obtain ⟨col, hc, hcb⟩ := prd_get C2 hb
        have jl := (List.getElem?_eq_some_iff.mp hc).1
        rw [trM_len] at jl
        obtain ⟨lc, j', hj', ec⟩ := trM_row (List.mem_of_getElem? hc)
        refine ⟨rfl, ?_⟩
        refine ⟨_, rfl, _, rfl, pl, b, qs, col, rfl, .inl (s18 _ _ hq17), .inl (s18 _ _ hcb), by omega, by omega, fun x hx => Nat.lt_of_le_of_lt (bq x hx) (by decide), fun x hx => ?_, fun H19 s19 => ?_⟩
        · rw [ec] at hx
          obtain ⟨y, hy, rfl⟩ := List.mem_map.mp hx
          exact Nat.lt_of_le_of_lt (Ab y hy _ (vl_mem (by rw [Al y hy]; exact hj'))) (by decide)
        refine ⟨_, s19 _ _ hd, ?_, AL.Same.updn (s18.trans s19) hD5, ?_⟩
        · rw [List.length_map, List.length_take, List.length_map, trM_len]; exact Nat.lt_of_le_of_lt (by omega : _ ≤ 1000) (by decide)
        · rw [upd_same, List.take_add_one, List.getElem?_map, hc, List.map_append]; rfl
      rintro H18 ⟨s18, hd⟩
      rw [List.take_of_length_le (by rw [List.length_map, List.length_map, trM_len]; omega)] at hd
      have ld : ((trM n A).map (dotI qs)).length = n := by rw [List.length_map, trM_len]
      have vd : ∀ c, vl ((trM n A).map (dotI qs)) c = sg N A (vl qs) c := fun c => by
        by_cases hc : c < n
        · rw [vl_get (by rw [List.getElem?_map, trM_at hc]; rfl), dotI_sm _ _ (by rw [List.length_map]; omega), List.length_map, lA]
          unfold sg
          exact sm_congr fun i hi => by rw [show (A.map fun r => vl r c).getD i 0 = vl (A.map fun r => vl r c) i from rfl, mapvl (by omega)]; rfl
        · rw [sg_out lA Al (by omega), vl_out (by omega)]
      have bd_ : ∀ v ∈ (trM n A).map (dotI qs), v.natAbs ≤ 7680 := fun v hv => by
        obtain ⟨col, hc, rfl⟩ := List.mem_map.mp hv
        have h1 := dotI_bd (r := qs) (k := col) (b := 2) (c := 640) bq (trM_bd Ab col hc)
        have h2 : qs.length * (2 * 640) ≤ 6 * (2 * 640) := Nat.mul_le_mul_right _ (by omega)
        omega
      generalize (trM n A).map (dotI qs) = dR at hd ld vd bd_
      refine ⟨(by show 1 ≤ sizeLine; decide), fun l4 hl4 => ?_⟩
      have n4 := AL.Same.new (o := .lst [.ref D5]) hl4
      have s16 := s17.trans (s18.trans n4)
      obtain ⟨as, A1, A2⟩ := id hA16
      have las := prd_len A2
      refine ⟨w, l4, _, _, rfl, rfl, s16 _ _ A1, upd_same, ?_, fun R hR => ?_⟩
      · rw [List.length_map, las]; exact Nat.le_of_lt (Nat.lt_of_le_of_lt (show A.length + 1 ≤ 1000 by omega) (by decide))
      have nR := AL.Same.new (o := .lst (as.map V.ref ++ [V.ref D5])) hR
      have s6 := s16.trans nR
      have hM : RowsZ (upd (upd H18 l4 (.lst [.ref D5])) R (.lst (as.map V.ref ++ [V.ref D5]))) R (A ++ [dR]) := ⟨as ++ [D5], by rw [upd_same, List.map_append]; rfl, prd_snoc (paired_mono A2 fun _ _ z => s6 _ _ z) ((n4.trans nR) _ _ hd)⟩
      generalize upd (upd H18 l4 (.lst [.ref D5])) R (.lst (as.map V.ref ++ [V.ref D5])) = H19 at s6 hM ⊢
      have lM : (A ++ [dR]).length = N + 1 := by rw [List.length_append, lA]; rfl
      have Ml : ∀ r ∈ A ++ [dR], r.length = n := fun r hr => by
        rcases List.mem_append.mp hr with h | h
        · exact Al r h
        · rw [List.mem_singleton.mp h]; exact ld
      have Mb : ∀ r ∈ A ++ [dR], ∀ v ∈ r, v.natAbs ≤ 7680 := fun r hr v hv => by
        rcases List.mem_append.mp hr with h | h
        · exact Nat.le_trans (Ab r h v hv) (by decide)
        · rw [List.mem_singleton.mp h] at hv; exact bd_ v hv
      refine ⟨_, rfl, R, n, 7680, A ++ [dR], rfl, hM.toT, (fun z => by rw [z] at lM; simp at lM), Ml, n1, by omega, by omega, Mb, by decide, by decide, go_c (by omega) (.inr ⟨by omega, by decide⟩) (by omega) (by decide), fun o4 H20 F4 s20 gr4 => ?_⟩
      obtain ⟨dz4, tw, _, _, _, hz4, hW20, _⟩ := gr4.at_
      refine ⟨o4, CGroups, dz4, _, _, rfl, hz4, Es.clG, Es.gB, rfl, ?_⟩
      have hF4 := gr4.hnf
      have gF4 := gr4.gen
      have lF4 := gr4.ln
      have bF4 := gr4.bd
      rw [lM] at hF4 lF4
      clear gr4 hM hz4
      have s1620 := s6.trans s20
      have P20 := P16.same s1620
      have hq20 : LI H20 pl qs := s1620 _ _ hq
      have hA20 := hA16.same s1620
      have hT20 := hT16.same s1620
      have hB20 := hB16.same s1620
      clear s6 s20 s1620 P16 hq hA16 hT16 hB16 A1 A2 C1 C2 hq17 hd n4 nR s16 s17 s18 hC0 hD5 hl4 hR
      have k4 := ker_len hF4 gF4 Ml lM (more_rank lA Al ld vd rA) lF4
      obtain ⟨ws, W1, W2⟩ := id hW20
      obtain ⟨ks, K1, K2⟩ := id hB20
      have lws := prd_len W2
      have lks := prd_len K2
      refine ⟨_, rfl, tw, _, rfl, .inr (SqT.of W1), _, rfl, tb, _, rfl, .inr (SqT.of K1), _, _, rfl, rfl, rfl, _, rfl, ?_⟩
      rw [List.length_map, List.length_map, lws, lks, decide_eq_true (congrArg V.int (by omega))]
      refine iteF ?_
      refine ⟨_, rfl, _, rfl, pl, _, rfl, .inl ⟨SqL.of hq20, fun tp htp => ?_⟩⟩
      have np := AL.Same.new (o := .tup (qs.map V.int)) htp
      refine ⟨_, rfl, (by show 1 ≤ sizeLine; decide), fun t1 ht1 => ?_⟩
      have n1_ := AL.Same.new (o := .tup [.int (-1)]) ht1
      have hW21 : RowsV (upd (upd H20 tp (.tup (qs.map V.int))) t1 (.tup [.int (-1)])) tw (kerF n F4) := (hW20.same np).same n1_
      have hK4 := ker_hnf hF4
      have lK4 : (kerF n F4).length ≤ N + 1 := by omega
      have bK4 := bK bF4
      have s20 := np.trans n1_
      refine catA_one (n1_ _ _ upd_same) upd_same (by simp) (by rw [List.length_map]; show qs.length + 1 ≤ 100; omega) fun tq H21 s21 htq => ?_
      generalize upd (upd H20 tp (.tup (qs.map V.int))) t1 (.tup [.int (-1)]) = Hx at hW21 s20 s21
      clear np n1_ ht1 htp
      have bqs : BdR (2 ^ 80) (qs ++ [-1]) := bd_len (W := 0).mpr fun v hv => by
        rcases List.mem_append.mp hv with h | h
        · exact Nat.le_trans (bq v h) (by decide)
        · rw [List.mem_singleton.mp h]; decide
      refine ⟨tw, tq, N + 1, 80, kerF n F4, qs ++ [-1], rfl, hW21.same s21, .inr (by rw [htq, List.map_append]; rfl), hK4, by rw [List.length_append, lq]; rfl, ker_lat hF4 gF4 Ml lM (fun i hi => vl_out (by rw [List.length_append, lq, List.length_singleton]; omega)) (fun c => by rw [sg_snoc lA lq, vd]; omega), by omega, by omega, bqs, bK4, by decide, fun H22 s22 => ?_⟩
      refine ⟨true, rfl, ?_⟩
      refine iteF ?_
      have s2022 := s20.trans (s21.trans s22)
      have hA22 := hA20.same s2022
      have hT22 := hT20.same s2022
      have hB22 := hB20.same s2022
      have hW22 := hW20.same s2022
      have P22 := P20.same s2022
      clear hW21 s20 s21 s22 s2022 htq hA20 hT20 hB20 hW20 P20 W1 W2 K1 K2 lws lks hq20
      obtain ⟨ks, K1, K2⟩ := id hB22
      have lks := prd_len K2
      refine ⟨fun σ' H' => ∃ v5 v7 v8 v9 v10 v11 v12 v13 v14 v15 : Option V, σ' = [some (.ref a), some (.ref p), some (.int (0 + (turn : Int))), some (.int (N : Int)), some (.ref w), v5, some (.ref u), v7, v8, v9, v10, v11, v12, v13, v14, v15] ∧ Pen H' p c (3000 * turn + 600) ∧ RowsZ H' w A ∧ RowsZ H' u T, ?_, ?_⟩
      · skip
        refine ⟨_, rfl, tb, rfl, ⟨_, SqT.of K1⟩, fun D7 hD7 => ?_⟩
        refine lc_tup (K := K) (a := tb) (xs := ks.map V.ref) (fun j H' => Same H22 H' ∧ H' D7 = some (.lst [])) ⟨AL.Same.new hD7, upd_same⟩ (fun j H' _ hh => SqT.of (hh.1 _ _ K1)) ?_ ?_
        · rintro j x0 H23 hx0 ⟨s23, hd7⟩
          obtain ⟨b, hb, rfl⟩ := map_ref hx0
          obtain ⟨r, hr, hrb⟩ := prd_get K2 hb
          have mr := List.mem_of_getElem? hr
          obtain ⟨lr, zr⟩ := ker_rel hF gF Al lA mr
          refine ⟨rfl, ?_⟩
          refine ⟨_, rfl, _, rfl, (by show 1 ≤ sizeLine; decide), fun t0 ht0 => ?_⟩
          have n0_ := AL.Same.new (o := .tup [.int 0]) ht0
          refine catA_one (n0_ _ _ (s23 _ _ hrb)) upd_same (by simp) (by rw [List.length_map]; show r.length + 1 ≤ 100; omega) fun tq H24 s24 htq => ?_
          have br : BdR (2 ^ 80) (r ++ [0]) := bd_len (W := 0).mpr fun v hv => by
            rcases List.mem_append.mp hv with h | h
            · exact bd_len (W := 0).mp (bK1 r mr) v h
            · rw [List.mem_singleton.mp h]; exact Nat.zero_le _
          refine ⟨tw, tq, N + 1, 80, kerF n F4, r ++ [0], rfl, ((hW22.same s23).same n0_).same s24, .inr (by rw [htq, List.map_append]; rfl), hK4, by rw [List.length_append, lr]; rfl, ker_lat hF4 gF4 Ml lM (fun i hi => vl_out (by rw [List.length_append, lr, List.length_singleton]; omega)) (fun c => by rw [sg_snoc lA lr, zr c]; simp), by omega, by omega, br, bK4, by decide, fun H25 s25 => ?_⟩
          refine ⟨true, rfl, ?_⟩
          refine iteF ?_
          have s2325 := n0_.trans (s24.trans s25)
          exact ⟨s23.trans s2325, s2325 _ _ hd7⟩
        rintro H23 ⟨s23, hd7⟩
        refine ⟨(by show 0 ≤ sizeLine; decide), fun e2 he2 => ?_⟩
        have ne2 := AL.Same.new (o := .lst []) he2
        refine ne_none (ne2 _ _ hd7) upd_same ?_
        refine ⟨_, rfl, ?_⟩
        refine iteF ?_
        have s2224 := s23.trans ne2
        generalize upd H23 e2 (.lst []) = H24 at s2224 ⊢
        have hA24 := hA22.same s2224
        have hT24 := hT22.same s2224
        have P24 := P22.same s2224
        exact ⟨_, _, _, _, _, _, _, _, _, _, rfl, P24.mono (by omega), hA24, hT24⟩
      clear hA22 hT22 hB22 hW22 P22 K1 K2 lks hF4 gF4 lF4 bF4 hK4 lK4 bK4 k4 bqs lM Ml Mb vd bd_ ld bq lq k1 rA bK1 hK lK
      rintro σ' H24 ⟨v5, v7, v8, v9, v10, v11, v12, v13, v14, v15, rfl, P24, hA24, hT24⟩
      obtain ⟨asx, A1x, A2x⟩ := id hT24
      obtain ⟨a0x, asx', rfl⟩ : ∃ a0 as', asx = a0 :: as' := by
        cases asx with
        | nil => have := prd_len A2x; simp at this; omega
        | cons a b => exact ⟨a, b, rfl⟩
      have lasx := prd_len A2x
      have h0x : H24 a0x = some (.lst ((T.getD 0 []).map V.int)) := by
        obtain ⟨r, hr, hra⟩ := prd_get A2x (show (a0x :: asx')[0]? = some a0x from rfl)
        rw [List.getD_eq_getElem?_getD, hr]; exact hra
      refine ⟨_, rfl, _, rfl, _, rfl, u, _, rfl, SqL.of A1x, fun px hpx => ?_⟩
      rw [show cutV ((a0x :: asx').map V.ref) none (some (1 : Int)) = ((a0x :: asx').map V.ref).take 1 from cutV_to 1]
      have nx := AL.Same.new (o := .lst (((a0x :: asx').map V.ref).take 1)) hpx
      have hpx1 : upd H24 px (.lst (((a0x :: asx').map V.ref).take 1)) px = some (.lst [.ref a0x]) := upd_same
      refine ⟨u, px, _, _, rfl, rfl, nx _ _ A1x, hpx1, ?_, fun Rx hRx => ?_⟩
      · rw [List.length_map, lasx]; exact Nat.le_of_lt (Nat.lt_of_le_of_lt (show T.length + 1 ≤ 1000 by omega) (by decide))
      have nRx := AL.Same.new (o := .lst ((a0x :: asx').map V.ref ++ [V.ref a0x])) hRx
      have sx := nx.trans nRx
      have hMx : RowsZ (upd (upd H24 px (.lst (((a0x :: asx').map V.ref).take 1))) Rx (.lst ((a0x :: asx').map V.ref ++ [V.ref a0x]))) Rx (T ++ [T.getD 0 []]) := ⟨(a0x :: asx') ++ [a0x], by rw [upd_same, List.map_append]; rfl, prd_snoc (paired_mono A2x fun _ _ z => sx _ _ z) (sx _ _ h0x)⟩
      generalize upd (upd H24 px (.lst (((a0x :: asx').map V.ref).take 1))) Rx (.lst ((a0x :: asx').map V.ref ++ [V.ref a0x])) = HMx at sx hMx ⊢
      have m0x : T.getD 0 [] ∈ T := getD_in (by omega)
      have lMx : (T ++ [T.getD 0 []]).length = N + 1 := by rw [List.length_append, lT]; rfl
      have Mlx : ∀ r ∈ T ++ [T.getD 0 []], r.length = n' := fun r hr => by
        rcases List.mem_append.mp hr with h | h
        · exact Tl r h
        · rw [List.mem_singleton.mp h]; exact Tl _ m0x
      have Mbx : ∀ r ∈ T ++ [T.getD 0 []], ∀ v ∈ r, v.natAbs ≤ B := fun r hr => by
        rcases List.mem_append.mp hr with h | h
        · exact Tb' r h
        · rw [List.mem_singleton.mp h]; exact Tb' _ m0x
      refine ⟨Rx, n', B, T ++ [T.getD 0 []], rfl, hMx.toT, (fun z => by rw [z] at lMx; simp at lMx), Mlx, n'1, by omega, by omega, Mbx, B1, T80, go_c (by omega) Tn (by omega) B1, fun ox HGx Fx sGx grx => ?_⟩
      obtain ⟨dzx, tx, _, _, _, hzx, hRx_, _⟩ := grx.at_
      refine ⟨ox, CGroups, dzx, _, _, rfl, hzx, Es.clG, Es.gB, rfl, ?_⟩
      have hFx := grx.hnf
      have gFx := grx.gen
      have lFx := grx.ln
      have bFx := grx.bd
      rw [lMx] at hFx lFx
      have sx2 := sx.trans sGx
      have hA25 := hA24.same sx2
      obtain ⟨asy, A1y, A2y⟩ := id hA25
      obtain ⟨a0y, asy', rfl⟩ : ∃ a0 as', asy = a0 :: as' := by
        cases asy with
        | nil => have := prd_len A2y; simp at this; omega
        | cons a b => exact ⟨a, b, rfl⟩
      have lasy := prd_len A2y
      have h0y : HGx a0y = some (.lst ((A.getD 0 []).map V.int)) := by
        obtain ⟨r, hr, hra⟩ := prd_get A2y (show (a0y :: asy')[0]? = some a0y from rfl)
        rw [List.getD_eq_getElem?_getD, hr]; exact hra
      refine ⟨_, rfl, _, rfl, _, rfl, w, _, rfl, SqL.of A1y, fun py hpy => ?_⟩
      rw [show cutV ((a0y :: asy').map V.ref) none (some (1 : Int)) = ((a0y :: asy').map V.ref).take 1 from cutV_to 1]
      have ny := AL.Same.new (o := .lst (((a0y :: asy').map V.ref).take 1)) hpy
      have hpy1 : upd HGx py (.lst (((a0y :: asy').map V.ref).take 1)) py = some (.lst [.ref a0y]) := upd_same
      refine ⟨w, py, _, _, rfl, rfl, ny _ _ A1y, hpy1, ?_, fun Ry hRy => ?_⟩
      · rw [List.length_map, lasy]; exact Nat.le_of_lt (Nat.lt_of_le_of_lt (show A.length + 1 ≤ 1000 by omega) (by decide))
      have nRy := AL.Same.new (o := .lst ((a0y :: asy').map V.ref ++ [V.ref a0y])) hRy
      have sy := ny.trans nRy
      have hMy : RowsZ (upd (upd HGx py (.lst (((a0y :: asy').map V.ref).take 1))) Ry (.lst ((a0y :: asy').map V.ref ++ [V.ref a0y]))) Ry (A ++ [A.getD 0 []]) := ⟨(a0y :: asy') ++ [a0y], by rw [upd_same, List.map_append]; rfl, prd_snoc (paired_mono A2y fun _ _ z => sy _ _ z) (sy _ _ h0y)⟩
      generalize upd (upd HGx py (.lst (((a0y :: asy').map V.ref).take 1))) Ry (.lst ((a0y :: asy').map V.ref ++ [V.ref a0y])) = HMy at sy hMy ⊢
      have m0y : A.getD 0 [] ∈ A := getD_in (by omega)
      have lMy : (A ++ [A.getD 0 []]).length = N + 1 := by rw [List.length_append, lA]; rfl
      have Mly : ∀ r ∈ A ++ [A.getD 0 []], r.length = n := fun r hr => by
        rcases List.mem_append.mp hr with h | h
        · exact Al r h
        · rw [List.mem_singleton.mp h]; exact Al _ m0y
      have Mby : ∀ r ∈ A ++ [A.getD 0 []], ∀ v ∈ r, v.natAbs ≤ 640 := fun r hr => by
        rcases List.mem_append.mp hr with h | h
        · exact Ab r h
        · rw [List.mem_singleton.mp h]; exact Ab _ m0y
      refine ⟨Ry, n, 640, A ++ [A.getD 0 []], rfl, hMy.toT, (fun z => by rw [z] at lMy; simp at lMy), Mly, n1, by omega, by omega, Mby, (by decide), (by decide), go_c (by omega) (.inl ⟨n3, by decide⟩) (by omega) (by decide), fun oy HGy Fy sGy gry => ?_⟩
      obtain ⟨dzy, ty, _, _, _, hzy, hRy_, _⟩ := gry.at_
      refine ⟨oy, CGroups, dzy, _, _, rfl, hzy, Es.clG, Es.gB, rfl, ?_⟩
      have hFy := gry.hnf
      have gFy := gry.gen
      have lFy := gry.ln
      have bFy := gry.bd
      rw [lMy] at hFy lFy
      rw [ker_same hFy gFy Mly lMy hFx gFx Mlx lMx (rel_twice lA lT N1 sr)] at hRx_
      have hKy := ker_hnf hFy
      have lKy : (kerF n Fy).length ≤ N + 1 := by unfold kerF; rw [List.length_map, ← lFy]; exact List.length_filter_le _ _
      refine ⟨tx, ty, N + 1, 80, kerF n Fy, rfl, (hRx_.same sy).same sGy, hRy_, hKy, by omega, by omega, bK bFy, by decide, fun H26 s26 => ?_⟩
      refine ⟨true, rfl, ?_⟩
      refine iteF ?_
      exact ⟨_, _, _, _, _, _, _, _, _, _, _, _, _, _, rfl, (P24.same (sx2.trans (sy.trans (sGy.trans s26)))).mono (by omega)⟩
    rintro σ H1 ⟨v2, v3, v4, v5, v6, v7, v8, v9, v10, v11, v12, v13, v14, v15, rfl, P1⟩
    exact q H1
end
end AL
set_option Elab.async false
set_option maxRecDepth 100000
set_option maxHeartbeats 2000000
/-! The end of a law that makes lambdas, and whose defs ask repr. -/
namespace AL
open PySem PySem.Spec PyProof.Rows L2 LamX
/-- the heap at the entry: the script, locked, and the empty tables of the defs that make lambdas -/
def tabH (K : PySem.W.Frag) (a : Addr) (us : List Value) (ns : List Int) (Ts : List Addr) : Hp := fun b => if b ∈ Ts then some (.tbl #[]) else scrH K a us ns b
theorem tabH_in {K : PySem.W.Frag} {a b : Addr} {us : List Value} {ns : List Int} {Ts : List Addr} (h : b ∈ Ts) : tabH K a us ns Ts b = some (.tbl #[]) := if_pos h
theorem tabH_out {K : PySem.W.Frag} {a b : Addr} {us : List Value} {ns : List Int} {Ts : List Addr} (h : b ∉ Ts) : tabH K a us ns Ts b = scrH K a us ns b := if_neg h
theorem lawGT {P : Program} {w : World} {K : PySem.W.Frag} {mg mb : Str → Option Value} {CX : CXT} {k : Nat} {fa a : Addr} {cs : List (Addr × Addr)} {fd : FuncData} {x : Str} {sp : Sp} {t : Shared} {us : List Value} {ns : List Int}
    (kin : K.In t.heap) (glb : t.heap.Ns mainGlobals mg) (blt : t.heap.Ns builtinsNs mb) (boot : ∀ y : Str, y ≠ "__name__" → mb y = bootBuiltins y) (free : t.heap.NoLimit) (noG : t.gens = #[])
    (tb : ∀ p ∈ cs, t.heap.get? p.2 = some (PySem.W.tabObj #[])) (nk : ∀ p ∈ cs, K.lookup p.2 = none) (ch : ∀ p ∈ cs, PySem.W.CodeHd t.heap p.1 p.2)
    (bmn : ∃ (bm : Addr) (ob : Obj), mg "__builtins__" = some (.ref bm) ∧ bm ≠ builtinsNs ∧ t.heap.get? bm = some ob ∧ ob.cls = .type "module" ∧ ob.dict = some builtinsNs ∧ ob.data = .plain)
    (at_a : t.heap.get? a = some (scrO us)) (isI : IntsAre us ns) (short : ns.length ≤ sizeLine) (room : Room k callerA)
    (F : ∀ base : Heap, K.In base → base.Ns mainGlobals mg → (∀ p ∈ cs, TabB base mg p.1 p.2) → FnG P w K mg base CX k fa fd [x] sp) (bind : ∀ (s : Shared) (u : Value), BindsTo s fd ⟨[u], []⟩ [(x, u)])
    (wish : ∀ H : Hp, (∀ p ∈ cs, H p.2 = some (.tbl #[])) → SqL K H a (ns.map V.int) → sp [.ref a] H (fun v _ => v = .bl true) fun _ _ _ => False)
    (noX : ∀ H e s', CX [] H t (fun _ _ _ => False) e s' → False) :
    codeAny (model P w) callerA (.call (.ref fa) ⟨[.ref a], []⟩) (fun r s' => r = .ok (.ret (.bool true)) ∧ OldK t.heap s'.heap ∧ s'.os = t.os ∧ AllBare s'.gens) t := by
  have vals := vals_ints isI
  have many := isI.length
  have tabs : ∀ b : Addr, b ∈ cs.map Prod.snd → t.heap.get? b = some (PySem.W.tabObj #[]) ∧ K.lookup b = none := fun b hb => by
    obtain ⟨p, hp, rfl⟩ := List.mem_map.mp hb
    exact ⟨tb p hp, nk p hp⟩
  have here : ∀ p ∈ cs, p.2 ∈ cs.map Prod.snd := fun p hp => List.mem_map.mpr ⟨p, hp, rfl⟩
  have aOut : a ∉ cs.map Prod.snd := fun z => by
    have e := (tabs a z).1
    rw [at_a] at e
    have e2 := congrArg Obj.cls (Option.some.inj e)
    cases e2
  have isA : ∀ {b : Addr}, b = a → b ∉ cs.map Prod.snd := fun e => by rw [e]; exact aOut
  have inT : ∀ p ∈ cs, tabH K a us ns (cs.map Prod.snd) p.2 = some (.tbl #[]) := fun p hp => tabH_in (here p hp)
  have seq : SqL K (tabH K a us ns (cs.map Prod.snd)) a (ns.map V.int) := by
    cases e : K.lookup a with
    | none => exact .inl (.inr ⟨scrO us, (tabH_out aOut).trans (if_pos ⟨rfl, e⟩)⟩)
    | some o =>
      have z := kin a o e
      rw [at_a] at z
      cases z
      exact .inr ⟨_, us.toArray, _, e, rfl, rfl, rfl, by rw [List.size_toArray, many]; exact short, vals⟩
  have held : HOk P w (tabH K a us ns (cs.map Prod.snd)) t.heap := fun b u e => by
    by_cases m : b ∈ cs.map Prod.snd
    · rw [tabH_in m] at e
      cases e
      exact (tabs b m).1
    · rw [tabH_out m] at e
      obtain ⟨rfl, _, rfl⟩ := scrH_some e
      exact ⟨at_a, by rw [List.length_map]; exact short, us, _, vals, at_a⟩
  -- what is neither the script nor a table is not tracked
  have bare0 : ∀ {b : Addr} {o : Obj}, t.heap.get? b = some o → (∀ vs n, o.data ≠ .seq vs n) → o.data ≠ .fields #[] → tabH K a us ns (cs.map Prod.snd) b = none := by
    intro b o e1 e2 e3
    by_cases m : b ∈ cs.map Prod.snd
    · rw [(tabs b m).1] at e1
      cases e1
      exact (e3 rfl).elim
    · rw [tabH_out m]
      cases e : scrH K a us ns b with
      | none => rfl
      | some u =>
        obtain ⟨rfl, _, _⟩ := scrH_some e
        rw [at_a] at e1
        cases e1
        exact (e2 _ _ rfl).elim
  have dict0 : ∀ {b : Addr} {o : Obj} {es : Array DictEntry} {n : Nat}, t.heap.get? b = some o → o.data = .dict es n → tabH K a us ns (cs.map Prod.snd) b = none := fun {b o es n} e1 e2 =>
    bare0 e1 (fun vs m z => by rw [e2] at z; cases z) fun z => by rw [e2] at z; cases z
  have ns_of : ∀ {b : Addr} {m : Str → Option Value}, t.heap.Ns b m → (hidT t.heap (tabH K a us ns (cs.map Prod.snd))).Ns b m := by
    rintro b m ⟨o, es, n, e1, e2, r⟩
    exact ⟨o, es, n, hidT_get e1 (dict0 e1 e2), e2, r⟩
  have kin' : K.In (hidT t.heap (tabH K a us ns (cs.map Prod.snd))) := fun b o e => hidT_get (kin b o e) (by
    by_cases m : b ∈ cs.map Prod.snd
    · rw [(tabs b m).2] at e; cases e
    · rw [tabH_out m]
      cases z : scrH K a us ns b with
      | none => rfl
      | some u =>
        obtain ⟨rfl, n, _⟩ := scrH_some z
        rw [n] at e
        cases e)
  have modl : Mod K mg (hidT t.heap (tabH K a us ns (cs.map Prod.snd))) := by
    obtain ⟨mc, f1, f2⟩ := free
    exact ⟨kin', ns_of glb, ⟨mb, ns_of blt, boot⟩, ⟨mc, ns_of f1, f2⟩⟩
  have apart : ∀ p ∈ cs, ∀ {b : Addr} {o : Obj}, t.heap.get? b = some o → o.cls ≠ .none → b ≠ p.2 := fun p hp b o e c z => by
    rw [z, tb p hp] at e
    cases e
    exact c rfl
  have tabB : ∀ p ∈ cs, TabB (hidT t.heap (tabH K a us ns (cs.map Prod.snd))) mg p.1 p.2 := fun p hp => by
    refine ⟨?_, ?_, ?_⟩
    · obtain ⟨o, vs, file, tf, flags, tg, inF, text, tt, g1, g2, g3, g4, g5⟩ := ch p hp
      refine ⟨o, vs, file, tf, flags, tg, inF, text, tt, hidT_get g1 (bare0 g1 (fun w n z => by rw [g3] at z; cases z) fun z => ?_), g2, g3, g4, g5⟩
      rw [g3] at z
      injection z with z
      rw [z] at g4
      simp at g4
    · obtain ⟨bm, ob, m1, m2, m3, m4, m5, m6⟩ := bmn
      refine ⟨bm, ob, m1, m2, fun z => ?_, apart p hp m3 (by rw [m4]; intro z; cases z), hidT_get m3 (bare0 m3 (fun w n z => by rw [m6] at z; cases z) fun z => by rw [m6] at z; cases z), m4, m5, m6⟩
      obtain ⟨o, es, n, e1, e2, _⟩ := glb
      rw [z, e1] at m3
      cases m3
      rw [e2] at m6
      cases m6
    · obtain ⟨o, es, n, e1, e2, _⟩ := glb
      intro z
      rw [z, tb p hp] at e1
      cases e1
      cases e2
  have env0 : Env0 P w K mg (hidT t.heap (tabH K a us ns (cs.map Prod.snd))) callerA [] t (tabH K a us ns (cs.map Prod.snd)) :=
    ⟨rfl, modl, fun b o z => of_hidT z, Nat.le_of_eq (hidT_size _ _), trivial, fun b z => absurd (show b ∈ ([] : List Addr) from z) (by simp), held, .of_eq noG⟩
  refine codeAny_mono ((F _ kin' (ns_of glb) tabB).run callerA [] t _ ⟨[.ref a], []⟩ [.ref a] [.ref a] _ _ rfl room env0 (bind t (.ref a)) (.cons rfl .nil) (wish _ inT seq)) fun r s' z => ?_
  cases r with
  | error e => exact (noX _ e s' z).elim
  | ok fl =>
    cases fl with
    | next => exact z.elim
    | brk => exact z.elim
    | cont => exact z.elim
    | ret u =>
      obtain ⟨v, H', os, bare, un, held', rv, q⟩ := z
      cases (show v = .bl true from q)
      cases (show u = Value.bool true from rv)
      have kept : ∀ b o, b ∉ cs.map Prod.snd → t.heap.get? b = some o → s'.heap.get? b = some o := fun b o nb e => by
        cases c : scrH K a us ns b with
        | none => exact un.keep b o e ((tabH_out nb).trans c) (fun z => absurd (show b ∈ ([] : List Addr) from z) (by simp)) (by simp)
        | some u2 =>
          obtain ⟨rfl, _, rfl⟩ := scrH_some c
          obtain ⟨e2, _⟩ := held' _ _ (un.frzs _ _ _ ((tabH_out nb).trans c))
          rw [at_a] at e
          cases e
          exact e2
      have more : ∀ p ∈ cs, ∃ ps : Array Value, s'.heap.get? p.2 = some (PySem.W.tabObj (#[] ++ ps)) := fun p hp => by
        obtain ⟨ps, z⟩ := un.tbls p.2 #[] (inT p hp)
        exact ⟨ps, held' p.2 _ z⟩
      refine ⟨rfl, ⟨fun b o e => ?_, fun b o e => ?_⟩, os, bare⟩
      · by_cases m : b ∈ cs.map Prod.snd
        · obtain ⟨p, hp, rfl⟩ := List.mem_map.mp m
          obtain ⟨ps, hps⟩ := more p hp
          rw [tb p hp] at e
          cases e
          exact .inr (.inl ⟨((ch p hp).tab (tb p hp)).isCodeTable, rfl, #[], ps, rfl, hps⟩)
        · exact .inl (kept b o m e)
      · by_cases m : b ∈ cs.map Prod.snd
        · obtain ⟨p, hp, rfl⟩ := List.mem_map.mp m
          obtain ⟨ps, hps⟩ := more p hp
          exact ⟨_, hps⟩
        · exact ⟨o, kept b o m e⟩
/-- a law's promise, its code objects and tables told by numbers -/
theorem walkGT {l : PySem.W.OpenLaw} {n k : Nat} {q : Program} {loose : List Str} {XP : (Str → Option Value) → Heap → Prop} {YP : World → Heap → Prop} {d : DefRec} {K : Params → PySem.W.Frag} {sp : PySem.W.Frag → List (Addr × Addr) → Sp} {x : Str}
    (most : l.most = some n) (few : n ≤ sizeLine) (plain : d.params.defaults = []) (room : Room k callerA) (ky : ∀ (w : World) (h : Heap), YP w h → (K w.params).In h)
    (F : ∀ (w : World) (mg : Str → Option Value) (fa : Addr) (h : Heap), YP w h → (K w.params).In h → h.Ns mainGlobals mg → mg d.name = some (.ref fa) → ∃ (fd : FuncData) (cs : List (Addr × Addr)), (∀ p ∈ cs, h.get? p.2 = some (PySem.W.tabObj #[])) ∧ (∀ p ∈ cs, (K w.params).lookup p.2 = none) ∧ (∀ p ∈ cs, PySem.W.CodeHd h p.1 p.2) ∧ (∀ (s : Shared) (u : Value), BindsTo s fd ⟨[u], []⟩ [(x, u)]) ∧
      ∀ base : Heap, (K w.params).In base → base.Ns mainGlobals mg → (∀ p ∈ cs, TabB base mg p.1 p.2) → FnG l.prog w (K w.params) mg base CX0 k fa fd [x] (sp (K w.params) cs))
    (wish : ∀ (K : PySem.W.Frag) (cs : List (Addr × Addr)) (H : Hp) (a : Addr) (ns : List Int), ns.length ≤ n → (∀ p ∈ cs, H p.2 = some (.tbl #[])) → SqL K H a (ns.map V.int) → sp K cs [.ref a] H (fun v _ => v = .bl true) fun _ _ _ => False) :
    PySem.W.WalkO q loose XP YP l.row.toRowW d [] (fun f vs => PySem.call f vs) := by
  refine Att.attach_callB most plain ?_
  intro w s0 t mg mb fa o pm cd doc a us ns G Y ho hd hcd hmg at_a isI many _ noG
  obtain ⟨fd, cs, t1, t2, t3, bind, ok⟩ := F w mg fa _ Y (ky w _ Y) G.T.g hmg
  exact lawGT (ky w _ Y) G.T.g G.T.b G.T.builtins G.T.nolimit noG t1 t2 t3 G.T.bmain at_a isI (Nat.le_trans many few) room ok bind (fun H o1 o2 => wish (K w.params) cs H a ns many o1 o2) fun _ _ _ z => z.elim
end AL
set_option Elab.async false
open PySem PySem.W PyProof.Rows
set_option maxRecDepth 100000 in
set_option maxHeartbeats 0 in
open_top head_k64 for PySem.Challenge.rw_allscales_k64_whole_groups_of_turned_uni
set_option Elab.async false
set_option maxRecDepth 100000
set_option exponentiation.threshold 70000
set_option maxHeartbeats 2000000
namespace AL
open PySem PySem.Spec PyProof.Rows L2 RZ
theorem all_mk {l : PySem.W.OpenLaw} {w : World} {K : PySem.W.Frag} {h : Heap} {mg : Str → Option Value} {CGroups f_law_pen f_law_draw f_law_pick fpivot_of fcombined fidentity f_law_turned fprimitive fwithout_item fcleared fspan_of fis_list fis_whole fare_integers fis_matrix fcheck_matrix fas_tuples0 fas_tuples1 fas_tuples f_law_inner f_law_unit fbezout ftaken_in freduced fhermite_rows fhermite_pair frank_of fsets_of fbase_sets fG_init fgroups_of f_law_exponents f_law_unimodular f_law_matmul f_law_pivots f_law_belongs f_law_same_lattice f_law_shuffled f_law_turned_units flaw fa : Addr} (X : K.In h) (G : h.Ns mainGlobals mg) (hfa : mg "law" = some (.ref fa))
    {oc_law_pen kV_law_pen dc_law_pen pm_law_pen cd_law_pen ct_law_pen : Value} {od_law_pen an_law_pen : Option Addr} {sl_law_pen : Array (Option Value)}
    {oc_law_draw kV_law_draw dc_law_draw pm_law_draw cd_law_draw ct_law_draw : Value} {od_law_draw an_law_draw : Option Addr} {sl_law_draw : Array (Option Value)}
    {oc_law_pick kV_law_pick dc_law_pick pm_law_pick cd_law_pick ct_law_pick : Value} {od_law_pick an_law_pick : Option Addr} {sl_law_pick : Array (Option Value)}
    {ocpivot_of kVpivot_of dcpivot_of pmpivot_of cdpivot_of ctpivot_of : Value} {odpivot_of anpivot_of : Option Addr} {slpivot_of : Array (Option Value)}
    {occombined kVcombined dccombined pmcombined cdcombined ctcombined : Value} {odcombined ancombined : Option Addr} {slcombined : Array (Option Value)}
    {ocidentity kVidentity dcidentity pmidentity cdidentity ctidentity : Value} {odidentity anidentity : Option Addr} {slidentity : Array (Option Value)}
    {oc_law_turned kV_law_turned dc_law_turned pm_law_turned cd_law_turned ct_law_turned : Value} {od_law_turned an_law_turned : Option Addr} {sl_law_turned : Array (Option Value)}
    {ocprimitive kVprimitive dcprimitive pmprimitive cdprimitive ctprimitive : Value} {odprimitive anprimitive : Option Addr} {slprimitive : Array (Option Value)}
    {ocwithout_item kVwithout_item dcwithout_item pmwithout_item cdwithout_item ctwithout_item : Value} {odwithout_item anwithout_item : Option Addr} {slwithout_item : Array (Option Value)}
    {occleared kVcleared dccleared pmcleared cdcleared ctcleared : Value} {odcleared ancleared : Option Addr} {slcleared : Array (Option Value)}
    {ocspan_of kVspan_of dcspan_of pmspan_of cdspan_of ctspan_of : Value} {odspan_of anspan_of : Option Addr} {slspan_of : Array (Option Value)}
    {ocis_list kVis_list dcis_list pmis_list cdis_list ctis_list : Value} {odis_list anis_list : Option Addr} {slis_list : Array (Option Value)}
    {ocis_whole kVis_whole dcis_whole pmis_whole cdis_whole ctis_whole : Value} {odis_whole anis_whole : Option Addr} {slis_whole : Array (Option Value)}
    {ocare_integers kVare_integers dcare_integers pmare_integers cdare_integers ctare_integers : Value} {odare_integers anare_integers : Option Addr} {slare_integers : Array (Option Value)}
    {ocis_matrix kVis_matrix dcis_matrix pmis_matrix cdis_matrix ctis_matrix : Value} {odis_matrix anis_matrix : Option Addr} {slis_matrix : Array (Option Value)}
    {occheck_matrix tccheck_matrix kVcheck_matrix dccheck_matrix pmcheck_matrix cdcheck_matrix ctcheck_matrix : Value} {odcheck_matrix ancheck_matrix : Option Addr} {slcheck_matrix : Array (Option Value)} {Tcheck_matrix : Addr} {tvcheck_matrix : Tok} {tdcheck_matrix : Option Addr} {tncheck_matrix : Nat} {tscheck_matrix : Array (Option Value)}
    {ocas_tuples0 kVas_tuples0 dcas_tuples0 pmas_tuples0 cdas_tuples0 ctas_tuples0 : Value} {odas_tuples0 anas_tuples0 : Option Addr} {slas_tuples0 : Array (Option Value)}
    {ocas_tuples1 kVas_tuples1 dcas_tuples1 pmas_tuples1 cdas_tuples1 ctas_tuples1 : Value} {odas_tuples1 anas_tuples1 : Option Addr} {slas_tuples1 : Array (Option Value)}
    {ocas_tuples kVas_tuples dcas_tuples pmas_tuples cdas_tuples ctas_tuples : Value} {odas_tuples anas_tuples : Option Addr} {slas_tuples : Array (Option Value)}
    {oc_law_inner kV_law_inner dc_law_inner pm_law_inner cd_law_inner ct_law_inner : Value} {od_law_inner an_law_inner : Option Addr} {sl_law_inner : Array (Option Value)}
    {oc_law_unit kV_law_unit dc_law_unit pm_law_unit cd_law_unit ct_law_unit : Value} {od_law_unit an_law_unit : Option Addr} {sl_law_unit : Array (Option Value)}
    {ocbezout kVbezout dcbezout pmbezout cdbezout ctbezout : Value} {odbezout anbezout : Option Addr} {slbezout : Array (Option Value)}
    {octaken_in kVtaken_in dctaken_in pmtaken_in cdtaken_in cttaken_in : Value} {odtaken_in antaken_in : Option Addr} {sltaken_in : Array (Option Value)}
    {ocreduced kVreduced dcreduced pmreduced cdreduced ctreduced : Value} {odreduced anreduced : Option Addr} {slreduced : Array (Option Value)}
    {ochermite_rows kVhermite_rows dchermite_rows pmhermite_rows cdhermite_rows cthermite_rows : Value} {odhermite_rows anhermite_rows : Option Addr} {slhermite_rows : Array (Option Value)}
    {ochermite_pair kVhermite_pair dchermite_pair pmhermite_pair cdhermite_pair cthermite_pair : Value} {odhermite_pair anhermite_pair : Option Addr} {slhermite_pair : Array (Option Value)}
    {ocrank_of kVrank_of dcrank_of pmrank_of cdrank_of ctrank_of : Value} {odrank_of anrank_of : Option Addr} {slrank_of : Array (Option Value)}
    {ocsets_of kVsets_of dcsets_of pmsets_of cdsets_of ctsets_of : Value} {odsets_of ansets_of : Option Addr} {slsets_of : Array (Option Value)}
    {ocbase_sets tcbase_sets kVbase_sets dcbase_sets pmbase_sets cdbase_sets ctbase_sets : Value} {odbase_sets anbase_sets : Option Addr} {slbase_sets : Array (Option Value)} {Tbase_sets : Addr} {tdbase_sets : Option Addr} {tnbase_sets : Nat} {tsbase_sets : Array (Option Value)}
    {ocG_init kVG_init dcG_init pmG_init cdG_init ctG_init : Value} {odG_init anG_init : Option Addr} {slG_init : Array (Option Value)}
    {ocgroups_of kVgroups_of dcgroups_of pmgroups_of cdgroups_of ctgroups_of : Value} {odgroups_of angroups_of : Option Addr} {slgroups_of : Array (Option Value)}
    {oc_law_exponents kV_law_exponents dc_law_exponents pm_law_exponents cd_law_exponents ct_law_exponents : Value} {od_law_exponents an_law_exponents : Option Addr} {sl_law_exponents : Array (Option Value)}
    {oc_law_unimodular kV_law_unimodular dc_law_unimodular pm_law_unimodular cd_law_unimodular ct_law_unimodular : Value} {od_law_unimodular an_law_unimodular : Option Addr} {sl_law_unimodular : Array (Option Value)}
    {oc_law_matmul kV_law_matmul dc_law_matmul pm_law_matmul cd_law_matmul ct_law_matmul : Value} {od_law_matmul an_law_matmul : Option Addr} {sl_law_matmul : Array (Option Value)}
    {oc_law_pivots kV_law_pivots dc_law_pivots pm_law_pivots cd_law_pivots ct_law_pivots : Value} {od_law_pivots an_law_pivots : Option Addr} {sl_law_pivots : Array (Option Value)}
    {oc_law_belongs kV_law_belongs dc_law_belongs pm_law_belongs cd_law_belongs ct_law_belongs : Value} {od_law_belongs an_law_belongs : Option Addr} {sl_law_belongs : Array (Option Value)}
    {oc_law_same_lattice kV_law_same_lattice dc_law_same_lattice pm_law_same_lattice cd_law_same_lattice ct_law_same_lattice : Value} {od_law_same_lattice an_law_same_lattice : Option Addr} {sl_law_same_lattice : Array (Option Value)}
    {oc_law_shuffled kV_law_shuffled dc_law_shuffled pm_law_shuffled cd_law_shuffled ct_law_shuffled : Value} {od_law_shuffled an_law_shuffled : Option Addr} {sl_law_shuffled : Array (Option Value)}
    {oc_law_turned_units kV_law_turned_units dc_law_turned_units pm_law_turned_units cd_law_turned_units ct_law_turned_units : Value} {od_law_turned_units an_law_turned_units : Option Addr} {sl_law_turned_units : Array (Option Value)}
    {oclaw kVlaw dclaw pmlaw cdlaw ctlaw : Value} {odlaw anlaw : Option Addr} {sllaw : Array (Option Value)}
    (aCGroups : PySem.W.nsIn K mainGlobals "Groups" = some (some (.ref CGroups)))
    (pgGroups : PySem.W.plainGet K CGroups Str.empty = true)
    (hdGroups : PySem.W.hasDictIn K CGroups = true)
    (poGroups : PySem.W.plainOver K CGroups = true)
    (saGroups : PySem.W.findIn K (.ref CGroups) "__setattr__" = some (some (.builtin "object.__setattr__")))
    (mkGroups : PySem.W.makesIn K CGroups = true)
    (kcGroups : PySem.W.keepIn K (.ref CGroups) = true)
    (sfGroups : PySem.W.selfFirst K CGroups = true)
    (q1Groups : PySem.W.findIn K (.ref CGroups) "__class__" = some (some (.builtin "object.__class__")))
    (q2Groups : PySem.W.specialIn K (.builtin "object.__class__") "__get__" = some (some (.builtin "getset_descriptor.__get__")))
    (q3Groups : PySem.W.takesIn K (.builtin "object.__class__") = some true)
    (q4Groups : PySem.W.mroIn K CGroups (.type "object") = some true)
    (nGroupsbasis : PySem.W.findIn K (.ref CGroups) "basis" = some none)
    (nGroupsdown : PySem.W.findIn K (.ref CGroups) "down" = some none)
    (nGroupsup : PySem.W.findIn K (.ref CGroups) "up" = some none)
    (a_law_pen : PySem.W.nsIn K mainGlobals "_law_pen" = some (some (.ref f_law_pen)))
    (l_law_pen : K.lookup f_law_pen = some ⟨oc_law_pen, od_law_pen, .func (PySem.W.fnOf "_law_pen" "_law_pen" (defArgs st_law_pen) (defBody st_law_pen) (defScope st_law_pen) .none kV_law_pen dc_law_pen pm_law_pen an_law_pen cd_law_pen ct_law_pen), sl_law_pen⟩)
    (c_law_pen : PySem.W.codeIn K cd_law_pen "_law_pen" = true)
    (k_law_pen : PySem.W.keepIn K (.ref f_law_pen) = true)
    (a_law_draw : PySem.W.nsIn K mainGlobals "_law_draw" = some (some (.ref f_law_draw)))
    (l_law_draw : K.lookup f_law_draw = some ⟨oc_law_draw, od_law_draw, .func (PySem.W.fnOf "_law_draw" "_law_draw" (defArgs st_law_draw) (defBody st_law_draw) (defScope st_law_draw) .none kV_law_draw dc_law_draw pm_law_draw an_law_draw cd_law_draw ct_law_draw), sl_law_draw⟩)
    (c_law_draw : PySem.W.codeIn K cd_law_draw "_law_draw" = true)
    (k_law_draw : PySem.W.keepIn K (.ref f_law_draw) = true)
    (a_law_pick : PySem.W.nsIn K mainGlobals "_law_pick" = some (some (.ref f_law_pick)))
    (l_law_pick : K.lookup f_law_pick = some ⟨oc_law_pick, od_law_pick, .func (PySem.W.fnOf "_law_pick" "_law_pick" (defArgs st_law_pick) (defBody st_law_pick) (defScope st_law_pick) .none kV_law_pick dc_law_pick pm_law_pick an_law_pick cd_law_pick ct_law_pick), sl_law_pick⟩)
    (c_law_pick : PySem.W.codeIn K cd_law_pick "_law_pick" = true)
    (k_law_pick : PySem.W.keepIn K (.ref f_law_pick) = true)
    (apivot_of : PySem.W.nsIn K mainGlobals "pivot_of" = some (some (.ref fpivot_of)))
    (lpivot_of : K.lookup fpivot_of = some ⟨ocpivot_of, odpivot_of, .func (PySem.W.fnOf "pivot_of" "pivot_of" (defArgs stpivot_of) (defBody stpivot_of) (defScope stpivot_of) .none kVpivot_of dcpivot_of pmpivot_of anpivot_of cdpivot_of ctpivot_of), slpivot_of⟩)
    (cpivot_of : PySem.W.codeIn K cdpivot_of "pivot_of" = true)
    (kpivot_of : PySem.W.keepIn K (.ref fpivot_of) = true)
    (acombined : PySem.W.nsIn K mainGlobals "combined" = some (some (.ref fcombined)))
    (lcombined : K.lookup fcombined = some ⟨occombined, odcombined, .func (PySem.W.fnOf "combined" "combined" (defArgs stcombined) (defBody stcombined) (defScope stcombined) .none kVcombined dccombined pmcombined ancombined cdcombined ctcombined), slcombined⟩)
    (ccombined : PySem.W.codeIn K cdcombined "combined" = true)
    (kcombined : PySem.W.keepIn K (.ref fcombined) = true)
    (aidentity : PySem.W.nsIn K mainGlobals "identity" = some (some (.ref fidentity)))
    (lidentity : K.lookup fidentity = some ⟨ocidentity, odidentity, .func (PySem.W.fnOf "identity" "identity" (defArgs stidentity) (defBody stidentity) (defScope stidentity) .none kVidentity dcidentity pmidentity anidentity cdidentity ctidentity), slidentity⟩)
    (cidentity : PySem.W.codeIn K cdidentity "identity" = true)
    (kidentity : PySem.W.keepIn K (.ref fidentity) = true)
    (a_law_turned : PySem.W.nsIn K mainGlobals "_law_turned" = some (some (.ref f_law_turned)))
    (l_law_turned : K.lookup f_law_turned = some ⟨oc_law_turned, od_law_turned, .func (PySem.W.fnOf "_law_turned" "_law_turned" (defArgs st_law_turned) (defBody st_law_turned) (defScope st_law_turned) .none kV_law_turned dc_law_turned pm_law_turned an_law_turned cd_law_turned ct_law_turned), sl_law_turned⟩)
    (c_law_turned : PySem.W.codeIn K cd_law_turned "_law_turned" = true)
    (k_law_turned : PySem.W.keepIn K (.ref f_law_turned) = true)
    (aprimitive : PySem.W.nsIn K mainGlobals "primitive" = some (some (.ref fprimitive)))
    (lprimitive : K.lookup fprimitive = some ⟨ocprimitive, odprimitive, .func (PySem.W.fnOf "primitive" "primitive" (defArgs stprimitive) (defBody stprimitive) (defScope stprimitive) .none kVprimitive dcprimitive pmprimitive anprimitive cdprimitive ctprimitive), slprimitive⟩)
    (cprimitive : PySem.W.codeIn K cdprimitive "primitive" = true)
    (kprimitive : PySem.W.keepIn K (.ref fprimitive) = true)
    (awithout_item : PySem.W.nsIn K mainGlobals "without_item" = some (some (.ref fwithout_item)))
    (lwithout_item : K.lookup fwithout_item = some ⟨ocwithout_item, odwithout_item, .func (PySem.W.fnOf "without_item" "without_item" (defArgs stwithout_item) (defBody stwithout_item) (defScope stwithout_item) .none kVwithout_item dcwithout_item pmwithout_item anwithout_item cdwithout_item ctwithout_item), slwithout_item⟩)
    (cwithout_item : PySem.W.codeIn K cdwithout_item "without_item" = true)
    (kwithout_item : PySem.W.keepIn K (.ref fwithout_item) = true)
    (acleared : PySem.W.nsIn K mainGlobals "cleared" = some (some (.ref fcleared)))
    (lcleared : K.lookup fcleared = some ⟨occleared, odcleared, .func (PySem.W.fnOf "cleared" "cleared" (defArgs stcleared) (defBody stcleared) (defScope stcleared) .none kVcleared dccleared pmcleared ancleared cdcleared ctcleared), slcleared⟩)
    (ccleared : PySem.W.codeIn K cdcleared "cleared" = true)
    (kcleared : PySem.W.keepIn K (.ref fcleared) = true)
    (aspan_of : PySem.W.nsIn K mainGlobals "span_of" = some (some (.ref fspan_of)))
    (lspan_of : K.lookup fspan_of = some ⟨ocspan_of, odspan_of, .func (PySem.W.fnOf "span_of" "span_of" (defArgs stspan_of) (defBody stspan_of) (defScope stspan_of) .none kVspan_of dcspan_of pmspan_of anspan_of cdspan_of ctspan_of), slspan_of⟩)
    (cspan_of : PySem.W.codeIn K cdspan_of "span_of" = true)
    (kspan_of : PySem.W.keepIn K (.ref fspan_of) = true)
    (ais_list : PySem.W.nsIn K mainGlobals "is_list" = some (some (.ref fis_list)))
    (lis_list : K.lookup fis_list = some ⟨ocis_list, odis_list, .func (PySem.W.fnOf "is_list" "is_list" (defArgs stis_list) (defBody stis_list) (defScope stis_list) .none kVis_list dcis_list pmis_list anis_list cdis_list ctis_list), slis_list⟩)
    (cis_list : PySem.W.codeIn K cdis_list "is_list" = true)
    (kis_list : PySem.W.keepIn K (.ref fis_list) = true)
    (ais_whole : PySem.W.nsIn K mainGlobals "is_whole" = some (some (.ref fis_whole)))
    (lis_whole : K.lookup fis_whole = some ⟨ocis_whole, odis_whole, .func (PySem.W.fnOf "is_whole" "is_whole" (defArgs stis_whole) (defBody stis_whole) (defScope stis_whole) .none kVis_whole dcis_whole pmis_whole anis_whole cdis_whole ctis_whole), slis_whole⟩)
    (cis_whole : PySem.W.codeIn K cdis_whole "is_whole" = true)
    (kis_whole : PySem.W.keepIn K (.ref fis_whole) = true)
    (aare_integers : PySem.W.nsIn K mainGlobals "are_integers" = some (some (.ref fare_integers)))
    (lare_integers : K.lookup fare_integers = some ⟨ocare_integers, odare_integers, .func (PySem.W.fnOf "are_integers" "are_integers" (defArgs stare_integers) (defBody stare_integers) (defScope stare_integers) .none kVare_integers dcare_integers pmare_integers anare_integers cdare_integers ctare_integers), slare_integers⟩)
    (care_integers : PySem.W.codeIn K cdare_integers "are_integers" = true)
    (kare_integers : PySem.W.keepIn K (.ref fare_integers) = true)
    (ais_matrix : PySem.W.nsIn K mainGlobals "is_matrix" = some (some (.ref fis_matrix)))
    (lis_matrix : K.lookup fis_matrix = some ⟨ocis_matrix, odis_matrix, .func (PySem.W.fnOf "is_matrix" "is_matrix" (defArgs stis_matrix) (defBody stis_matrix) (defScope stis_matrix) .none kVis_matrix dcis_matrix pmis_matrix anis_matrix cdis_matrix ctis_matrix), slis_matrix⟩)
    (cis_matrix : PySem.W.codeIn K cdis_matrix "is_matrix" = true)
    (kis_matrix : PySem.W.keepIn K (.ref fis_matrix) = true)
    (acheck_matrix : PySem.W.nsIn K mainGlobals "check_matrix" = some (some (.ref fcheck_matrix)))
    (lcheck_matrix : K.lookup fcheck_matrix = some ⟨occheck_matrix, odcheck_matrix, .func (PySem.W.fnOf "check_matrix" "check_matrix" (defArgs stcheck_matrix) (defBody stcheck_matrix) (defScope stcheck_matrix) (.ref Tcheck_matrix) kVcheck_matrix dccheck_matrix pmcheck_matrix ancheck_matrix cdcheck_matrix ctcheck_matrix), slcheck_matrix⟩)
    (ccheck_matrix : PySem.W.codeIn K cdcheck_matrix "check_matrix" = true)
    (kcheck_matrix : PySem.W.keepIn K (.ref fcheck_matrix) = true)
    (tcheck_matrix : K.lookup Tcheck_matrix = some ⟨tccheck_matrix, tdcheck_matrix, .seq #[.str "rows" tvcheck_matrix] tncheck_matrix, tscheck_matrix⟩)
    (aas_tuples0 : PySem.W.nsIn K mainGlobals "as_tuples" = some (some (.ref fas_tuples0)))
    (las_tuples0 : K.lookup fas_tuples0 = some ⟨ocas_tuples0, odas_tuples0, .func (PySem.W.fnOf "as_tuples" "as_tuples" (defArgs stas_tuples0) (defBody stas_tuples0) (defScope stas_tuples0) .none kVas_tuples0 dcas_tuples0 pmas_tuples0 anas_tuples0 cdas_tuples0 ctas_tuples0), slas_tuples0⟩)
    (cas_tuples0 : PySem.W.codeIn K cdas_tuples0 "as_tuples" = true)
    (kas_tuples0 : PySem.W.keepIn K (.ref fas_tuples0) = true)
    (aas_tuples1 : PySem.W.nsIn K mainGlobals "as_tuples" = some (some (.ref fas_tuples1)))
    (las_tuples1 : K.lookup fas_tuples1 = some ⟨ocas_tuples1, odas_tuples1, .func (PySem.W.fnOf "as_tuples" "as_tuples" (defArgs stas_tuples1) (defBody stas_tuples1) (defScope stas_tuples1) .none kVas_tuples1 dcas_tuples1 pmas_tuples1 anas_tuples1 cdas_tuples1 ctas_tuples1), slas_tuples1⟩)
    (cas_tuples1 : PySem.W.codeIn K cdas_tuples1 "as_tuples" = true)
    (kas_tuples1 : PySem.W.keepIn K (.ref fas_tuples1) = true)
    (aas_tuples : PySem.W.nsIn K mainGlobals "as_tuples" = some (some (.ref fas_tuples)))
    (las_tuples : K.lookup fas_tuples = some ⟨ocas_tuples, odas_tuples, .func (PySem.W.fnOf "as_tuples" "as_tuples" (defArgs stas_tuples) (defBody stas_tuples) (defScope stas_tuples) .none kVas_tuples dcas_tuples pmas_tuples anas_tuples cdas_tuples ctas_tuples), slas_tuples⟩)
    (cas_tuples : PySem.W.codeIn K cdas_tuples "as_tuples" = true)
    (kas_tuples : PySem.W.keepIn K (.ref fas_tuples) = true)
    (a_law_inner : PySem.W.nsIn K mainGlobals "_law_inner" = some (some (.ref f_law_inner)))
    (l_law_inner : K.lookup f_law_inner = some ⟨oc_law_inner, od_law_inner, .func (PySem.W.fnOf "_law_inner" "_law_inner" (defArgs st_law_inner) (defBody st_law_inner) (defScope st_law_inner) .none kV_law_inner dc_law_inner pm_law_inner an_law_inner cd_law_inner ct_law_inner), sl_law_inner⟩)
    (c_law_inner : PySem.W.codeIn K cd_law_inner "_law_inner" = true)
    (k_law_inner : PySem.W.keepIn K (.ref f_law_inner) = true)
    (a_law_unit : PySem.W.nsIn K mainGlobals "_law_unit" = some (some (.ref f_law_unit)))
    (l_law_unit : K.lookup f_law_unit = some ⟨oc_law_unit, od_law_unit, .func (PySem.W.fnOf "_law_unit" "_law_unit" (defArgs st_law_unit) (defBody st_law_unit) (defScope st_law_unit) .none kV_law_unit dc_law_unit pm_law_unit an_law_unit cd_law_unit ct_law_unit), sl_law_unit⟩)
    (c_law_unit : PySem.W.codeIn K cd_law_unit "_law_unit" = true)
    (k_law_unit : PySem.W.keepIn K (.ref f_law_unit) = true)
    (abezout : PySem.W.nsIn K mainGlobals "bezout" = some (some (.ref fbezout)))
    (lbezout : K.lookup fbezout = some ⟨ocbezout, odbezout, .func (PySem.W.fnOf "bezout" "bezout" (defArgs stbezout) (defBody stbezout) (defScope stbezout) .none kVbezout dcbezout pmbezout anbezout cdbezout ctbezout), slbezout⟩)
    (cbezout : PySem.W.codeIn K cdbezout "bezout" = true)
    (kbezout : PySem.W.keepIn K (.ref fbezout) = true)
    (ataken_in : PySem.W.nsIn K mainGlobals "taken_in" = some (some (.ref ftaken_in)))
    (ltaken_in : K.lookup ftaken_in = some ⟨octaken_in, odtaken_in, .func (PySem.W.fnOf "taken_in" "taken_in" (defArgs sttaken_in) (defBody sttaken_in) (defScope sttaken_in) .none kVtaken_in dctaken_in pmtaken_in antaken_in cdtaken_in cttaken_in), sltaken_in⟩)
    (ctaken_in : PySem.W.codeIn K cdtaken_in "taken_in" = true)
    (ktaken_in : PySem.W.keepIn K (.ref ftaken_in) = true)
    (areduced : PySem.W.nsIn K mainGlobals "reduced" = some (some (.ref freduced)))
    (lreduced : K.lookup freduced = some ⟨ocreduced, odreduced, .func (PySem.W.fnOf "reduced" "reduced" (defArgs streduced) (defBody streduced) (defScope streduced) .none kVreduced dcreduced pmreduced anreduced cdreduced ctreduced), slreduced⟩)
    (creduced : PySem.W.codeIn K cdreduced "reduced" = true)
    (kreduced : PySem.W.keepIn K (.ref freduced) = true)
    (ahermite_rows : PySem.W.nsIn K mainGlobals "hermite_rows" = some (some (.ref fhermite_rows)))
    (lhermite_rows : K.lookup fhermite_rows = some ⟨ochermite_rows, odhermite_rows, .func (PySem.W.fnOf "hermite_rows" "hermite_rows" (defArgs sthermite_rows) (defBody sthermite_rows) (defScope sthermite_rows) .none kVhermite_rows dchermite_rows pmhermite_rows anhermite_rows cdhermite_rows cthermite_rows), slhermite_rows⟩)
    (chermite_rows : PySem.W.codeIn K cdhermite_rows "hermite_rows" = true)
    (khermite_rows : PySem.W.keepIn K (.ref fhermite_rows) = true)
    (ahermite_pair : PySem.W.nsIn K mainGlobals "hermite_pair" = some (some (.ref fhermite_pair)))
    (lhermite_pair : K.lookup fhermite_pair = some ⟨ochermite_pair, odhermite_pair, .func (PySem.W.fnOf "hermite_pair" "hermite_pair" (defArgs sthermite_pair) (defBody sthermite_pair) (defScope sthermite_pair) .none kVhermite_pair dchermite_pair pmhermite_pair anhermite_pair cdhermite_pair cthermite_pair), slhermite_pair⟩)
    (chermite_pair : PySem.W.codeIn K cdhermite_pair "hermite_pair" = true)
    (khermite_pair : PySem.W.keepIn K (.ref fhermite_pair) = true)
    (arank_of : PySem.W.nsIn K mainGlobals "rank_of" = some (some (.ref frank_of)))
    (lrank_of : K.lookup frank_of = some ⟨ocrank_of, odrank_of, .func (PySem.W.fnOf "rank_of" "rank_of" (defArgs strank_of) (defBody strank_of) (defScope strank_of) .none kVrank_of dcrank_of pmrank_of anrank_of cdrank_of ctrank_of), slrank_of⟩)
    (crank_of : PySem.W.codeIn K cdrank_of "rank_of" = true)
    (krank_of : PySem.W.keepIn K (.ref frank_of) = true)
    (asets_of : PySem.W.nsIn K mainGlobals "sets_of" = some (some (.ref fsets_of)))
    (lsets_of : K.lookup fsets_of = some ⟨ocsets_of, odsets_of, .func (PySem.W.fnOf "sets_of" "sets_of" (defArgs stsets_of) (defBody stsets_of) (defScope stsets_of) .none kVsets_of dcsets_of pmsets_of ansets_of cdsets_of ctsets_of), slsets_of⟩)
    (csets_of : PySem.W.codeIn K cdsets_of "sets_of" = true)
    (ksets_of : PySem.W.keepIn K (.ref fsets_of) = true)
    (abase_sets : PySem.W.nsIn K mainGlobals "base_sets" = some (some (.ref fbase_sets)))
    (lbase_sets : K.lookup fbase_sets = some ⟨ocbase_sets, odbase_sets, .func (PySem.W.fnOf "base_sets" "base_sets" (defArgs stbase_sets) (defBody stbase_sets) (defScope stbase_sets) (.ref Tbase_sets) kVbase_sets dcbase_sets pmbase_sets anbase_sets cdbase_sets ctbase_sets), slbase_sets⟩)
    (cbase_sets : PySem.W.codeIn K cdbase_sets "base_sets" = true)
    (kbase_sets : PySem.W.keepIn K (.ref fbase_sets) = true)
    (tbase_sets : K.lookup Tbase_sets = some ⟨tcbase_sets, tdbase_sets, .seq #[.bool false] tnbase_sets, tsbase_sets⟩)
    (aG_init : PySem.W.findIn K (.ref CGroups) "__init__" = some (some (.ref fG_init)))
    (lG_init : K.lookup fG_init = some ⟨ocG_init, odG_init, .func (PySem.W.fnOf "__init__" "Groups.__init__" (defArgs stG_init) (defBody stG_init) (defScope stG_init) .none kVG_init dcG_init pmG_init anG_init cdG_init ctG_init), slG_init⟩)
    (cG_init : PySem.W.codeIn K cdG_init "Groups.__init__" = true)
    (kG_init : PySem.W.keepIn K (.ref fG_init) = true)
    (iG_init : PySem.W.isFn K (.ref fG_init) = true)
    (agroups_of : PySem.W.nsIn K mainGlobals "groups_of" = some (some (.ref fgroups_of)))
    (lgroups_of : K.lookup fgroups_of = some ⟨ocgroups_of, odgroups_of, .func (PySem.W.fnOf "groups_of" "groups_of" (defArgs stgroups_of) (defBody stgroups_of) (defScope stgroups_of) .none kVgroups_of dcgroups_of pmgroups_of angroups_of cdgroups_of ctgroups_of), slgroups_of⟩)
    (cgroups_of : PySem.W.codeIn K cdgroups_of "groups_of" = true)
    (kgroups_of : PySem.W.keepIn K (.ref fgroups_of) = true)
    (a_law_exponents : PySem.W.nsIn K mainGlobals "_law_exponents" = some (some (.ref f_law_exponents)))
    (l_law_exponents : K.lookup f_law_exponents = some ⟨oc_law_exponents, od_law_exponents, .func (PySem.W.fnOf "_law_exponents" "_law_exponents" (defArgs st_law_exponents) (defBody st_law_exponents) (defScope st_law_exponents) .none kV_law_exponents dc_law_exponents pm_law_exponents an_law_exponents cd_law_exponents ct_law_exponents), sl_law_exponents⟩)
    (c_law_exponents : PySem.W.codeIn K cd_law_exponents "_law_exponents" = true)
    (k_law_exponents : PySem.W.keepIn K (.ref f_law_exponents) = true)
    (a_law_unimodular : PySem.W.nsIn K mainGlobals "_law_unimodular" = some (some (.ref f_law_unimodular)))
    (l_law_unimodular : K.lookup f_law_unimodular = some ⟨oc_law_unimodular, od_law_unimodular, .func (PySem.W.fnOf "_law_unimodular" "_law_unimodular" (defArgs st_law_unimodular) (defBody st_law_unimodular) (defScope st_law_unimodular) .none kV_law_unimodular dc_law_unimodular pm_law_unimodular an_law_unimodular cd_law_unimodular ct_law_unimodular), sl_law_unimodular⟩)
    (c_law_unimodular : PySem.W.codeIn K cd_law_unimodular "_law_unimodular" = true)
    (k_law_unimodular : PySem.W.keepIn K (.ref f_law_unimodular) = true)
    (a_law_matmul : PySem.W.nsIn K mainGlobals "_law_matmul" = some (some (.ref f_law_matmul)))
    (l_law_matmul : K.lookup f_law_matmul = some ⟨oc_law_matmul, od_law_matmul, .func (PySem.W.fnOf "_law_matmul" "_law_matmul" (defArgs st_law_matmul) (defBody st_law_matmul) (defScope st_law_matmul) .none kV_law_matmul dc_law_matmul pm_law_matmul an_law_matmul cd_law_matmul ct_law_matmul), sl_law_matmul⟩)
    (c_law_matmul : PySem.W.codeIn K cd_law_matmul "_law_matmul" = true)
    (k_law_matmul : PySem.W.keepIn K (.ref f_law_matmul) = true)
    (a_law_pivots : PySem.W.nsIn K mainGlobals "_law_pivots" = some (some (.ref f_law_pivots)))
    (l_law_pivots : K.lookup f_law_pivots = some ⟨oc_law_pivots, od_law_pivots, .func (PySem.W.fnOf "_law_pivots" "_law_pivots" (defArgs st_law_pivots) (defBody st_law_pivots) (defScope st_law_pivots) .none kV_law_pivots dc_law_pivots pm_law_pivots an_law_pivots cd_law_pivots ct_law_pivots), sl_law_pivots⟩)
    (c_law_pivots : PySem.W.codeIn K cd_law_pivots "_law_pivots" = true)
    (k_law_pivots : PySem.W.keepIn K (.ref f_law_pivots) = true)
    (a_law_belongs : PySem.W.nsIn K mainGlobals "_law_belongs" = some (some (.ref f_law_belongs)))
    (l_law_belongs : K.lookup f_law_belongs = some ⟨oc_law_belongs, od_law_belongs, .func (PySem.W.fnOf "_law_belongs" "_law_belongs" (defArgs st_law_belongs) (defBody st_law_belongs) (defScope st_law_belongs) .none kV_law_belongs dc_law_belongs pm_law_belongs an_law_belongs cd_law_belongs ct_law_belongs), sl_law_belongs⟩)
    (c_law_belongs : PySem.W.codeIn K cd_law_belongs "_law_belongs" = true)
    (k_law_belongs : PySem.W.keepIn K (.ref f_law_belongs) = true)
    (a_law_same_lattice : PySem.W.nsIn K mainGlobals "_law_same_lattice" = some (some (.ref f_law_same_lattice)))
    (l_law_same_lattice : K.lookup f_law_same_lattice = some ⟨oc_law_same_lattice, od_law_same_lattice, .func (PySem.W.fnOf "_law_same_lattice" "_law_same_lattice" (defArgs st_law_same_lattice) (defBody st_law_same_lattice) (defScope st_law_same_lattice) .none kV_law_same_lattice dc_law_same_lattice pm_law_same_lattice an_law_same_lattice cd_law_same_lattice ct_law_same_lattice), sl_law_same_lattice⟩)
    (c_law_same_lattice : PySem.W.codeIn K cd_law_same_lattice "_law_same_lattice" = true)
    (k_law_same_lattice : PySem.W.keepIn K (.ref f_law_same_lattice) = true)
    (a_law_shuffled : PySem.W.nsIn K mainGlobals "_law_shuffled" = some (some (.ref f_law_shuffled)))
    (l_law_shuffled : K.lookup f_law_shuffled = some ⟨oc_law_shuffled, od_law_shuffled, .func (PySem.W.fnOf "_law_shuffled" "_law_shuffled" (defArgs st_law_shuffled) (defBody st_law_shuffled) (defScope st_law_shuffled) .none kV_law_shuffled dc_law_shuffled pm_law_shuffled an_law_shuffled cd_law_shuffled ct_law_shuffled), sl_law_shuffled⟩)
    (c_law_shuffled : PySem.W.codeIn K cd_law_shuffled "_law_shuffled" = true)
    (k_law_shuffled : PySem.W.keepIn K (.ref f_law_shuffled) = true)
    (a_law_turned_units : PySem.W.nsIn K mainGlobals "_law_turned_units" = some (some (.ref f_law_turned_units)))
    (l_law_turned_units : K.lookup f_law_turned_units = some ⟨oc_law_turned_units, od_law_turned_units, .func (PySem.W.fnOf "_law_turned_units" "_law_turned_units" (defArgs st_law_turned_units) (defBody st_law_turned_units) (defScope st_law_turned_units) .none kV_law_turned_units dc_law_turned_units pm_law_turned_units an_law_turned_units cd_law_turned_units ct_law_turned_units), sl_law_turned_units⟩)
    (c_law_turned_units : PySem.W.codeIn K cd_law_turned_units "_law_turned_units" = true)
    (k_law_turned_units : PySem.W.keepIn K (.ref f_law_turned_units) = true)
    (alaw : PySem.W.nsIn K mainGlobals "law" = some (some (.ref flaw)))
    (llaw : K.lookup flaw = some ⟨oclaw, odlaw, .func (PySem.W.fnOf "law" "law" (defArgs stlaw) (defBody stlaw) (defScope stlaw) .none kVlaw dclaw pmlaw anlaw cdlaw ctlaw), sllaw⟩)
    (claw : PySem.W.codeIn K cdlaw "law" = true)
    (klaw : PySem.W.keepIn K (.ref flaw) = true)
    (GGg : PySem.W.nsIn K mainGlobals "gcd" = some (some (.builtin "math.gcd")))
    (BT0 : bltB K = true) :
    ∃ fd : FuncData, (∀ (s : Shared) (v : Value), BindsTo s fd ⟨[v], []⟩ [("_law_script", v)]) ∧ ∀ base : Heap, K.In base → base.Ns mainGlobals mg → FnG l.prog w K mg base CX0 9 fa fd ["_law_script"] (spLaw K) := by
  have e := hfa.symm.trans (PySem.W.mg_of X G alaw)
  cases e
  have F_law_pen := fun_mk (st := st_law_pen) l_law_pen c_law_pen k_law_pen
  have D_law_pen : DefAt K mg "_law_pen" st_law_pen ["_law_script"] f_law_pen _ := ⟨F_law_pen, PySem.W.mg_of X G a_law_pen, F_law_pen.binds (ps := ["_law_script"]) fun _ _ _ _ _ _ us hl => match us, hl with | [_], _ => rfl⟩
  have F_law_draw := fun_mk (st := st_law_draw) l_law_draw c_law_draw k_law_draw
  have D_law_draw : DefAt K mg "_law_draw" st_law_draw ["_law_pen_here", "_law_many"] f_law_draw _ := ⟨F_law_draw, PySem.W.mg_of X G a_law_draw, F_law_draw.binds (ps := ["_law_pen_here", "_law_many"]) fun _ _ _ _ _ _ us hl => match us, hl with | [_, _], _ => rfl⟩
  have F_law_pick := fun_mk (st := st_law_pick) l_law_pick c_law_pick k_law_pick
  have D_law_pick : DefAt K mg "_law_pick" st_law_pick ["_law_pen_here", "_law_some"] f_law_pick _ := ⟨F_law_pick, PySem.W.mg_of X G a_law_pick, F_law_pick.binds (ps := ["_law_pen_here", "_law_some"]) fun _ _ _ _ _ _ us hl => match us, hl with | [_, _], _ => rfl⟩
  have Fpivot_of := fun_mk (st := stpivot_of) lpivot_of cpivot_of kpivot_of
  have Dpivot_of : DefAt K mg "pivot_of" stpivot_of ["row"] fpivot_of _ := ⟨Fpivot_of, PySem.W.mg_of X G apivot_of, Fpivot_of.binds (ps := ["row"]) fun _ _ _ _ _ _ us hl => match us, hl with | [_], _ => rfl⟩
  have Fcombined := fun_mk (st := stcombined) lcombined ccombined kcombined
  have Dcombined : DefAt K mg "combined" stcombined ["many", "one", "times", "other"] fcombined _ := ⟨Fcombined, PySem.W.mg_of X G acombined, Fcombined.binds (ps := ["many", "one", "times", "other"]) fun _ _ _ _ _ _ us hl => match us, hl with | [_, _, _, _], _ => rfl⟩
  have Fidentity := fun_mk (st := stidentity) lidentity cidentity kidentity
  have Didentity : DefAt K mg "identity" stidentity ["many"] fidentity _ := ⟨Fidentity, PySem.W.mg_of X G aidentity, Fidentity.binds (ps := ["many"]) fun _ _ _ _ _ _ us hl => match us, hl with | [_], _ => rfl⟩
  have F_law_turned := fun_mk (st := st_law_turned) l_law_turned c_law_turned k_law_turned
  have D_law_turned : DefAt K mg "_law_turned" st_law_turned ["_law_rows"] f_law_turned _ := ⟨F_law_turned, PySem.W.mg_of X G a_law_turned, F_law_turned.binds (ps := ["_law_rows"]) fun _ _ _ _ _ _ us hl => match us, hl with | [_], _ => rfl⟩
  have Fprimitive := fun_mk (st := stprimitive) lprimitive cprimitive kprimitive
  have Dprimitive : DefAt K mg "primitive" stprimitive ["row"] fprimitive _ := ⟨Fprimitive, PySem.W.mg_of X G aprimitive, Fprimitive.binds (ps := ["row"]) fun _ _ _ _ _ _ us hl => match us, hl with | [_], _ => rfl⟩
  have Fwithout_item := fun_mk (st := stwithout_item) lwithout_item cwithout_item kwithout_item
  have Dwithout_item : DefAt K mg "without_item" stwithout_item ["row", "at", "held"] fwithout_item _ := ⟨Fwithout_item, PySem.W.mg_of X G awithout_item, Fwithout_item.binds (ps := ["row", "at", "held"]) fun _ _ _ _ _ _ us hl => match us, hl with | [_, _, _], _ => rfl⟩
  have Fcleared := fun_mk (st := stcleared) lcleared ccleared kcleared
  have Dcleared : DefAt K mg "cleared" stcleared ["reduced_rows", "row"] fcleared _ := ⟨Fcleared, PySem.W.mg_of X G acleared, Fcleared.binds (ps := ["reduced_rows", "row"]) fun _ _ _ _ _ _ us hl => match us, hl with | [_, _], _ => rfl⟩
  have Fspan_of := fun_mk (st := stspan_of) lspan_of cspan_of kspan_of
  have Dspan_of : DefAt K mg "span_of" stspan_of ["rows"] fspan_of _ := ⟨Fspan_of, PySem.W.mg_of X G aspan_of, Fspan_of.binds (ps := ["rows"]) fun _ _ _ _ _ _ us hl => match us, hl with | [_], _ => rfl⟩
  have Fis_list := fun_mk (st := stis_list) lis_list cis_list kis_list
  have Dis_list : DefAt K mg "is_list" stis_list ["value"] fis_list _ := ⟨Fis_list, PySem.W.mg_of X G ais_list, Fis_list.binds (ps := ["value"]) fun _ _ _ _ _ _ us hl => match us, hl with | [_], _ => rfl⟩
  have Fis_whole := fun_mk (st := stis_whole) lis_whole cis_whole kis_whole
  have Dis_whole : DefAt K mg "is_whole" stis_whole ["value"] fis_whole _ := ⟨Fis_whole, PySem.W.mg_of X G ais_whole, Fis_whole.binds (ps := ["value"]) fun _ _ _ _ _ _ us hl => match us, hl with | [_], _ => rfl⟩
  have Fare_integers := fun_mk (st := stare_integers) lare_integers care_integers kare_integers
  have Dare_integers : DefAt K mg "are_integers" stare_integers ["items"] fare_integers _ := ⟨Fare_integers, PySem.W.mg_of X G aare_integers, Fare_integers.binds (ps := ["items"]) fun _ _ _ _ _ _ us hl => match us, hl with | [_], _ => rfl⟩
  have Fis_matrix := fun_mk (st := stis_matrix) lis_matrix cis_matrix kis_matrix
  have Dis_matrix : DefAt K mg "is_matrix" stis_matrix ["rows"] fis_matrix _ := ⟨Fis_matrix, PySem.W.mg_of X G ais_matrix, Fis_matrix.binds (ps := ["rows"]) fun _ _ _ _ _ _ us hl => match us, hl with | [_], _ => rfl⟩
  have Fcheck_matrix : L2.FunD K "check_matrix" "check_matrix" (defArgs stcheck_matrix) (defBody stcheck_matrix) (defScope stcheck_matrix) [.str "rows"] [] fcheck_matrix _ := ⟨⟨_, _, _, _, _, _, _, _, _, _, rfl, lcheck_matrix, ccheck_matrix, .inr ⟨(fun z => nomatch z), Tcheck_matrix, _, _, _, rfl, tcheck_matrix, rfl, .cons ⟨_, rfl⟩ .nil⟩, .inl rfl⟩, kcheck_matrix⟩
  have Dcheck_matrix : DefDf [.str "rows"] K mg "check_matrix" stcheck_matrix ["rows", "what"] fcheck_matrix _ := ⟨Fcheck_matrix, PySem.W.mg_of X G acheck_matrix, by
    obtain ⟨ds, hv, hb⟩ := Fcheck_matrix.binds1 (ps := ["rows", "what"]) 2 1 (fun z => nomatch z) rfl fun _ _ _ _ _ _ _ us its hl hi => match us, its, hl, hi with | [_, _], [_], _, _ => ⟨_, rfl, rfl⟩
    cases hv
    exact hb, by
    obtain ⟨ds, hv, hb⟩ := Fcheck_matrix.binds1 (ps := ["rows", "what"]) 1 0 (fun z => nomatch z) rfl fun _ _ _ _ _ _ _ us its hl hi => match us, its, hl, hi with | [_], [_], _, _ => ⟨_, rfl, rfl⟩
    exact ⟨ds, hv, hb⟩⟩
  have Fas_tuples0 := fun_mk (st := stas_tuples0) las_tuples0 cas_tuples0 kas_tuples0
  have Das_tuples0 : DefAt K mg "as_tuples" stas_tuples0 ["value"] fas_tuples0 _ := ⟨Fas_tuples0, PySem.W.mg_of X G aas_tuples0, Fas_tuples0.binds (ps := ["value"]) fun _ _ _ _ _ _ us hl => match us, hl with | [_], _ => rfl⟩
  have Fas_tuples1 := fun_mk (st := stas_tuples1) las_tuples1 cas_tuples1 kas_tuples1
  have Das_tuples1 : DefAt K mg "as_tuples" stas_tuples1 ["value"] fas_tuples1 _ := ⟨Fas_tuples1, PySem.W.mg_of X G aas_tuples1, Fas_tuples1.binds (ps := ["value"]) fun _ _ _ _ _ _ us hl => match us, hl with | [_], _ => rfl⟩
  have Fas_tuples := fun_mk (st := stas_tuples) las_tuples cas_tuples kas_tuples
  have Das_tuples : DefAt K mg "as_tuples" stas_tuples ["value"] fas_tuples _ := ⟨Fas_tuples, PySem.W.mg_of X G aas_tuples, Fas_tuples.binds (ps := ["value"]) fun _ _ _ _ _ _ us hl => match us, hl with | [_], _ => rfl⟩
  have F_law_inner := fun_mk (st := st_law_inner) l_law_inner c_law_inner k_law_inner
  have D_law_inner : DefAt K mg "_law_inner" st_law_inner ["_law_row", "_law_column"] f_law_inner _ := ⟨F_law_inner, PySem.W.mg_of X G a_law_inner, F_law_inner.binds (ps := ["_law_row", "_law_column"]) fun _ _ _ _ _ _ us hl => match us, hl with | [_, _], _ => rfl⟩
  have F_law_unit := fun_mk (st := st_law_unit) l_law_unit c_law_unit k_law_unit
  have D_law_unit : DefAt K mg "_law_unit" st_law_unit ["_law_many"] f_law_unit _ := ⟨F_law_unit, PySem.W.mg_of X G a_law_unit, F_law_unit.binds (ps := ["_law_many"]) fun _ _ _ _ _ _ us hl => match us, hl with | [_], _ => rfl⟩
  have Fbezout := fun_mk (st := stbezout) lbezout cbezout kbezout
  have Dbezout : DefAt K mg "bezout" stbezout ["one", "other"] fbezout _ := ⟨Fbezout, PySem.W.mg_of X G abezout, Fbezout.binds (ps := ["one", "other"]) fun _ _ _ _ _ _ us hl => match us, hl with | [_, _], _ => rfl⟩
  have Ftaken_in := fun_mk (st := sttaken_in) ltaken_in ctaken_in ktaken_in
  have Dtaken_in : DefAt K mg "taken_in" sttaken_in ["basis", "row"] ftaken_in _ := ⟨Ftaken_in, PySem.W.mg_of X G ataken_in, Ftaken_in.binds (ps := ["basis", "row"]) fun _ _ _ _ _ _ us hl => match us, hl with | [_, _], _ => rfl⟩
  have Freduced := fun_mk (st := streduced) lreduced creduced kreduced
  have Dreduced : DefAt K mg "reduced" streduced ["rows"] freduced _ := ⟨Freduced, PySem.W.mg_of X G areduced, Freduced.binds (ps := ["rows"]) fun _ _ _ _ _ _ us hl => match us, hl with | [_], _ => rfl⟩
  have Fhermite_rows := fun_mk (st := sthermite_rows) lhermite_rows chermite_rows khermite_rows
  have Dhermite_rows : DefAt K mg "hermite_rows" sthermite_rows ["rows"] fhermite_rows _ := ⟨Fhermite_rows, PySem.W.mg_of X G ahermite_rows, Fhermite_rows.binds (ps := ["rows"]) fun _ _ _ _ _ _ us hl => match us, hl with | [_], _ => rfl⟩
  have Fhermite_pair := fun_mk (st := sthermite_pair) lhermite_pair chermite_pair khermite_pair
  have Dhermite_pair : DefAt K mg "hermite_pair" sthermite_pair ["rows"] fhermite_pair _ := ⟨Fhermite_pair, PySem.W.mg_of X G ahermite_pair, Fhermite_pair.binds (ps := ["rows"]) fun _ _ _ _ _ _ us hl => match us, hl with | [_], _ => rfl⟩
  have Frank_of := fun_mk (st := strank_of) lrank_of crank_of krank_of
  have Drank_of : DefAt K mg "rank_of" strank_of ["rows"] frank_of _ := ⟨Frank_of, PySem.W.mg_of X G arank_of, Frank_of.binds (ps := ["rows"]) fun _ _ _ _ _ _ us hl => match us, hl with | [_], _ => rfl⟩
  have Fsets_of := fun_mk (st := stsets_of) lsets_of csets_of ksets_of
  have Dsets_of : DefAt K mg "sets_of" stsets_of ["many", "size"] fsets_of _ := ⟨Fsets_of, PySem.W.mg_of X G asets_of, Fsets_of.binds (ps := ["many", "size"]) fun _ _ _ _ _ _ us hl => match us, hl with | [_, _], _ => rfl⟩
  have Fbase_sets : L2.FunD K "base_sets" "base_sets" (defArgs stbase_sets) (defBody stbase_sets) (defScope stbase_sets) [.bl false] [] fbase_sets _ := ⟨⟨_, _, _, _, _, _, _, _, _, _, rfl, lbase_sets, cbase_sets, .inr ⟨(fun z => nomatch z), Tbase_sets, _, _, _, rfl, tbase_sets, rfl, .cons rfl .nil⟩, .inl rfl⟩, kbase_sets⟩
  have Xbase_sets : DefDf [.bl false] K mg "base_sets" stbase_sets ["A", "whole"] fbase_sets _ := ⟨Fbase_sets, PySem.W.mg_of X G abase_sets, by
    obtain ⟨ds, hv, hb⟩ := Fbase_sets.binds1 (ps := ["A", "whole"]) 2 1 (fun z => nomatch z) rfl fun _ _ _ _ _ _ _ us its hl hi => match us, its, hl, hi with | [_, _], [_], _, _ => ⟨_, rfl, rfl⟩
    cases hv
    exact hb, by
    obtain ⟨ds, hv, hb⟩ := Fbase_sets.binds1 (ps := ["A", "whole"]) 1 0 (fun z => nomatch z) rfl fun _ _ _ _ _ _ _ us its hl hi => match us, its, hl, hi with | [_], [_], _, _ => ⟨_, rfl, rfl⟩
    exact ⟨ds, hv, hb⟩⟩
  have Dbase_sets : DefDk [.bl false] K mg "base_sets" stbase_sets ["A", "whole"] fbase_sets _ := ⟨Xbase_sets, by
    obtain ⟨_, hb⟩ := Fbase_sets.kbindsD (ps := ["A", "whole"]) 1 ["whole"] (fun us _ zs => us ++ zs) (fun z => nomatch z) (fun r1 _ r3 => r1.append r3) fun _ _ _ _ _ _ _ us its ws l1 l2 l3 => match us, its, ws, l1, l2, l3 with | [_], [_], [_], _, _, _ => ⟨_, rfl, rfl⟩
    exact hb⟩
  have FG_init := fun_mk (st := stG_init) lG_init cG_init kG_init
  have DG_init : IniA K "__init__" "Groups.__init__" stG_init ["self", "basis", "down", "up"] CGroups fG_init _ := ⟨FG_init, FG_init.binds (ps := ["self", "basis", "down", "up"]) fun _ _ _ _ _ _ us hl => match us, hl with | [_, _, _, _], _ => rfl, ⟨mkGroups, aG_init, iG_init, kcGroups⟩⟩
  have Fgroups_of := fun_mk (st := stgroups_of) lgroups_of cgroups_of kgroups_of
  have Dgroups_of : DefAt K mg "groups_of" stgroups_of ["A"] fgroups_of _ := ⟨Fgroups_of, PySem.W.mg_of X G agroups_of, Fgroups_of.binds (ps := ["A"]) fun _ _ _ _ _ _ us hl => match us, hl with | [_], _ => rfl⟩
  have F_law_exponents := fun_mk (st := st_law_exponents) l_law_exponents c_law_exponents k_law_exponents
  have D_law_exponents : DefAt K mg "_law_exponents" st_law_exponents ["_law_pen_here", "_law_many", "_law_base"] f_law_exponents _ := ⟨F_law_exponents, PySem.W.mg_of X G a_law_exponents, F_law_exponents.binds (ps := ["_law_pen_here", "_law_many", "_law_base"]) fun _ _ _ _ _ _ us hl => match us, hl with | [_, _, _], _ => rfl⟩
  have F_law_unimodular := fun_mk (st := st_law_unimodular) l_law_unimodular c_law_unimodular k_law_unimodular
  have D_law_unimodular : DefAt K mg "_law_unimodular" st_law_unimodular ["_law_pen_here", "_law_many", "_law_steps"] f_law_unimodular _ := ⟨F_law_unimodular, PySem.W.mg_of X G a_law_unimodular, F_law_unimodular.binds (ps := ["_law_pen_here", "_law_many", "_law_steps"]) fun _ _ _ _ _ _ us hl => match us, hl with | [_, _, _], _ => rfl⟩
  have F_law_matmul := fun_mk (st := st_law_matmul) l_law_matmul c_law_matmul k_law_matmul
  have D_law_matmul : DefAt K mg "_law_matmul" st_law_matmul ["_law_one", "_law_two"] f_law_matmul _ := ⟨F_law_matmul, PySem.W.mg_of X G a_law_matmul, F_law_matmul.binds (ps := ["_law_one", "_law_two"]) fun _ _ _ _ _ _ us hl => match us, hl with | [_, _], _ => rfl⟩
  have F_law_pivots := fun_mk (st := st_law_pivots) l_law_pivots c_law_pivots k_law_pivots
  have D_law_pivots : DefAt K mg "_law_pivots" st_law_pivots ["_law_rows"] f_law_pivots _ := ⟨F_law_pivots, PySem.W.mg_of X G a_law_pivots, F_law_pivots.binds (ps := ["_law_rows"]) fun _ _ _ _ _ _ us hl => match us, hl with | [_], _ => rfl⟩
  have F_law_belongs := fun_mk (st := st_law_belongs) l_law_belongs c_law_belongs k_law_belongs
  have D_law_belongs : DefAt K mg "_law_belongs" st_law_belongs ["_law_basis", "_law_row"] f_law_belongs _ := ⟨F_law_belongs, PySem.W.mg_of X G a_law_belongs, F_law_belongs.binds (ps := ["_law_basis", "_law_row"]) fun _ _ _ _ _ _ us hl => match us, hl with | [_, _], _ => rfl⟩
  have F_law_same_lattice := fun_mk (st := st_law_same_lattice) l_law_same_lattice c_law_same_lattice k_law_same_lattice
  have D_law_same_lattice : DefAt K mg "_law_same_lattice" st_law_same_lattice ["_law_one", "_law_other"] f_law_same_lattice _ := ⟨F_law_same_lattice, PySem.W.mg_of X G a_law_same_lattice, F_law_same_lattice.binds (ps := ["_law_one", "_law_other"]) fun _ _ _ _ _ _ us hl => match us, hl with | [_, _], _ => rfl⟩
  have F_law_shuffled := fun_mk (st := st_law_shuffled) l_law_shuffled c_law_shuffled k_law_shuffled
  have D_law_shuffled : DefAt K mg "_law_shuffled" st_law_shuffled ["_law_pen_here", "_law_some"] f_law_shuffled _ := ⟨F_law_shuffled, PySem.W.mg_of X G a_law_shuffled, F_law_shuffled.binds (ps := ["_law_pen_here", "_law_some"]) fun _ _ _ _ _ _ us hl => match us, hl with | [_, _], _ => rfl⟩
  have F_law_turned_units := fun_mk (st := st_law_turned_units) l_law_turned_units c_law_turned_units k_law_turned_units
  have D_law_turned_units : DefAt K mg "_law_turned_units" st_law_turned_units ["_law_pen_here", "_law_rows"] f_law_turned_units _ := ⟨F_law_turned_units, PySem.W.mg_of X G a_law_turned_units, F_law_turned_units.binds (ps := ["_law_pen_here", "_law_rows"]) fun _ _ _ _ _ _ us hl => match us, hl with | [_, _], _ => rfl⟩
  have Flaw := fun_mk (st := stlaw) llaw claw klaw
  have Dlaw : DefAt K mg "law" stlaw ["_law_script"] flaw _ := ⟨Flaw, PySem.W.mg_of X G alaw, Flaw.binds (ps := ["_law_script"]) fun _ _ _ _ _ _ us hl => match us, hl with | [_], _ => rfl⟩
  have Es : ErH K mg CGroups := ⟨PySem.W.mg_of X G GGg, ⟨pgGroups, hdGroups, poGroups, saGroups⟩, nGroupsbasis, nGroupsdown, nGroupsup, PySem.W.mg_of X G aCGroups⟩
  exact ⟨_, fun s v => .of_eq rfl, fun base _ _ => FnG.of (oklaw (blt_of X G BT0) Es D_law_pivots D_law_belongs D_law_draw D_law_pick D_law_exponents D_law_inner D_law_pen D_law_same_lattice D_law_shuffled D_law_turned D_law_matmul D_law_unit D_law_unimodular D_law_turned_units Dis_whole Dare_integers Dis_list Dis_matrix Dcheck_matrix Dcombined Dpivot_of Dreduced Dbezout Dtaken_in Dhermite_rows Dwithout_item Dcleared Dprimitive Dspan_of Drank_of Dsets_of Dbase_sets Das_tuples0 Das_tuples1 Das_tuples DG_init Didentity Dhermite_pair Dgroups_of Dlaw)⟩

theorem walk {l : PySem.W.OpenLaw} {q : Program} {loose : List Str} {XP : (Str → Option Value) → Heap → Prop} {YP : World → Heap → Prop} {d : DefRec} {K : Params → PySem.W.Frag} (hn : l.most = some 63) (hdf : d.params.defaults = [])
    (hY : ∀ (w : World) (h : Heap), YP w h → (K w.params).In h)
    (F : ∀ (w : World) (mg : Str → Option Value) (fa : Addr) (h : Heap), (K w.params).In h → h.Ns mainGlobals mg → mg d.name = some (.ref fa) → ∃ fd : FuncData, (∀ (s : Shared) (u : Value), BindsTo s fd ⟨[u], []⟩ [("_law_script", u)]) ∧
      ∀ base : Heap, (K w.params).In base → base.Ns mainGlobals mg → FnG l.prog w (K w.params) mg base CX0 9 fa fd ["_law_script"] (spLaw (K w.params))) : PySem.W.WalkO q loose XP YP l.row.toRowW d [] (fun f vs => PySem.call f vs) :=
  walkG (n := 63) (sp := spLaw) hn (by decide) hdf ⟨rfl, by decide, by decide⟩ hY F (fun K H a ns hl _ hS => ⟨a, ns, rfl, hS, hl, fun _ => rfl⟩)
end AL
open PySem PySem.W PyProof.Rows
set_option maxRecDepth 100000 in
set_option maxHeartbeats 0 in
theorem PySem.Challenge.cw_allscales_k64_whole_groups_of_turned_uni_holds : PySem.Challenge.rw_allscales_k64_whole_groups_of_turned_uni.Holds := by
  w_on; o_law; k_head; (case hw => w_witness2)
  k_fill
  refine AL.walk (l := PySem.Challenge.rw_allscales_k64_whole_groups_of_turned_uni) rfl rfl (fun w h Y => PySem.W.kIn_of Y) ?F
  case F =>
    intro w mg fa h KX G hmg
    refine' AL.all_mk KX G hmg ?aCGroups ?pgGroups ?hdGroups ?poGroups ?saGroups ?mkGroups ?kcGroups ?sfGroups ?q1Groups ?q2Groups ?q3Groups ?q4Groups ?nGroupsbasis ?nGroupsdown ?nGroupsup ?a_law_pen ?l_law_pen ?c_law_pen ?k_law_pen ?a_law_draw ?l_law_draw ?c_law_draw ?k_law_draw ?a_law_pick ?l_law_pick ?c_law_pick ?k_law_pick ?apivot_of ?lpivot_of ?cpivot_of ?kpivot_of ?acombined ?lcombined ?ccombined ?kcombined ?aidentity ?lidentity ?cidentity ?kidentity ?a_law_turned ?l_law_turned ?c_law_turned ?k_law_turned ?aprimitive ?lprimitive ?cprimitive ?kprimitive ?awithout_item ?lwithout_item ?cwithout_item ?kwithout_item ?acleared ?lcleared ?ccleared ?kcleared ?aspan_of ?lspan_of ?cspan_of ?kspan_of ?ais_list ?lis_list ?cis_list ?kis_list ?ais_whole ?lis_whole ?cis_whole ?kis_whole ?aare_integers ?lare_integers ?care_integers ?kare_integers ?ais_matrix ?lis_matrix ?cis_matrix ?kis_matrix ?acheck_matrix ?lcheck_matrix ?ccheck_matrix ?kcheck_matrix ?tcheck_matrix ?aas_tuples0 ?las_tuples0 ?cas_tuples0 ?kas_tuples0 ?aas_tuples1 ?las_tuples1 ?cas_tuples1 ?kas_tuples1 ?aas_tuples ?las_tuples ?cas_tuples ?kas_tuples ?a_law_inner ?l_law_inner ?c_law_inner ?k_law_inner ?a_law_unit ?l_law_unit ?c_law_unit ?k_law_unit ?abezout ?lbezout ?cbezout ?kbezout ?ataken_in ?ltaken_in ?ctaken_in ?ktaken_in ?areduced ?lreduced ?creduced ?kreduced ?ahermite_rows ?lhermite_rows ?chermite_rows ?khermite_rows ?ahermite_pair ?lhermite_pair ?chermite_pair ?khermite_pair ?arank_of ?lrank_of ?crank_of ?krank_of ?asets_of ?lsets_of ?csets_of ?ksets_of ?abase_sets ?lbase_sets ?cbase_sets ?kbase_sets ?tbase_sets ?aG_init ?lG_init ?cG_init ?kG_init ?iG_init ?agroups_of ?lgroups_of ?cgroups_of ?kgroups_of ?a_law_exponents ?l_law_exponents ?c_law_exponents ?k_law_exponents ?a_law_unimodular ?l_law_unimodular ?c_law_unimodular ?k_law_unimodular ?a_law_matmul ?l_law_matmul ?c_law_matmul ?k_law_matmul ?a_law_pivots ?l_law_pivots ?c_law_pivots ?k_law_pivots ?a_law_belongs ?l_law_belongs ?c_law_belongs ?k_law_belongs ?a_law_same_lattice ?l_law_same_lattice ?c_law_same_lattice ?k_law_same_lattice ?a_law_shuffled ?l_law_shuffled ?c_law_shuffled ?k_law_shuffled ?a_law_turned_units ?l_law_turned_units ?c_law_turned_units ?k_law_turned_units ?alaw ?llaw ?claw ?klaw ?GGg ?BT0
    (case aCGroups => k_is)
    (case pgGroups => k_is)
    (case hdGroups => k_is)
    (case poGroups => k_is)
    (case saGroups => k_is)
    (case mkGroups => k_is)
    (case kcGroups => k_is)
    (case sfGroups => kernel_rfl)
    (case q1Groups => k_is)
    (case q2Groups => k_is)
    (case q3Groups => k_is)
    (case q4Groups => k_is)
    (case nGroupsbasis => k_is)
    (case nGroupsdown => k_is)
    (case nGroupsup => k_is)
    (case a_law_pen => k_is)
    (case l_law_pen => k_is)
    (case c_law_pen => k_is)
    (case k_law_pen => k_is)
    (case a_law_draw => k_is)
    (case l_law_draw => k_is)
    (case c_law_draw => k_is)
    (case k_law_draw => k_is)
    (case a_law_pick => k_is)
    (case l_law_pick => k_is)
    (case c_law_pick => k_is)
    (case k_law_pick => k_is)
    (case apivot_of => k_is)
    (case lpivot_of => k_is)
    (case cpivot_of => k_is)
    (case kpivot_of => k_is)
    (case acombined => k_is)
    (case lcombined => k_is)
    (case ccombined => k_is)
    (case kcombined => k_is)
    (case aidentity => k_is)
    (case lidentity => k_is)
    (case cidentity => k_is)
    (case kidentity => k_is)
    (case a_law_turned => k_is)
    (case l_law_turned => k_is)
    (case c_law_turned => k_is)
    (case k_law_turned => k_is)
    (case aprimitive => k_is)
    (case lprimitive => k_is)
    (case cprimitive => k_is)
    (case kprimitive => k_is)
    (case awithout_item => k_is)
    (case lwithout_item => k_is)
    (case cwithout_item => k_is)
    (case kwithout_item => k_is)
    (case acleared => k_is)
    (case lcleared => k_is)
    (case ccleared => k_is)
    (case kcleared => k_is)
    (case aspan_of => k_is)
    (case lspan_of => k_is)
    (case cspan_of => k_is)
    (case kspan_of => k_is)
    (case ais_list => k_is)
    (case lis_list => k_is)
    (case cis_list => k_is)
    (case kis_list => k_is)
    (case ais_whole => k_is)
    (case lis_whole => k_is)
    (case cis_whole => k_is)
    (case kis_whole => k_is)
    (case aare_integers => k_is)
    (case lare_integers => k_is)
    (case care_integers => k_is)
    (case kare_integers => k_is)
    (case ais_matrix => k_is)
    (case lis_matrix => k_is)
    (case cis_matrix => k_is)
    (case kis_matrix => k_is)
    (case acheck_matrix => k_is)
    (case lcheck_matrix => k_is)
    (case ccheck_matrix => k_is)
    (case kcheck_matrix => k_is)
    (case tcheck_matrix => k_is)
    (case aas_tuples0 => k_is)
    (case las_tuples0 => k_is)
    (case cas_tuples0 => k_is)
    (case kas_tuples0 => k_is)
    (case aas_tuples1 => k_is)
    (case las_tuples1 => k_is)
    (case cas_tuples1 => k_is)
    (case kas_tuples1 => k_is)
    (case aas_tuples => k_is)
    (case las_tuples => k_is)
    (case cas_tuples => k_is)
    (case kas_tuples => k_is)
    (case a_law_inner => k_is)
    (case l_law_inner => k_is)
    (case c_law_inner => k_is)
    (case k_law_inner => k_is)
    (case a_law_unit => k_is)
    (case l_law_unit => k_is)
    (case c_law_unit => k_is)
    (case k_law_unit => k_is)
    (case abezout => k_is)
    (case lbezout => k_is)
    (case cbezout => k_is)
    (case kbezout => k_is)
    (case ataken_in => k_is)
    (case ltaken_in => k_is)
    (case ctaken_in => k_is)
    (case ktaken_in => k_is)
    (case areduced => k_is)
    (case lreduced => k_is)
    (case creduced => k_is)
    (case kreduced => k_is)
    (case ahermite_rows => k_is)
    (case lhermite_rows => k_is)
    (case chermite_rows => k_is)
    (case khermite_rows => k_is)
    (case ahermite_pair => k_is)
    (case lhermite_pair => k_is)
    (case chermite_pair => k_is)
    (case khermite_pair => k_is)
    (case arank_of => k_is)
    (case lrank_of => k_is)
    (case crank_of => k_is)
    (case krank_of => k_is)
    (case asets_of => k_is)
    (case lsets_of => k_is)
    (case csets_of => k_is)
    (case ksets_of => k_is)
    (case abase_sets => k_is)
    (case lbase_sets => k_is)
    (case cbase_sets => k_is)
    (case kbase_sets => k_is)
    (case tbase_sets => k_is)
    (case aG_init => k_is)
    (case lG_init => k_is)
    (case cG_init => k_is)
    (case kG_init => k_is)
    (case iG_init => k_is)
    (case agroups_of => k_is)
    (case lgroups_of => k_is)
    (case cgroups_of => k_is)
    (case kgroups_of => k_is)
    (case a_law_exponents => k_is)
    (case l_law_exponents => k_is)
    (case c_law_exponents => k_is)
    (case k_law_exponents => k_is)
    (case a_law_unimodular => k_is)
    (case l_law_unimodular => k_is)
    (case c_law_unimodular => k_is)
    (case k_law_unimodular => k_is)
    (case a_law_matmul => k_is)
    (case l_law_matmul => k_is)
    (case c_law_matmul => k_is)
    (case k_law_matmul => k_is)
    (case a_law_pivots => k_is)
    (case l_law_pivots => k_is)
    (case c_law_pivots => k_is)
    (case k_law_pivots => k_is)
    (case a_law_belongs => k_is)
    (case l_law_belongs => k_is)
    (case c_law_belongs => k_is)
    (case k_law_belongs => k_is)
    (case a_law_same_lattice => k_is)
    (case l_law_same_lattice => k_is)
    (case c_law_same_lattice => k_is)
    (case k_law_same_lattice => k_is)
    (case a_law_shuffled => k_is)
    (case l_law_shuffled => k_is)
    (case c_law_shuffled => k_is)
    (case k_law_shuffled => k_is)
    (case a_law_turned_units => k_is)
    (case l_law_turned_units => k_is)
    (case c_law_turned_units => k_is)
    (case k_law_turned_units => k_is)
    (case alaw => k_is)
    (case llaw => k_is)
    (case claw => k_is)
    (case klaw => k_is)
    (case GGg => k_is)
    (case BT0 => kernel_rfl)
#print axioms PySem.Challenge.cw_allscales_k64_whole_groups_of_turned_uni_holds
