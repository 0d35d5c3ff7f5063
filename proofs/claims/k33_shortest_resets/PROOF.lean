import PyProof.Rows.All
import Wide.All
import OpenK.AllK
import Wide.FinOn
import HandS.ForMost
import HandS.TupMul
import HandS.TupAny
import HandS.SetFor
import HandS.Walk
import HandS.EndBits
import KE.GoesEnum
import PyProof.ReprRoads
import HandS.Zip
import HandS.NoneIn
import HandS.Strs
import PyProof.ListNew
import PyProof.Rows.CountFlat
import HandS.More
import HandS.IsInst
import HandS.Conv
import KE.DataMinMax
import HandS.Star
import HandS.SortRule
import HandS.NamedTupSort
import HandS.TupLe
import KE.KSortTup
import KE.SortData
import HandS.CallLocal
import KE.KDictDisplayH
import HandS.Style
import HandS.Dict
import HandS.SetBool
import HandS.TupSets
import HandS.ListItems
import KE.KExcIs
import HandS.Exc
import HandS.ExcIs
import HandS.ExcInit
import HandS.ExcField
import HandS.ExcOwn
import HandS.WordsExc
import HandS.RaiseMore
import HandS.DictComp
import KE.DataMinKey
import KE.DataCmp
import KE.LtData
import HandS.Lambda
import HandS.SortKw
import KE.KDictSum
import HandS.Head0
import HandS.Head1
import HandS.Head2
import HandS.HeadHook1
import HandS.EndTab
import PySem.Challenge.RW_pressrelease_k33_shortest_resets
set_option Elab.async false
set_option linter.all false
set_option maxRecDepth 100000
set_option maxHeartbeats 4000000
set_option genInjectivity false
set_option genSizeOfSpec false
namespace Pr
open PySem PySem.Spec PyProof.Rows L2
structure FnG (P : Program) (w : World) (K : PySem.W.Frag) (mg : Str → Option Value) (base : Heap) (k : Nat) (f : Addr) (fd : FuncData) (ps : List Str) (sp : Sp) : Prop where
  len : ∀ vs H Q E, sp vs H Q E → vs.length = ps.length
  go : ∀ (A : Around) (outer : List Env) (s : Shared) (H : Hp) (args : Args) (us : List Value) (vs : List V) (Q : VK) (E : XK), A.guards = some [] → Room k A →
    Env0 P w K mg base A outer s H → BindsTo s fd args (ps.zip us) → Vals vs us → sp vs H Q E →
    codeAny (model P w) A (.call (.ref f) args) (CR CX0 outer P w H s Q E) s
section
variable {P : Program} {w : World} {K : PySem.W.Frag} {mg : Str → Option Value} {base : Heap}
theorem FnG.of {k : Nat} {f : Addr} {fd : FuncData} {ps : List Str} {sp : Sp} (F : FnOk P w K mg base CX0 k f fd ps sp) : FnG P w K mg base k f fd ps sp :=
  ⟨F.len, fun A outer s H args us vs Q E _ hr => F.run A outer s H args us vs Q E hr⟩
/-- a def by its body, where no repr is under way -/
theorem okG {x qual : Str} {st : Stmt} {f : Addr} {fd : FuncData} {N ps : List Str} {k : Nat} {sp : Sp} (F : Fun K x qual st f fd) (S : FnScope N ps (defScope st))
    (len : ∀ vs H Q E, sp vs H Q E → vs.length = ps.length)
    (body : ∀ (cdv : Value) (A : Around) (outer : List Env) (s : Shared) (H : Hp) (vs : List V) (Q : VK) (E : XK), A.guards = some [] →
      Room k (A.deeper (envOfC qual (defScope st) s.heap.objs.size f cdv)) → sp vs H Q E →
      ∃ t, PSs (cxOf CX0 P w K mg base N qual (defScope st) f cdv A outer s H E).nox (defBody st) t ∧ t { nx := fun _ H' => Q .non H', rt := Q } (start N vs) H) :
    FnG P w K mg base (k + 1) f fd ps sp := by
  obtain ⟨oc, od, kV, doc, pm, an, cdv, ct, osl, rfl, lk, hcd⟩ := F.ex
  refine ⟨len, fun A outer s H args us vs Q E hg hr e0 hb r hsp => ?_⟩
  have hin : K.In s.heap := e0.mod.kin.keeps fun b o e => (e0.bs b o e).1
  have hlm : s.heap.NoLimit := e0.mod.nolimit.keeps fun b o e => (e0.bs b o e).1
  refine codeAny_call_function hr.depth (hin _ _ lk) rfl S.co S.gen rfl (PySem.W.codeRec_of hin hcd) (hb _ _ _ _ ?_)
  refine wpAny_newFunctionEnv_cells S.kind (fun ⟨n, v⟩ hy => ?_) fun env he s1 x => ?_
  · rcases S.par n (List.of_mem_zip hy).1 with q | q
    · exact .inl q
    · exact .inr ⟨q, PySem.W.cellsFrom_some _ _ _ (.inl q)⟩
  · subst he
    refine ⟨hlm.keeps x.toInCall.keep, codeAny_func ?_⟩
    obtain ⟨t, ht, hq⟩ := body cdv A outer s H vs Q E hg (hr.deeper _) hsp
    have I := inv_start (CX := CX0) (E := E) S hr.hd e0 (len _ _ _ _ hsp) r x
    refine wpAny_mono (ht.nox.run [] s1 (start N vs) H _ I hq) (fun fl s' hs => ?_) fun e s' hs => hs
    cases fl with
    | ret u => obtain ⟨v, σ', H', J, rv, q⟩ := hs; exact ⟨v, H', J.os, J.bare, J.base, J.hok, rv, q⟩
    | next => obtain ⟨σ', H', J, q⟩ := hs; exact ⟨V.non, H', J.os, J.bare, J.base, J.hok, rfl, q⟩
    | brk => obtain ⟨_, _, _, q⟩ := hs; exact q.elim
    | cont => obtain ⟨_, _, _, q⟩ := hs; exact q.elim
end
def rRepr (K : PySem.W.Frag) : List V → Hp → VK → Prop := fun xs H Q => ∃ (a : Addr) (d : PyData), xs = [.ref a] ∧ Dp K H (.ref a) d ∧ d.showable = true ∧ d.hasDict = false ∧ d.depth ≤ 60 ∧ d.shown.length ≤ sizeLine ∧ Q (.str d.shown) H
theorem call_repr {X : Cx} {k : Nat} (gd : X.A.guards = some []) (hr : Room k X.A) : CallR X (.builtin "repr") (rRepr X.K) := by
  intro pins s σ H xs us Q I rv h
  obtain ⟨a, d, rfl, hd, hs, hn, hdep, hz, q⟩ := h
  obtain ⟨u, rfl, rx⟩ := vals1 rv
  cases rx
  obtain ⟨as, r⟩ := Dp.reads I d _ _ hd rfl
  exact repr_of_reads' r hs (PyData.noDict_hsm hn) gd (by have := hr.un; omega) (fun _ _ e => e) (fun h' t tk hk => ⟨.str d.shown, H, I.kept hk, ⟨t, rfl⟩, q⟩) hz
end Pr
namespace Pr
open PySem PySem.Spec PyProof.Rows L2
/-- a tuple of which it is known that it has no attributes of its own -/
def FT (H : Hp) (a : Addr) (xs : List V) : Prop := ∃ o : Obj, H a = some (.frz o (.tup xs)) ∧ o.dict = none
theorem FT.sq {K : PySem.W.Frag} {H : Hp} {a : Addr} {xs : List V} (h : FT H a xs) : SqT K H a xs := let ⟨o, e, _⟩ := h; .inl (.inr ⟨o, e⟩)
theorem FT.same {H H' : Hp} {a : Addr} {xs : List V} (e : Same H H') (h : FT H a xs) : FT H' a xs := let ⟨o, q, z⟩ := h; ⟨o, e _ _ q, z⟩
theorem same_sqT {K : PySem.W.Frag} {H H' : Hp} {a : Addr} {xs : List V} (e : Same H H') (h : SqT K H a xs) : SqT K H' a xs := by
  rcases h with (h | ⟨o, h⟩) | h
  · exact .inl (.inl (e _ _ h))
  · exact .inl (.inr ⟨o, e _ _ h⟩)
  · exact .inr h
section
variable {X : Cx}
def rTupF (K : PySem.W.Frag) : List V → Hp → VK → Prop := fun xs H Q => ∃ p ys, xs = [.ref p] ∧ SqL K H p ys ∧ ∀ l o, H l = none → o.dict = none → Q (.ref l) (upd H l (.frz o (.tup ys)))
theorem call_tupF : CallR X (.type "tuple") (rTupF X.K) := by
  intro pins s σ H xs us Q I r h
  obtain ⟨p, ys, rfl, hq, q⟩ := h
  obtain ⟨u, rfl, rx⟩ := vals1 r
  cases rx
  obtain ⟨its, r', pl, hz⟩ := I.list hq
  have hlen := r'.length
  refine call_tuple_list pl.isList (fun h' kp => ?_) (by simp only [List.size_toArray] <;> omega)
  have I1 : Inv X pins σ H { s with heap := h' } := I.kept (t' := s.toks) kp
  have I2 := I1.laid (t' := s.toks) (h' := h'.push { cls := .type "tuple", data := .seq its.toArray }) (a := h'.objs.size)
    (o := .frz { cls := .type "tuple", data := .seq its.toArray } (.tup ys)) (fun b o e => Heap.get?_push_of_some _ e) (Nat.le_refl _) ⟨Heap.get?_push_size _ rfl, hz, its, r', IsTup.new _ _⟩
  exact ⟨.ref h'.objs.size, _, I2, rfl, q _ _ (I1.hok.fresh (Nat.le_refl _)) rfl⟩
end
theorem tup_mul0 (l : Addr) (y : Value) (n : Nat) (dd : Option Addr) (sl : Array (Option Value)) (u : Tok) :
    Meets (Builtin.«tuple.__mul__» ⟨[.ref l, .int 0 u], []⟩) (fun _ R s => s.heap.get? l = some { cls := .type "tuple", dict := dd, data := .seq #[y] n, slots := sl } ∧
      R (.ok (.ret (Value.ref s.heap.objs.size))) { s with heap := s.heap.push { cls := Value.type "tuple", data := Data.seq #[] }, toks := s.toks }) :=
  .of_wp fun prog w A R s h => by
    obtain ⟨hp, g, d, tk, os⟩ := s
    obtain ⟨hl, h⟩ := h
    have f1 := AutoSeq1.idx_int
    wp_walk using AutoSeq1.wpAny_loadPart' hl
    exact ⟨_, rfl, h⟩
theorem tup_mul1 (l : Addr) (y : Value) (n : Nat) (dd : Option Addr) (sl : Array (Option Value)) (u : Tok) :
    Meets (Builtin.«tuple.__mul__» ⟨[.ref l, .int 1 u], []⟩) (fun _ R s => s.heap.get? l = some { cls := .type "tuple", dict := dd, data := .seq #[y] n, slots := sl } ∧ R (.ok (.ret (.ref l))) s) :=
  .of_wp fun prog w A R s h => by
    obtain ⟨hp, g, d, tk, os⟩ := s
    obtain ⟨hl, h⟩ := h
    have f1 := AutoSeq1.idx_int
    wp_walk using AutoSeq1.wpAny_loadPart' hl
    exact ⟨_, rfl, h⟩
section
variable {X : Cx}
def rRep1 (K : PySem.W.Frag) : R2 := fun x y H Q => ∃ l v, x = .ref l ∧ SqT K H l [v] ∧ ((y = .int 1 ∧ Q (.ref l) H) ∨ (y = .int 0 ∧ ∀ p, H p = none → Q (.ref p) (upd H p (.tup []))))
theorem op_rep1 : OpR X (binaryOp .Mult) (rRep1 X.K) := by
  intro pins s σ H x y v u Q I rx ry h
  obtain ⟨l, z, rfl, hT, h⟩ := h
  cases rx
  obtain ⟨its, r, ⟨⟨cls, dd, data, sl⟩, ho, hc, n, hd⟩, hs⟩ := I.tuple hT
  simp only at hc hd
  subst hc hd
  obtain ⟨a, rfl, ra⟩ := vals1 r
  rcases h with ⟨rfl, q⟩ | ⟨rfl, q⟩
  · obtain ⟨t, rfl⟩ := ry
    refine wpAny_binaryOp_repeat_ref (T := "tuple") (U := "int") (by decide) ⟨_, ho, rfl⟩ (fun s' => typeIs_int s' 1 t) noFill_tuple_mul F.fills_int_mul F.slot_int_rmul repeat_tuple F.slot_int_index.lookup
      (call_meets F.slot_int_rmul (typeIs_int s 1 t) F.entry_int_rmul (F.args_int_rmul_2 _ _) (int_rmul_tuple 1 t l #[a] n dd sl)
        ⟨ho, rfl, ⟨_, ho, rfl⟩, call_meets F.slot_tuple_mul ⟨_, ho, rfl⟩ F.entry_tuple_mul (F.args_tuple_mul_2 _ _) (tup_mul1 l a n dd sl t) ⟨ho, ?_⟩⟩)
    exact ⟨.ref l, H, I, rfl, q⟩
  · obtain ⟨t, rfl⟩ := ry
    refine wpAny_binaryOp_repeat_ref (T := "tuple") (U := "int") (by decide) ⟨_, ho, rfl⟩ (fun s' => typeIs_int s' 0 t) noFill_tuple_mul F.fills_int_mul F.slot_int_rmul repeat_tuple F.slot_int_index.lookup
      (call_meets F.slot_int_rmul (typeIs_int s 0 t) F.entry_int_rmul (F.args_int_rmul_2 _ _) (int_rmul_tuple 0 t l #[a] n dd sl)
        ⟨ho, rfl, ⟨_, ho, rfl⟩, call_meets F.slot_tuple_mul ⟨_, ho, rfl⟩ F.entry_tuple_mul (F.args_tuple_mul_2 _ _) (tup_mul0 l a n dd sl t) ⟨ho, ?_⟩⟩)
    refine ⟨.ref s.heap.objs.size, _, I.laid (t' := s.toks) (o := .tup []) (fun b ob q => Heap.get?_push_of_some _ q) (Nat.le_refl _) ?_, rfl, q _ (I.hok.fresh (Nat.le_refl _))⟩
    exact ⟨Nat.zero_le _, [], .nil, IsTup.new _ _⟩
end
end Pr
namespace Pr
open PySem PySem.Spec PyProof.Rows L2
structure Shw (dep n : Nat) (d : PyData) : Prop where
  sh : d.showable = true
  nd : d.hasDict = false
  dp : d.depth ≤ dep
  ln : d.shown.length ≤ n
theorem Shw.mono {dep dep' n n' : Nat} {d : PyData} (h : Shw dep n d) (h1 : dep ≤ dep') (h2 : n ≤ n') : Shw dep' n' d := ⟨h.sh, h.nd, Nat.le_trans h.dp h1, Nat.le_trans h.ln h2⟩
theorem Shw.int {i : Int} {k : Nat} (h0 : 0 ≤ i) (hk : 0 < k) (hk2 : k ≤ 100) (h : i < 10 ^ k) : Shw 0 k (.int i) := by
  refine ⟨?_, by simp only [PyData.hasDict], by simp [PyData.depth], ?_⟩
  · simp only [PyData.showable, decide_eq_true_eq]
    by_cases hz : i.natAbs = 0
    · rw [hz]; decide
    · refine (Nat.log2_lt hz).mpr ?_
      have h1 : (i.natAbs : Int) < ((10 ^ k : Nat) : Int) := by
        rw [Int.natCast_pow]
        have : ((i.natAbs : Nat) : Int) = i := Int.natAbs_of_nonneg h0
        rw [this]; exact h
      have h2 : i.natAbs < 10 ^ k := by exact_mod_cast h1
      have h3 : (10 : Nat) ^ k ≤ 10 ^ 100 := Nat.pow_le_pow_right (by decide) hk2
      have h4 : (10 : Nat) ^ 100 < 2 ^ 1920 := by decide +kernel
      omega
  · simp only [PyData.shown]
    exact toString_length_le h0 hk h
theorem shownAll_map : ∀ ds : List PyData, PyData.shownAll ds = ds.map PyData.shown
  | [] => rfl
  | d :: r => by simp only [PyData.shownAll, List.map_cons, shownAll_map r]
theorem piled_le {n : Nat} : ∀ {ds : List PyData}, (∀ d ∈ ds, d.shown.length ≤ n) → piled (ds.map PyData.shown) ≤ ds.length * (n + 2)
  | [], _ => by simp [piled_nil]
  | d :: r, h => by
    have h1 := piled_le (ds := r) fun x hx => h x (List.mem_cons_of_mem _ hx)
    have h2 := h d List.mem_cons_self
    rw [List.map_cons, piled_cons, List.length_cons, Nat.succ_mul]
    omega
theorem showAll_of {dep n : Nat} : ∀ {ds : List PyData}, (∀ d ∈ ds, Shw dep n d) → PyData.showableAll ds = true ∧ PyData.hasDictAll ds = false ∧ PyData.depthAll ds ≤ dep
  | [], _ => ⟨by simp only [PyData.showableAll], by simp only [PyData.hasDictAll], by simp [PyData.depthAll]⟩
  | d :: r, h => by
    obtain ⟨h1, h2, h3⟩ := showAll_of (ds := r) fun x hx => h x (List.mem_cons_of_mem _ hx)
    have g := h d List.mem_cons_self
    refine ⟨by simp only [PyData.showableAll, g.sh, h1, Bool.and_self], by simp only [PyData.hasDictAll, g.nd, h2, Bool.or_self], ?_⟩
    simp only [PyData.depthAll]
    exact Nat.max_le.mpr ⟨g.dp, h3⟩
theorem tupleText_len (ts : List Str) : (tupleText ts).length ≤ piled ts + 3 := by
  unfold tupleText
  rw [strLen_append, strLen_append]
  have e1 : (("(" : Str)).length = 1 := by decide +kernel
  have e2 : ((if ts.length == 1 then ",)" else ")" : String) : Str).length ≤ 2 := by
    cases ts.length == 1 <;> decide +kernel
  by_cases h : ts = []
  · subst h
    have : (Str.join ", " ([] : List Str)).length = 0 := by decide +kernel
    omega
  · have := join_length_add ts h
    omega
theorem textFrom_le : ∀ (ts : List Str) (k : Nat) (acc : Str), (textFrom k acc ts).length ≤ acc.length + piled ts
  | [], k, acc => by simp [textFrom, piled_nil]
  | t :: r, k, acc => by
    have h := textFrom_le r (k + 1) (acc ++ (if k > 0 then ", " else "" : String) ++ t)
    rw [piled_cons]
    show (textFrom (k + 1) _ r).length ≤ _
    have e : ((if k > 0 then ", " else "" : String) : Str).length ≤ 2 := by split <;> decide +kernel
    rw [strLen_append, strLen_append] at h
    omega
theorem listText_len (ts : List Str) : (listText ts).length ≤ piled ts + 2 := by
  unfold listText
  rw [strLen_append]
  have h := textFrom_le ts 0 "["
  have e1 : (("[" : Str)).length = 1 := by decide +kernel
  have e2 : (("]" : Str)).length = 1 := by decide +kernel
  omega
theorem Shw.tuple {dep n m : Nat} {ds : List PyData} (h : ∀ d ∈ ds, Shw dep n d) (hm : ds.length ≤ m) : Shw (dep + 1) (m * (n + 2) + 3) (.tuple ds) := by
  obtain ⟨h1, h2, h3⟩ := showAll_of h
  refine ⟨by simp only [PyData.showable, h1], by simp only [PyData.hasDict, h2], by simp only [PyData.depth]; omega, ?_⟩
  simp only [PyData.shown]
  rw [shownAll_map]
  have a1 := tupleText_len (ds.map PyData.shown)
  have a2 := piled_le fun d hd => (h d hd).ln
  have a3 : ds.length * (n + 2) ≤ m * (n + 2) := Nat.mul_le_mul_right _ hm
  omega
theorem Shw.list {dep n m : Nat} {ds : List PyData} (h : ∀ d ∈ ds, Shw dep n d) (hm : ds.length ≤ m) : Shw (dep + 1) (m * (n + 2) + 3) (.list ds) := by
  obtain ⟨h1, h2, h3⟩ := showAll_of h
  refine ⟨by simp only [PyData.showable, h1], by simp only [PyData.hasDict, h2], by simp only [PyData.depth]; omega, ?_⟩
  simp only [PyData.shown]
  rw [shownAll_map]
  have a1 := listText_len (ds.map PyData.shown)
  have a2 := piled_le fun d hd => (h d hd).ln
  have a3 : ds.length * (n + 2) ≤ m * (n + 2) := Nat.mul_le_mul_right _ hm
  omega
/-- only what stands at a and c may have changed -/
def But (a c : Addr) (H H' : Hp) : Prop := ∀ b o, b ≠ a → b ≠ c → H b = some o → H' b = some o
theorem But.refl (a c : Addr) (H : Hp) : But a c H H := fun _ _ _ _ h => h
theorem But.trans {a c : Addr} {H H1 H2 : Hp} (x : But a c H H1) (y : But a c H1 H2) : But a c H H2 := fun b o h1 h2 h => y b o h1 h2 (x b o h1 h2 h)
theorem But.of {a c : Addr} {H H' : Hp} (x : Same H H') : But a c H H' := fun b o _ _ h => x b o h
theorem same_new {H : Hp} {p : Addr} {o : HO} (h : H p = none) : Same H (upd H p o) := fun b x e => by
  rw [upd_ne (ne_of_none e h)]; exact e
/-- the deck at a, its cells at c, m draws may still be made -/
def Deck (H : Hp) (a c : Addr) (m : Nat) : Prop :=
  ∃ (cells : List Int) (n : Nat), H a = some (.lst [.ref c, .int (n : Int)]) ∧ H c = some (.lst (cells.map V.int)) ∧ a ≠ c ∧ cells.length ≤ 63 ∧ n + m ≤ 1000000
theorem Deck.same {H H' : Hp} {a c : Addr} {m : Nat} (e : Same H H') (h : Deck H a c m) : Deck H' a c m :=
  let ⟨cs, n, h1, h2, h3⟩ := h; ⟨cs, n, e _ _ h1, e _ _ h2, h3⟩
theorem Deck.less {H : Hp} {a c : Addr} {m m' : Nat} (h : Deck H a c m) (z : m' ≤ m) : Deck H a c m' :=
  let ⟨cs, n, h1, h2, h3, h4, h5⟩ := h; ⟨cs, n, h1, h2, h3, h4, by omega⟩
theorem Deck.apart {H : Hp} {a c : Addr} {m : Nat} (h : Deck H a c m) {b : Addr} {o : HO} (e : H b = some o) (ho : ∀ xs, o ≠ .lst xs) : b ≠ a ∧ b ≠ c := by
  obtain ⟨cs, n, h1, h2, _⟩ := h
  exact ⟨ne_of e h1 (ho _), ne_of e h2 (ho _)⟩
theorem Deck.fresh {H : Hp} {a c : Addr} {m : Nat} (h : Deck H a c m) {b : Addr} (e : H b = none) : b ≠ a ∧ b ≠ c := by
  obtain ⟨cs, n, h1, h2, _⟩ := h
  exact ⟨Ne.symm (ne_of_none h1 e), Ne.symm (ne_of_none h2 e)⟩
theorem FT.but {H H' : Hp} {a c p : Addr} {m : Nat} {xs : List V} (d : Deck H a c m) (b : But a c H H') (h : FT H p xs) : FT H' p xs := by
  obtain ⟨o, e, z⟩ := h
  have q := d.apart e (fun _ => by intro z; cases z)
  exact ⟨o, b _ _ q.1 q.2 e, z⟩
/-- a panel at p -/
def PanAt (H : Hp) (p : Addr) (pan : List (List Int)) : Prop := ∃ qs : List Addr, FT H p (qs.map V.ref) ∧ Paired (fun q l => FT H q (l.map V.int)) qs pan
theorem PanAt.same {H H' : Hp} {p : Addr} {pan : List (List Int)} (e : Same H H') (h : PanAt H p pan) : PanAt H' p pan :=
  let ⟨qs, h1, h2⟩ := h; ⟨qs, h1.same e, h2.mono fun _ _ x => x.same e⟩
theorem PanAt.but {H H' : Hp} {a c p : Addr} {m : Nat} {pan : List (List Int)} (d : Deck H a c m) (b : But a c H H') (h : PanAt H p pan) : PanAt H' p pan :=
  let ⟨qs, h1, h2⟩ := h; ⟨qs, h1.but d b, h2.mono fun _ _ x => x.but d b⟩
theorem paired_get {α β : Type} {F : α → β → Prop} : ∀ {l1 : List α} {l2 : List β}, Paired F l1 l2 → ∀ (i : Nat) (y : β), l2[i]? = some y → ∃ x, l1[i]? = some x ∧ F x y
  | _, _, .nil, i, y, h => by simp at h
  | _, _, .cons r t, 0, y, h => by simp at h; subst h; exact ⟨_, rfl, r⟩
  | _, _, .cons r t, i + 1, y, h => by
    obtain ⟨x, h1, h2⟩ := paired_get t i y (by simpa using h)
    exact ⟨x, by simpa using h1, h2⟩
/-- what the document calls a panel of at most ten buttons -/
structure Good (pan : List (List Int)) : Prop where
  pos : 1 ≤ pan.length
  few : pan.length ≤ 10
  up : ∀ l ∈ pan, l.Pairwise (· < ·)
  rng : ∀ l ∈ pan, ∀ x ∈ l, 0 ≤ x ∧ x < (pan.length : Int)
  own : ∀ (i : Nat) (l : List Int), pan[i]? = some l → (i : Int) ∉ l
def dInts (l : List Int) : PyData := .tuple (l.map PyData.int)
def dPan (pan : List (List Int)) : PyData := .tuple (pan.map dInts)
section
variable {K : PySem.W.Frag} {H : Hp}
theorem dpAll_ints : ∀ l : List Int, DpAll K H (l.map V.int) (l.map PyData.int)
  | [] => .nil
  | x :: r => .cons (.int x) (dpAll_ints r)
theorem dp_ints {q : Addr} {l : List Int} (h : SqT K H q (l.map V.int)) : Dp K H (.ref q) (dInts l) := .tup h (dpAll_ints l)
theorem dpAll_pan : ∀ {qs : List Addr} {pan : List (List Int)}, Paired (fun q l => FT H q (l.map V.int)) qs pan → DpAll K H (qs.map V.ref) (pan.map dInts)
  | _, _, .nil => .nil
  | _, _, .cons r t => .cons (dp_ints r.sq) (dpAll_pan t)
theorem PanAt.dp {p : Addr} {pan : List (List Int)} (h : PanAt H p pan) : Dp K H (.ref p) (dPan pan) := by
  obtain ⟨qs, h1, h2⟩ := h
  exact .tup h1.sq (dpAll_pan h2)
end
theorem pw_length {n : Nat} : ∀ {l : List Int} {lo : Int}, l.Pairwise (· < ·) → (∀ x ∈ l, lo ≤ x ∧ x < lo + n) → l.length ≤ n := by
  induction n with
  | zero =>
    intro l lo _ h
    cases l with
    | nil => exact Nat.le_refl _
    | cons x r => have := h x List.mem_cons_self; omega
  | succ n ih =>
    intro l lo hp h
    cases l with
    | nil => exact Nat.zero_le _
    | cons x r =>
      have hx := h x List.mem_cons_self
      rw [List.pairwise_cons] at hp
      have := ih (l := r) (lo := lo + 1) hp.2 fun y hy => by
        have h1 := hp.1 y hy
        have h2 := h y (List.mem_cons_of_mem _ hy)
        omega
      rw [List.length_cons]; omega
theorem shw_ints {l : List Int} {m : Nat} (hl : l.length ≤ m) (h : ∀ x ∈ l, 0 ≤ x ∧ x < 10) : Shw 1 (m * 3 + 3) (dInts l) := by
  refine Shw.tuple (fun d hd => ?_) (by rw [List.length_map]; exact hl)
  obtain ⟨x, hx, rfl⟩ := List.mem_map.mp hd
  exact Shw.int (h x hx).1 (by decide) (by decide) (h x hx).2
theorem Good.shw {pan : List (List Int)} (g : Good pan) : Shw 2 353 (dPan pan) := by
  have := Shw.tuple (dep := 1) (n := 33) (m := 10) (ds := pan.map dInts) (fun d hd => ?_) (by rw [List.length_map]; exact g.few)
  · exact this
  · obtain ⟨l, hl, rfl⟩ := List.mem_map.mp hd
    have hf := g.few
    refine shw_ints (m := 10) (pw_length (n := 10) (lo := 0) (g.up l hl) fun x hx => ?_) fun x hx => ?_
    · have := g.rng l hl x hx; omega
    · have := g.rng l hl x hx; omega
end Pr
namespace Pr
open PySem PySem.Spec PyProof.Rows L2
def intL (n : Nat) : List Int := (List.range n).map fun i : Nat => (i : Int)
theorem mem_intL {n : Nat} {x : Int} : x ∈ intL n ↔ 0 ≤ x ∧ x < (n : Int) := by
  unfold intL
  rw [List.mem_map]
  constructor
  · rintro ⟨i, hi, rfl⟩
    have := List.mem_range.mp hi
    omega
  · rintro ⟨h0, h1⟩
    exact ⟨x.toNat, List.mem_range.mpr (by omega), Int.toNat_of_nonneg h0⟩
theorem intL_up (n : Nat) : (intL n).Pairwise (· < ·) := by
  unfold intL
  rw [List.pairwise_map]
  exact List.pairwise_lt_range.imp fun {a b} (h : a < b) => by omega
theorem intL_len (n : Nat) : (intL n).length = n := by unfold intL; rw [List.length_map, List.length_range]
theorem intL_succ (n : Nat) : intL (n + 1) = intL n ++ [(n : Int)] := by unfold intL; rw [List.range_succ, List.map_append]; rfl
/-- a state of n buttons -/
structure Asc (n : Nat) (st : List Int) : Prop where
  up : st.Pairwise (· < ·)
  rng : ∀ x ∈ st, 0 ≤ x ∧ x < (n : Int)
theorem Asc.nil (n : Nat) : Asc n [] := ⟨List.Pairwise.nil, fun _ h => by cases h⟩
theorem Asc.full (n : Nat) : Asc n (intL n) := ⟨intL_up n, fun _ h => mem_intL.mp h⟩
theorem Asc.filter (n : Nat) (f : Int → Bool) : Asc n ((intL n).filter f) := ⟨(intL_up n).filter f, fun _ h => mem_intL.mp (List.mem_filter.mp h).1⟩
theorem Asc.len {n : Nat} {st : List Int} (h : Asc n st) : st.length ≤ n := pw_length (lo := 0) h.up fun x hx => by have := h.rng x hx; omega
theorem asc_ext : ∀ {l1 l2 : List Int}, l1.Pairwise (· < ·) → l2.Pairwise (· < ·) → (∀ x, x ∈ l1 ↔ x ∈ l2) → l1 = l2
  | [], [], _, _, _ => rfl
  | [], y :: r, _, _, h => absurd ((h y).mpr List.mem_cons_self) (by simp)
  | x :: r, [], _, _, h => absurd ((h x).mp List.mem_cons_self) (by simp)
  | x :: r, y :: t, h1, h2, h => by
    rw [List.pairwise_cons] at h1 h2
    have exy : x = y := by
      rcases List.mem_cons.mp ((h x).mp List.mem_cons_self) with e | e
      · exact e
      · rcases List.mem_cons.mp ((h y).mpr List.mem_cons_self) with e' | e'
        · exact e'.symm
        · have a1 := h2.1 x e
          have a2 := h1.1 y e'
          omega
    subst exy
    have : r = t := asc_ext h1.2 h2.2 fun z => by
      constructor
      · intro hz
        rcases List.mem_cons.mp ((h z).mp (List.mem_cons_of_mem _ hz)) with e | e
        · have := h1.1 z hz; omega
        · exact e
      · intro hz
        rcases List.mem_cons.mp ((h z).mpr (List.mem_cons_of_mem _ hz)) with e | e
        · have := h2.1 z hz; omega
        · exact e
    rw [this]
theorem Asc.eq {n : Nat} {st : List Int} (h : Asc n st) : (intL n).filter (fun x => decide (x ∈ st)) = st :=
  asc_ext ((intL_up n).filter _) h.up fun x => by
    rw [List.mem_filter, decide_eq_true_eq, mem_intL]
    exact ⟨fun q => q.2, fun q => ⟨h.rng x q, q⟩⟩
def pressM (pan : List (List Int)) (st : List Int) (b : Int) : List Int := (intL pan.length).filter fun x => decide (x = b ∨ (x ∈ st ∧ x ∉ pan.getD b.toNat []))
def runM (pan : List (List Int)) (st : List Int) (row : List Int) : List Int := row.foldl (pressM pan) st
theorem pressM_asc (pan : List (List Int)) (st : List Int) (b : Int) : Asc pan.length (pressM pan st b) := Asc.filter _ _
theorem runM_asc {pan : List (List Int)} : ∀ {row st : List Int}, Asc pan.length st → Asc pan.length (runM pan st row)
  | [], _, h => h
  | b :: r, st, _ => runM_asc (row := r) (pressM_asc pan st b)
theorem mem_pressM {pan : List (List Int)} {st : List Int} {b x : Int} : x ∈ pressM pan st b ↔ (0 ≤ x ∧ x < (pan.length : Int)) ∧ (x = b ∨ (x ∈ st ∧ x ∉ pan.getD b.toNat [])) := by
  unfold pressM
  rw [List.mem_filter, decide_eq_true_eq, mem_intL]
theorem runM_take {pan : List (List Int)} {st row : List Int} {k : Nat} {b : Int} (h : row[k]? = some b) : runM pan st (row.take (k + 1)) = pressM pan (runM pan st (row.take k)) b := by
  unfold runM
  rw [List.take_add_one, h, List.foldl_append]; rfl
/-- what press_button makes: the kept ones and the button, sorted -/
theorem press_sorted {pan : List (List Int)} {st : List Int} {b : Int} {ns : List Int} (hs : Asc pan.length st) (h0 : 0 ≤ b) (h1 : b < (pan.length : Int))
    (hp : ns.Perm (st.filter (fun x => decide (x ≠ b ∧ x ∉ pan.getD b.toNat [])) ++ [b])) (hle : ns.Pairwise (· ≤ ·)) : ns = pressM pan st b := by
  have nd0 : (st.filter (fun x => decide (x ≠ b ∧ x ∉ pan.getD b.toNat [])) ++ [b]).Nodup := by
    refine List.nodup_append.mpr ⟨(hs.up.imp fun {x y} (q : x < y) => by omega : st.Nodup).filter _, by simp, fun x hx y hy e => ?_⟩
    rw [List.mem_singleton] at hy
    have := (List.mem_filter.mp hx).2
    rw [decide_eq_true_eq] at this
    exact this.1 (e.trans hy)
  have nd : ns.Nodup := hp.nodup_iff.mpr nd0
  have up : ns.Pairwise (· < ·) := (hle.and nd).imp fun {x y} (q : x ≤ y ∧ x ≠ y) => by omega
  refine asc_ext up (pressM_asc pan st b).up fun x => ?_
  rw [hp.mem_iff, mem_pressM, List.mem_append, List.mem_filter, decide_eq_true_eq, List.mem_singleton]
  constructor
  · rintro (⟨a1, a2⟩ | a)
    · exact ⟨hs.rng x a1, .inr ⟨a1, a2.2⟩⟩
    · subst a; exact ⟨⟨h0, h1⟩, .inl rfl⟩
  · rintro ⟨_, a | a⟩
    · exact .inr a
    · by_cases e : x = b
      · exact .inr e
      · exact .inl ⟨a.1, e, a.2⟩
end Pr
namespace Pr
open PySem PySem.Spec PyProof.Rows L2
abbrev wSame : Str := "same"
abbrev wOn : Str := "on"
abbrev wOff : Str := "off"
/-- a press of b behind, where c had the word w -/
def wordM (pan : List (List Int)) (c : Int) (w : Str) (b : Int) : Str := if b = c then wOn else if c ∈ pan.getD b.toNat [] then wOff else w
def wordsM (pan : List (List Int)) (row : List Int) (c : Int) : Str := row.foldl (wordM pan c) wSame
def effM (pan : List (List Int)) (row : List Int) : List Str := (List.range pan.length).map fun c : Nat => wordsM pan row (c : Int)
def onM (l : List Int) (b : Int) (c : Nat) : Str := if (c : Int) ∈ l then wOff else if (c : Int) = b then wOn else wSame
def pressW (pan : List (List Int)) (b : Int) : List Str := (List.range pan.length).map (onM (pan.getD b.toNat []) b)
def joinM (xs ys : List Str) : List Str := List.zipWith (fun e l => if l = wSame then e else l) xs ys
theorem effM_len (pan : List (List Int)) (row : List Int) : (effM pan row).length = pan.length := by unfold effM; rw [List.length_map, List.length_range]
theorem pressW_len (pan : List (List Int)) (b : Int) : (pressW pan b).length = pan.length := by unfold pressW; rw [List.length_map, List.length_range]
theorem joinM_len {xs ys : List Str} (h : xs.length = ys.length) : (joinM xs ys).length = ys.length := by unfold joinM; rw [List.length_zipWith, h, Nat.min_self]
theorem effM_nil (pan : List (List Int)) : effM pan [] = List.replicate pan.length wSame := by
  unfold effM
  show (List.range pan.length).map (fun _ => wSame) = _
  rw [List.map_const', List.length_range]
theorem same_ne_on : wSame ≠ wOn := by decide +kernel
theorem same_ne_off : wSame ≠ wOff := by decide +kernel
theorem on_ne_off : wOn ≠ wOff := by decide +kernel
theorem Good.own' {pan : List (List Int)} (g : Good pan) {b : Int} (h0 : 0 ≤ b) (h1 : b < (pan.length : Int)) : b ∉ pan.getD b.toNat [] := by
  have hb : b.toNat < pan.length := by omega
  have := g.own b.toNat pan[b.toNat] (List.getElem?_eq_getElem hb)
  rw [List.getD_eq_getElem?_getD, List.getElem?_eq_getElem hb]
  rw [Int.toNat_of_nonneg h0] at this
  exact this
theorem wordM_join {pan : List (List Int)} (g : Good pan) {b : Int} (h0 : 0 ≤ b) (h1 : b < (pan.length : Int)) (c : Nat) (w : Str) :
    (if onM (pan.getD b.toNat []) b c = wSame then w else onM (pan.getD b.toNat []) b c) = wordM pan (c : Int) w b := by
  unfold onM wordM
  by_cases e : (c : Int) ∈ pan.getD b.toNat []
  · have hne : b ≠ (c : Int) := fun z => g.own' h0 h1 (z ▸ e)
    rw [if_pos e, if_neg hne, if_pos e, if_neg (Ne.symm same_ne_off)]
  · rw [if_neg e, if_neg e]
    by_cases e2 : (c : Int) = b
    · rw [if_pos e2, if_pos e2.symm, if_neg (Ne.symm same_ne_on)]
    · rw [if_neg e2, if_pos rfl, if_neg (Ne.symm e2)]
theorem eff_step {pan : List (List Int)} (g : Good pan) {b : Int} (h0 : 0 ≤ b) (h1 : b < (pan.length : Int)) (row : List Int) : joinM (effM pan row) (pressW pan b) = effM pan (row ++ [b]) := by
  unfold joinM effM pressW
  rw [List.zipWith_map, List.zipWith_self]
  refine List.map_congr_left fun c _ => ?_
  rw [wordM_join g h0 h1]
  unfold wordsM
  rw [List.foldl_append]; rfl
theorem eff_take {pan : List (List Int)} (g : Good pan) {row : List Int} {k : Nat} {b : Int} (hk : row[k]? = some b) (h0 : 0 ≤ b) (h1 : b < (pan.length : Int)) : joinM (effM pan (row.take k)) (pressW pan b) = effM pan (row.take (k + 1)) := by
  rw [eff_step g h0 h1, List.take_add_one, hk]; rfl
theorem set_map_range {α : Type} (f : Nat → α) (n j : Nat) (v : α) : ((List.range n).map f).set j v = (List.range n).map fun c => if c = j then v else f c := by
  refine List.ext_getElem? fun i => ?_
  rw [List.getElem?_set, List.getElem?_map]
  by_cases h : i < n
  · rw [List.getElem?_map, List.getElem?_range h, List.length_map, List.length_range]
    by_cases e : j = i
    · subst e; rw [if_pos rfl, if_pos h]; simp
    · rw [if_neg e]; simp [Ne.symm e]
  · rw [List.getElem?_map, List.getElem?_eq_none (by rw [List.length_range]; omega), List.length_map, List.length_range]
    by_cases e : j = i
    · subst e; rw [if_pos rfl, if_neg h]; rfl
    · rw [if_neg e]; rfl
theorem replicate_map_range {α : Type} (n : Nat) (v : α) : List.replicate n v = (List.range n).map fun _ => v := by
  rw [List.map_const', List.length_range]
def dStrs (l : List Str) : PyData := .tuple (l.map PyData.str)
theorem rep_flat {α : Type} (n : Nat) (v : α) : (List.replicate n [v]).flatten = List.replicate n v := by
  induction n with
  | zero => rfl
  | succ n ih => rw [List.replicate_succ, List.flatten_cons, ih]; rfl
theorem walk_zipT {K : PySem.W.Frag} {a b : Addr} {xs ys : List V} {n : Nat} (hn : n = min xs.length ys.length) : Walk (RZ.ItzT K a b) n (fun H => SqT K H a xs ∧ SqT K H b ys) (YPair (fun i => xs[i]?) (fun i => ys[i]?)) := by
  subst hn
  refine ⟨fun i _ hi q => ?_, fun _ q => ⟨xs, ys, q.1, q.2, by omega⟩, fun i H v H' _ q y => ?_⟩
  · have h1 : i < xs.length := by omega
    have h2 : i < ys.length := by omega
    exact ⟨xs, ys, xs[i], ys[i], q.1, q.2, by simp [h1], by simp [h2]⟩
  · obtain ⟨T, x, z, h1, h2, h3, h4, h5⟩ := y
    exact ⟨T, x, z, h1, h2, h3, h4 xs q.1, h5 ys q.2⟩
theorem str_get {os : List Str} {k : Nat} {x : V} (h : (os.map V.str)[k]? = some x) : ∃ z, os[k]? = some z ∧ x = .str z := by
  rw [List.getElem?_map] at h
  cases e : os[k]? with
  | none => rw [e] at h; cases h
  | some z => rw [e] at h; exact ⟨z, rfl, (Option.some.inj h).symm⟩
theorem int_get {os : List Int} {k : Nat} {x : V} (h : (os.map V.int)[k]? = some x) : ∃ z, os[k]? = some z ∧ x = .int z := by
  rw [List.getElem?_map] at h
  cases e : os[k]? with
  | none => rw [e] at h; cases h
  | some z => rw [e] at h; exact ⟨z, rfl, (Option.some.inj h).symm⟩
theorem joinM_get {xs ys : List Str} {i : Nat} {x y : Str} (hx : xs[i]? = some x) (hy : ys[i]? = some y) : (joinM xs ys)[i]? = some (if y = wSame then x else y) := by
  unfold joinM
  rw [List.getElem?_zipWith, hx, hy]
theorem ixN_nat {n j : Nat} (h : j < n) : ixN n (j : Int) = some j := by
  unfold ixN
  rw [if_pos (by omega), if_pos (by omega)]; rfl
theorem gen_heap {X : Hp} {R : Hp → Prop} (C : Hp → Prop) (hX : C X) (h : ∀ H', C H' → R H') : R X := h X hX
theorem gen_name {i : Nat} {v : V} {σ : L2.St} {X : Hp} {D : L2.St → Hp → Prop} (C : Hp → Prop) (hX : C X) (h : ∀ H', C H' → gName i v σ H' D) : gName i v σ X D := h X hX
theorem tyes {σ : L2.St} {H : Hp} {Q : Bool → Hp → Prop} (h : Q true H) : tYes σ H Q := h
theorem flat_ints : ∀ l : List Int, (l.map V.int).all flatV = true
  | [] => rfl
  | x :: r => by rw [List.map_cons, List.all_cons, flat_ints r]; rfl
end Pr
namespace Pr
open PySem PySem.Spec PyProof.Rows L2
section
variable {P : Program} {w : World} {A : Around} {E : Value → Shared → Prop} {s : Shared}
/-- a set just made -/
def set0 (w : World) : Obj := { cls := .type "set", dict := none, data := .set #[] 0 (.fresh 0 0 (!w.params.followText "set-order")) }
/-- a type's call by the codes of its two steps -/
theorem type_by {T nw ini : String} {xs : List Value} {Q Q1 : Value → Shared → Prop} (tc : TypeCalled T nw ini) (ok : checkTypeCall T ⟨xs, []⟩ = pure ())
    (first : codeAny (model P w) A.in1 (.call (.builtin nw) ⟨.type T :: xs, []⟩) (wants Q1 E) s)
    (second : ∀ v t, Q1 v t → t.TypeIs v T ∧ codeAny (model P w) A.in1 (.call (.builtin ini) ⟨v :: xs, []⟩) (wants (fun u t' => u = .none ∧ Q v t') E) t) :
    wpAny (model P w) A (call (.type T) xs) Q E s := by
  have f1 := tc.made; have f2 := tc.sub; have f3 := tc.notType; have f4 := tc.canCreate
  obtain ⟨c0, cs, f5⟩ := tc.mro
  apply wpAny_call; apply codeAny_of_tree
  change wpAny _ _ (callAny (Value.type T) _) _ _ _
  apply wpAny_pure; refine ⟨Code.quiet_builtin _ (by decide +kernel), ?_⟩
  apply codeAny_builtin F.entry_type_call; rw [Around.under_plain (weight_type_call_type T xs []) rfl]
  repeat (any_goals (first | assumption | wp_step))
  apply codeAny_mono first; intro r t hr
  match r, hr with
  | .error e, hr => exact hr
  | .ok .next, hr => exact hr.elim
  | .ok .brk, hr => exact hr.elim
  | .ok .cont, hr => exact hr.elim
  | .ok (.ret v), hr =>
    obtain ⟨hT, hc⟩ := second v t hr
    have f6 := tc.init.lookup; have f7 := tc.init.bind v
    repeat (any_goals (first | assumption | wp_step))
    apply codeAny_mono hc; intro r2 t2 hr2
    match r2, hr2 with
    | .error e, hr2 => exact hr2
    | .ok .next, hr2 => exact hr2.elim
    | .ok .brk, hr2 => exact hr2.elim
    | .ok .cont, hr2 => exact hr2.elim
    | .ok (.ret u), hr2 =>
      obtain ⟨rfl, hq⟩ := hr2
      repeat (any_goals (first | assumption | wp_step))
theorem call_setL {l : Addr} {its : Array Value} (ns : List Int) {Q : Value → Shared → Prop} (hh : A.handled = none) (hl : s.heap.IsList l its) (hi : IntsAre its.toList ns) (hb : ns.length + 1 < scanBound)
    (h : ∀ (h' : Heap) (tk c : Nat), SetR w h' s.heap.objs.size (fun j => decide (j ∈ ns)) c → (∀ b o, s.heap.get? b = some o → h'.get? b = some o) → Q (.ref s.heap.objs.size) { s with heap := h', toks := tk }) :
    wpAny (model P w) A (call (.type "set") [.ref l]) Q E s := by
  have hn : its.size = ns.length := by simpa using hi.length
  refine type_by F.called_set (F.typeCall_set_1 (.ref l)) (Q1 := fun v t => v = .ref s.heap.objs.size ∧ t = { s with heap := s.heap.push (set0 w) }) (code_set_led1 (.ref l) ⟨rfl, rfl⟩) ?_
  rintro obj t ⟨rfl, rfl⟩
  have hS : (s.heap.push (set0 w)).get? s.heap.objs.size = some (set0 w) := Heap.get?_push_size _ rfl
  refine ⟨⟨_, hS, rfl⟩, codeAny_call_builtin F.called_set.init.plain F.entry_set_init (check_set_init_1 ⟨_, hS, rfl⟩ ?_)⟩
  obtain ⟨⟨oc, od, odt, osl⟩, hol, hc, n, hd⟩ := id hl
  simp only at hc hd
  subst hc hd
  have lS : l < s.heap.objs.size := Heap.lt_size hol
  have hL : (s.heap.push (set0 w)).get? l = some { cls := .type "list", dict := od, data := .seq its n, slots := osl } := Heap.get?_push_of_some _ hol
  have hLl : (s.heap.push (set0 w)).IsList l its := ⟨_, hL, rfl, n, rfl⟩
  have k1 := F.sub_list_set
  have k2 := F.sub_list_frozenset
  have k3 : (Value.type "list" == Value.type "dict") = false := by decide
  have hz : (s.heap.push (set0 w)).objs.size = s.heap.objs.size + 1 := Heap.size_push ..
  have hP : s.heap.push (set0 w) = s.heap.push { cls := .type "set", dict := none, data := .set #[] 0 (.fresh 0 0 (!w.params.followText "set-order")) } := rfl
  generalize hG : s.heap.push (set0 w) = G at hS hL hLl hz ⊢
  unfold Builtin.«set.__init__» noKeywords Builtin.Frozenset.updateFrom
  generalize hI : pyIter = PI
  wp_walk
  subst hI
  refine wpAny_pyIter_list hLl (wpAny_bind (wpAny_runValue ?_))
  have at0 : (G.push { cls := .type "list_iterator", data := .fields #[.ref l, .int 0 0] }).get? s.heap.objs.size = some (set0 w) := Heap.get?_push_of_some _ hS
  have out1 : l ≠ G.objs.size := by rw [hz]; exact Nat.ne_of_lt (Nat.lt_succ_of_lt lS)
  have out2 : s.heap.objs.size ∉ [G.objs.size, l] := by
    rw [hz]
    intro q
    rcases List.mem_cons.mp q with e | e
    · exact Nat.ne_of_lt (Nat.lt_succ_self _) e
    · exact Nat.ne_of_lt lS (List.mem_singleton.mp e).symm
  have vals : ∀ (i : Nat) (v : Value), its[i]? = some v → ∃ k t, ns[i]? = some k ∧ v = .int k t := by
    intro i v hv
    have li : i < ns.length := hn ▸ (Array.getElem?_eq_some_iff.mp hv).1
    obtain ⟨t, e⟩ := hi.int_at i v (by rw [Array.getElem?_toList]; exact hv)
    rw [List.getD_eq_getElem?_getD, List.getElem?_eq_getElem li] at e
    exact ⟨ns[i], t, List.getElem?_eq_getElem li, e⟩
  have hh' : A.in1.in1.in1.handled = none := by simp [hh]
  refine set_update_ints (Walks.list hh' G.objs.size l out1 its).toS s.heap.objs.size out2 ns hn hb vals its.size 0 _ (Nat.sub_zero _) (Nat.zero_le _) ⟨⟨_, Heap.get?_push_size _ rfl, rfl, rfl⟩, hLl.push _⟩ ⟨0, Nat.le_refl _, setR_new_at at0⟩ ?_
  intro t' c mv _ R
  obtain ⟨h2, g2, d2, tk2, os2⟩ := t'
  obtain rfl : g2 = s.gens := mv.gens
  obtain rfl : d2 = s.drawn := mv.drawn
  obtain rfl : os2 = s.os := mv.os
  refine wpAny_pure (wpAny_pure ⟨rfl, h h2 tk2 c R fun b o e => ?_⟩)
  have lb : b < s.heap.objs.size := Heap.lt_size e
  refine mv.heap b o (fun q => ?_) (Heap.get?_push_of_some _ (by rw [← hG]; exact Heap.get?_push_of_some _ e))
  rcases List.mem_cons.mp q with e | e
  · exact Nat.ne_of_lt lb e
  · exact Nat.ne_of_lt (Nat.lt_succ_of_lt lb) ((List.mem_singleton.mp e).trans hz)
end
theorem nodup_few : ∀ (m : Nat) (l : List Int), l.Nodup → (∀ x ∈ l, 0 ≤ x ∧ x < (m : Int)) → l.length ≤ m
  | 0, l, _, h => by
    cases l with
    | nil => exact Nat.le_refl _
    | cons x r => have := h x List.mem_cons_self; omega
  | m + 1, l, hn, h => by
    have ih := nodup_few m (l.erase (m : Int)) (hn.erase _) fun x hx => by
      have h1 := (hn.mem_erase_iff.mp hx)
      have h2 := h x h1.2
      have h3 := h1.1
      omega
    have hl := List.length_erase (a := (m : Int)) (l := l)
    split at hl <;> omega
section
variable {X : Cx}
/-- set(list of ints) -/
def rSetL' (K : PySem.W.Frag) (w : World) : List V → Hp → VK → Prop := fun vs H Q => ∃ (a : Addr) (ns : List Int), vs = [V.ref a] ∧ SqL K H a (ns.map V.int) ∧ ns.length ≤ 1000 ∧
  ∀ (l : Addr) (n : Nat) (ks : List Int), H l = none → ks.Nodup → (∀ k, k ∈ ks ↔ k ∈ ns) → ks.length = n → Q (.ref l) (upd H l (SetO w l (fun j => decide (j ∈ ns)) n))
theorem cr_setL (hc : X.calm = true) : CallR X (.type "set") (rSetL' X.K X.w) := by
  intro pins s σ H vs us Q I r h
  obtain ⟨a, ns, rfl, hs, hn, q⟩ := h
  obtain ⟨its, rv, pl, hz⟩ := I.list hs
  rw [Vals.ref1 r]
  have hi := rv.ints
  refine call_setL ns (I.ok.hd hc) pl.isList (by simpa using hi) (Nat.lt_of_le_of_lt (Nat.add_le_add_right hn 1) (by decide)) fun h' tk n R kp => ?_
  obtain ⟨o, es, ep, t, h1, h2, h3, h4, h5, h6, h7, h8, h9, h10⟩ := id R
  refine ⟨.ref s.heap.objs.size, _, I.laid (t' := tk) kp (Nat.le_refl _) (setO_new R), rfl, q _ n (es.toList.map keyOf) (I.hok.fresh (Nat.le_refl _)) h5 (fun k => ?_) (by rw [List.length_map, Array.length_toList]; exact h9)⟩
  rw [← h6 k, decide_eq_true_eq]
/-- sorted(set(list of ints)), the ints from 0 to 62 -/
def rSortSet (K : PySem.W.Frag) : List V → Hp → VK → Prop := fun vs H Q => ∃ (a : Addr) (ns : List Int) (m : Nat), vs = [V.ref a] ∧ SqL K H a (ns.map V.int) ∧ ns.length ≤ 1000 ∧ m < 64 ∧ (∀ x ∈ ns, 0 ≤ x ∧ x < (m : Int)) ∧
  ∀ (ms : List Int) (p : Addr) (H' : Hp), Same H H' → H' p = some (.lst (ms.map V.int)) → ms.Pairwise (· < ·) → (∀ k, k ∈ ms ↔ k ∈ ns) → H p = none → Q (.ref p) H'
/-- what set asks, where sorted stands around it -/
theorem sortSet_of {w : World} {K : PySem.W.Frag} {vs : List V} {H : Hp} {Q : VK} (h : rSortSet K vs H Q) : rSetL' K w vs H (fun x H1 => rSortedSet w [x] H1 Q) := by
  obtain ⟨a, ns, m, rfl, hs, hn, hm, hr, q⟩ := h
  refine ⟨a, ns, rfl, hs, hn, fun l n ks nl nd mem len => ⟨l, _, n, rfl, upd_same, ?_, fun ms p up mm _ np => ?_⟩⟩
  · rw [← len]
    exact Nat.lt_of_le_of_lt (nodup_few m ks nd fun x hx => hr x ((mem x).mp hx)) hm
  · have sl : Same H (upd H l (SetO w l (fun j => decide (j ∈ ns)) n)) := same_new nl
    exact q ms p _ (sl.trans (same_new np)) upd_same up (fun k => by rw [mm k, decide_eq_true_eq]) (sl.free np)
end
end Pr
namespace Pr
open PySem PySem.Spec PyProof.Rows L2
def PanT (K : PySem.W.Frag) (H : Hp) (p : Addr) (pan : List (List Int)) : Prop := ∃ qs : List Addr, SqT K H p (qs.map V.ref) ∧ Paired (fun q l => SqT K H q (l.map V.int)) qs pan
section
variable {K : PySem.W.Frag} {H H' : Hp} {p : Addr} {pan : List (List Int)}
theorem PanT.same (e : Same H H') (h : PanT K H p pan) : PanT K H' p pan :=
  let ⟨qs, h1, h2⟩ := h; ⟨qs, same_sqT e h1, h2.mono fun _ _ x => same_sqT e x⟩
theorem PanAt.t (h : PanAt H p pan) : PanT K H p pan :=
  let ⟨qs, h1, h2⟩ := h; ⟨qs, h1.sq, h2.mono fun _ _ x => x.sq⟩
theorem panT_at (h : PanT K H p pan) {b : Int} (h0 : 0 ≤ b) (h1 : b < (pan.length : Int)) :
    ∃ (qs : List Addr) (q : Addr), SqT K H p (qs.map V.ref) ∧ atI (qs.map V.ref) b = some (.ref q) ∧ SqT K H q ((pan.getD b.toNat []).map V.int) ∧ qs.length = pan.length := by
  obtain ⟨qs, hq, hqs⟩ := h
  obtain ⟨n, rfl⟩ : ∃ n : Nat, b = (n : Int) := ⟨b.toNat, (Int.toNat_of_nonneg h0).symm⟩
  have hn : n < pan.length := by omega
  obtain ⟨q', g1, g2⟩ := paired_get hqs n pan[n] (List.getElem?_eq_getElem hn)
  refine ⟨qs, q', hq, atI_nat (by rw [List.getElem?_map, g1]; rfl), ?_, hqs.length⟩
  rw [Int.toNat_natCast, List.getD_eq_getElem?_getD, List.getElem?_eq_getElem hn]
  exact g2
theorem PanT.len (h : PanT K H p pan) : ∃ xs : List V, SqT K H p xs ∧ xs.length = pan.length :=
  let ⟨qs, h1, h2⟩ := h; ⟨_, h1, by rw [List.length_map, h2.length]⟩
theorem dpAll_panT : ∀ {qs : List Addr} {pan : List (List Int)}, Paired (fun q l => SqT K H q (l.map V.int)) qs pan → DpAll K H (qs.map V.ref) (pan.map dInts)
  | _, _, .nil => .nil
  | _, _, .cons r t => .cons (dp_ints r) (dpAll_panT t)
theorem PanT.dp (h : PanT K H p pan) : Dp K H (.ref p) (dPan pan) := let ⟨_, h1, h2⟩ := h; .tup h1 (dpAll_panT h2)
end
theorem Good.rng' {pan : List (List Int)} (g : Good pan) {b x : Int} (hx : x ∈ pan.getD b.toNat []) : 0 ≤ x ∧ x < (pan.length : Int) := by
  by_cases h : b.toNat < pan.length
  · rw [List.getD_eq_getElem?_getD, List.getElem?_eq_getElem h] at hx
    exact g.rng _ (List.getElem_mem h) x hx
  · rw [List.getD_eq_getElem?_getD, List.getElem?_eq_none (by omega)] at hx
    cases hx
def metB (pan : List (List Int)) (row : List Int) (c : Int) : Prop := c ∈ row ∨ ∃ b ∈ row, c ∈ pan.getD b.toNat []
theorem words_same {pan : List (List Int)} {c : Int} : ∀ (row : List Int) (w : Str), row.foldl (wordM pan c) w = wSame ↔ w = wSame ∧ ¬ metB pan row c
  | [], w => by
    refine ⟨fun h => ⟨h, fun z => z.elim (fun q => by cases q) fun ⟨_, q, _⟩ => by cases q⟩, fun h => h.1⟩
  | b :: r, w => by
    rw [List.foldl_cons, words_same r]
    unfold wordM metB
    by_cases h1 : b = c
    · rw [if_pos h1]
      refine ⟨fun h => absurd h.1.symm same_ne_on, fun h => absurd ?_ h.2⟩
      exact .inl (by rw [h1]; exact List.mem_cons_self)
    · rw [if_neg h1]
      by_cases h2 : c ∈ pan.getD b.toNat []
      · rw [if_pos h2]
        refine ⟨fun h => absurd h.1.symm same_ne_off, fun h => absurd ?_ h.2⟩
        exact .inr ⟨b, List.mem_cons_self, h2⟩
      · rw [if_neg h2]
        refine and_congr_right fun _ => not_congr ⟨fun h => ?_, fun h => ?_⟩
        · rcases h with h | ⟨d, h3, h4⟩
          · exact .inl (List.mem_cons_of_mem _ h)
          · exact .inr ⟨d, List.mem_cons_of_mem _ h3, h4⟩
        · rcases h with h | ⟨d, h3, h4⟩
          · exact .inl ((List.mem_cons.mp h).resolve_left (Ne.symm h1))
          · rcases List.mem_cons.mp h3 with e | e
            · subst e; exact absurd h4 h2
            · exact .inr ⟨d, e, h4⟩
theorem same_mem_eff {pan : List (List Int)} {row : List Int} : wSame ∈ effM pan row ↔ ∃ c : Nat, c < pan.length ∧ ¬ metB pan row (c : Int) := by
  unfold effM
  rw [List.mem_map]
  constructor
  · rintro ⟨c, hc, e⟩
    exact ⟨c, List.mem_range.mp hc, ((words_same row wSame).mp e).2⟩
  · rintro ⟨c, hc, h⟩
    exact ⟨c, List.mem_range.mpr hc, (words_same row wSame).mpr ⟨rfl, h⟩⟩
theorem asc_full {n : Nat} {ms : List Int} (h : Asc n ms) : ms.length = n ↔ ∀ c : Nat, c < n → (c : Int) ∈ ms := by
  have e := h.eq
  constructor
  · intro hl c hc
    have h1 : ((intL n).filter (fun x => decide (x ∈ ms))).length = (intL n).length := by rw [e, hl, intL_len]
    have := List.length_filter_eq_length_iff.mp h1 (c : Int) (mem_intL.mpr ⟨by omega, by omega⟩)
    exact of_decide_eq_true this
  · intro hc
    rw [← e, List.length_filter_eq_length_iff.mpr, intL_len]
    intro x hx
    have := mem_intL.mp hx
    have h2 := hc x.toNat (by omega)
    rw [Int.toNat_of_nonneg this.1] at h2
    exact decide_eq_true h2
theorem inV_strs {b : Str} (l : List Str) : inV (.str b) (l.map V.str) = decide (b ∈ l) := by
  unfold inV
  rw [List.any_map, Bool.eq_iff_iff, List.any_eq_true, decide_eq_true_eq]
  constructor
  · rintro ⟨x, hx, e⟩
    have e' : x = b := by simpa [eqV] using e
    rw [← e']; exact hx
  · intro h
    exact ⟨b, h, by simp [eqV]⟩
end Pr
namespace K33
open PySem PySem.Spec PyProof.Rows L2 Pr
def topS (i : Nat) : Stmt := PySem.Challenge.pw_pressrelease_k33_shortest_resets.main.body.getD i (.Pass ⟨0, 0, 0, 0⟩)
abbrev sNo : Stmt := topS 1
abbrev sPressE : Stmt := topS 2
abbrev sJoin : Stmt := topS 3
abbrev sWith : Stmt := topS 4
abbrev sEff : Stmt := topS 5
abbrev sBetw : Stmt := topS 7
abbrev sReset : Stmt := topS 9
abbrev sSReset : Stmt := topS 10
abbrev sDeck : Stmt := topS 12
abbrev sDraw : Stmt := topS 13
abbrev sPanel : Stmt := topS 14
abbrev sAfter : Stmt := topS 15
abbrev sStates : Stmt := topS 16
abbrev sMet : Stmt := topS 17
abbrev sChoi : Stmt := topS 18
abbrev sLeast : Stmt := topS 19
abbrev sLaw : Stmt := topS 20
theorem scDeck : FnScope ["_law_script", "_law_cell"] ["_law_script"] (defScope sDeck) := ⟨rfl, rfl, rfl, by decide +kernel, rfl, by decide +kernel, by decide +kernel⟩
theorem scDraw : FnScope ["_law_deck_here", "_law_bound", "_law_at", "_law_cell", "_law_mixed"] ["_law_deck_here", "_law_bound"] (defScope sDraw) := ⟨rfl, rfl, rfl, by decide +kernel, rfl, by decide +kernel, by decide +kernel⟩
theorem cut_ints (ns : List Int) (lo hi : Option Int) : ∃ ms : List Int, cutV (ns.map V.int) lo hi = ms.map V.int ∧ ms.length ≤ ns.length := by
  refine ⟨(ns.drop (HT.sIx ns.length 0 lo)).take (HT.sIx ns.length ns.length hi - HT.sIx ns.length 0 lo), ?_, ?_⟩
  · unfold cutV
    rw [List.length_map, List.map_take, List.map_drop]
  · rw [List.length_take, List.length_drop]; omega
section
variable {P : Program} {w : World} {K : PySem.W.Frag} {mg : Str → Option Value} {base : Heap}
def spDeck (K : PySem.W.Frag) : Sp := fun vs H Q _ => ∃ (s : Addr) (ns : List Int), vs = [.ref s] ∧ SqL K H s (ns.map V.int) ∧ ns.length ≤ 63 ∧
  ∀ H' a c, Same H H' → Deck H' a c 1000000 → Q (.ref a) H'
theorem ok_deck {f : Addr} {fd : FuncData} {k : Nat} (F : Fun K "_law_deck" "_law_deck" sDeck f fd) (ma : mg "abs" = none) : FnOk P w K mg base CX0 (k + 1) f fd ["_law_script"] (spDeck K) := by
  refine F.ok scDeck (fun vs H Q E h => ?_) (fun cdv A outer s H vs Q E hr h => ?_)
  · obtain ⟨s, ns, rfl, _⟩ := h
    rfl
  · obtain ⟨sa, ns, rfl, hS, hlen, q⟩ := h
    refine ⟨_, pss_one (ps_ret (pe_lst (pa_cons
      (pe_lc (own := [("_law_cell", 1)]) (g := gName 1) (tt := tYes) rfl scDeck.nd (pi_list (pe_slice sl_list (pv 0) po_none (po_some pe_int)))
        (blkOk_by (own := [("_law_cell", 1)]) (N := ["_law_script", "_law_cell"]) (sc := defScope sDeck) (by decide +kernel))
        (fun _ _ _ _ _ => pg_name (i := 1) scDeck.nd rfl (Or.inl rfl)) (fun _ _ _ _ _ => pts_nil)
        (fun _ _ _ _ _ => pe_callB call_abs (by rfl) ma (by decide +kernel) (pa_cons (pv 1) pa_nil)))
      (pa_cons pe_int pa_nil)))), ?_⟩
    refine ⟨.ref sa, rfl, 60, rfl, sa, ns.map V.int, rfl, hS, fun l nl => ?_⟩
    obtain ⟨ms, em, lm⟩ := cut_ints ns none (some 60)
    rw [em]
    have s1 : Same H (upd H l (.lst (ms.map V.int))) := same_new nl
    refine ⟨l, rfl, ⟨_, .inl (.inl upd_same)⟩, fun D nD => ?_⟩
    refine lc_list (xs := ms.map V.int) (fun i H3 => Same (upd H l (.lst (ms.map V.int))) H3 ∧ ∃ cells : List Int, cells.length = i ∧ H3 D = some (.lst (cells.map V.int)))
      ⟨same_new nD, [], rfl, upd_same⟩ (fun i H3 _ hP => hP.1.seq (.inl (.inl upd_same))) (fun i x H3 hx hP => ?_) (fun H3 hP => ?_)
    · obtain ⟨sm, cells, hc, eD⟩ := hP
      obtain ⟨z, hz, rfl⟩ := int_get hx
      have hi : i < ms.length := (List.getElem?_eq_some_iff.mp hz).1
      refine ⟨rfl, tyes (iteT ⟨_, rfl, _, rfl, cells.map V.int, eD, ?_, ?_, cells ++ [if z < 0 then -z else z], ?_, ?_⟩)⟩
      · rw [List.length_map]; exact small1000 (by omega)
      · intro b o e
        rw [upd_ne (ne_of_none e nD)]
        exact sm _ _ e
      · rw [List.length_append, hc]; rfl
      · rw [upd_same, List.map_append]; rfl
    · obtain ⟨sm, cells, hc, eD⟩ := hP
      rw [List.length_map] at hc
      refine ⟨by show 2 ≤ sizeLine; decide, fun p np => ?_⟩
      have nDp : D ≠ p := ne_of_none eD np
      refine q _ p D ((s1.trans sm).trans (same_new np)) ⟨cells, 0, upd_same, ?_, Ne.symm nDp, by omega, by omega⟩
      rw [upd_ne nDp]; exact eD
def spDraw : Sp := fun vs H Q _ => ∃ (a c : Addr) (m : Nat) (lim : Int), vs = [.ref a, .int lim] ∧ Deck H a c (m + 1) ∧ 0 < lim ∧ lim < 1000000 ∧
  ∀ H' r, But a c H H' → Deck H' a c m → 0 ≤ r → r < lim → Q (.int r) H'
theorem ok_draw {f : Addr} {fd : FuncData} {k : Nat} (F : Fun K "_law_draw" "_law_draw" sDraw f fd) (ml : mg "len" = none) (mx : mg "max" = none) : FnOk P w K mg base CX0 (k + 1) f fd ["_law_deck_here", "_law_bound"] spDraw := by
  refine F.ok scDraw (fun vs H Q E h => ?_) (fun cdv A outer s H vs Q E hr h => ?_)
  · obtain ⟨a, c, m, lim, rfl, _⟩ := h
    rfl
  · obtain ⟨a, c, m, lim, rfl, hD, l0, l1, q⟩ := h
    refine ⟨_, pss_cons (ps_asg (pe_op op_add (pe_ix ix_list (pv 0) pe_int (fun _ _ => rfl)) pe_int) (pg_sub (pv 0) pe_int set_list))
      (pss_cons (ps_set (i := 2) scDraw.nd rfl (.inl rfl) (pe_op op_mod (pe_ix ix_list (pv 0) pe_int (fun _ _ => rfl)) (pe_callB (call_max2 rfl) (by rfl) mx (by decide +kernel) (pa_cons pe_int (pa_cons (pe_callB call_len_seq (by rfl) ml PySem.boot_len (pa_cons (pe_ix ix_list (pv 0) pe_int (fun _ _ => rfl)) pa_nil)) pa_nil)))))
      (pss_cons (ps_set (i := 3) scDraw.nd rfl (.inl rfl) (pe_ix ix_list (pe_op op_cat (pe_ix ix_list (pv 0) pe_int (fun _ _ => rfl)) (pe_lst (pa_cons pe_int pa_nil))) (pv 2) (fun _ _ => rfl)))
      (pss_cons (ps_if (pt_cmpR op_ge (pv 3) (pe_op op_pow pe_int pe_int) (nomark _))
        (pss_cons (ps_asg (pe_op op_fdiv (pv 3) (pv 1)) (pg_sub (pe_ix ix_list (pv 0) pe_int (fun _ _ => rfl)) (pv 2) set_list))
          (pss_one (ps_ret (pe_op op_mod (pv 3) (pv 1)))))
        pss_nil)
      (pss_cons (ps_set (i := 4) scDraw.nd rfl (.inl rfl) (pe_op op_mod (pe_op op_pow (pe_op op_add (pe_op op_add (pe_op op_mod (pv 3) pe_int) (pe_op op_mul pe_int (pe_ix ix_list (pv 0) pe_int (fun _ _ => rfl)))) pe_int) pe_int) pe_int))
      (pss_one (ps_ret (pe_op op_mod (pe_op op_add (pe_op op_fdiv (pv 4) pe_int) (pe_op op_mul pe_int (pe_ix ix_list (pv 0) pe_int (fun _ _ => rfl)))) (pv 1)))))))), ?_⟩
    obtain ⟨cells, n, ha, hc, nac, hlen, hn⟩ := hD
    refine ⟨.ref a, rfl, a, _, 1, .int n, rfl, rfl, .inl (.inl ha), atI_nat (j := 1) rfl, n, 1, rfl, rfl, .ref a, rfl, a, _, 1, 1, rfl, rfl, ha, rfl, ?_⟩
    refine gen_heap (fun H1 => H1 a = some (.lst [.ref c, .int ((n : Int) + 1)]) ∧ H1 c = some (.lst (cells.map V.int)) ∧ But a c H H1) ⟨upd_same, by rw [upd_ne (Ne.symm nac)]; exact hc, fun b o h1 _ e => by rw [upd_ne h1]; exact e⟩ fun H1 ⟨ha1, hc1, b1⟩ => ?_
    have has : SqL K H1 a [.ref c, .int ((n : Int) + 1)] := .inl (.inl ha1)
    have hcs : SqL K H1 c (cells.map V.int) := .inl (.inl hc1)
    have hcl : ((cells.map V.int).length : Int) = (cells.length : Int) := by rw [List.length_map]
    obtain ⟨mm, hmm, mm1, mm2⟩ : ∃ mm : Nat, (if ((cells.map V.int).length : Int) > 1 then ((cells.map V.int).length : Int) else 1) = (mm : Int) ∧ 1 ≤ mm ∧ mm ≤ cells.length + 1 := by
      rw [hcl]
      by_cases e : (cells.length : Int) > 1
      · rw [if_pos e]; exact ⟨cells.length, rfl, by omega, by omega⟩
      · rw [if_neg e]; exact ⟨1, rfl, by omega, by omega⟩
    have hmc : mm = cells.length ∨ (cells.length = 0 ∧ mm = 1) := by
      rw [hcl] at hmm
      split at hmm <;> omega
    have l2 := Int.emod_nonneg ((n : Int) + 1) (show ((mm : Int)) ≠ 0 by omega)
    have l3 := Int.emod_lt_of_pos ((n : Int) + 1) (show (0 : Int) < (mm : Int) by omega)
    obtain ⟨j, hj⟩ : ∃ j : Nat, ((n : Int) + 1) % (mm : Int) = (j : Int) := ⟨_, (Int.toNat_of_nonneg l2).symm⟩
    refine ⟨.ref a, rfl, a, _, 1, .int ((n : Int) + 1), rfl, rfl, has, rfl, .ref a, rfl, a, _, 0, .ref c, rfl, rfl, has, rfl, c, _, rfl, .inl hcs, 1, _, rfl, (n : Int) + 1, (mm : Int), rfl, congrArg V.int hmm, (by omega), ?_⟩
    dsimp only
    rw [hj]
    obtain ⟨z, hz⟩ : ∃ z : Int, (cells ++ [0])[j]? = some z := ⟨_, List.getElem?_eq_getElem (by rw [List.length_append]; show j < cells.length + 1; omega)⟩
    have gz : (cells.map V.int ++ [V.int 0])[j]? = some (.int z) := by
      rw [show cells.map V.int ++ [V.int 0] = (cells ++ [0]).map V.int by rw [List.map_append]; rfl, List.getElem?_map, hz]; rfl
    have zin : (10 : Int) ^ 18 ≤ z → j < cells.length := fun hge => by
      rcases Nat.lt_or_ge j cells.length with q' | q'
      · exact q'
      · rw [List.getElem?_append_right q'] at hz
        have : z = 0 := by
          have hm := List.mem_of_getElem? hz
          exact List.mem_singleton.mp hm
        rw [this] at hge
        exact absurd hge (by decide)
    refine ⟨.ref a, rfl, a, _, 0, .ref c, rfl, rfl, has, rfl, by show 1 ≤ sizeLine; decide, fun L nL => ?_⟩
    have sL : Same H1 (upd H1 L (.lst [.int 0])) := same_new nL
    refine ⟨c, L, _, _, rfl, rfl, sL _ _ hc1, upd_same, by rw [List.length_map]; exact Nat.le_of_lt (small1000 (show cells.length + 1 ≤ 1000 by omega)), fun M nM => ?_⟩
    have sM := sL.trans (same_new (o := .lst (cells.map V.int ++ [.int 0])) nM)
    refine ⟨.int (j : Int), rfl, M, _, _, .int z, rfl, rfl, .inl (.inl upd_same), atI_nat gz, ?_⟩
    refine gen_name (fun H2 => H2 a = some (.lst [.ref c, .int ((n : Int) + 1)]) ∧ H2 c = some (.lst (cells.map V.int)) ∧ But a c H H2) ⟨sM _ _ ha1, sM _ _ hc1, b1.trans (But.of sM)⟩ fun H2 ⟨ha2, hc2, b2⟩ => ?_
    have has2 : SqL K H2 a [.ref c, .int ((n : Int) + 1)] := .inl (.inl ha2)
    refine ⟨.int z, rfl, 10, 18, rfl, rfl, ⟨by decide, by decide, by decide⟩, z, _, rfl, rfl, _, rfl, ite2 (fun e => ?_) (fun e => ?_)⟩
    · have ez : (10 : Int) ^ 18 ≤ z := of_decide_eq_true e
      refine ⟨.int z, rfl, .int lim, rfl, z, lim, rfl, rfl, ⟨l0, by omega⟩, .ref a, rfl, a, _, 0, .ref c, rfl, rfl, has2, rfl, .int (j : Int), rfl, c, _, _, j, rfl, rfl, hc2, ixN_nat (by rw [List.length_map]; exact zin ez),
        .int z, rfl, .int lim, rfl, z, lim, rfl, rfl, l0, ?_⟩
      refine q _ _ (b2.trans fun b o _ h2 e => by rw [upd_ne h2]; exact e) ⟨cells.set j (z / lim), n + 1, ?_, ?_, nac, by rw [List.length_set]; exact hlen, by omega⟩ (Int.emod_nonneg _ (by omega)) (Int.emod_lt_of_pos _ l0)
      · rw [upd_ne nac, ha2]; rfl
      · rw [upd_same, List.map_set]
    · have m1 : 0 ≤ z % 2147483563 := Int.emod_nonneg _ (by decide)
      have m2 : z % 2147483563 < 2147483563 := Int.emod_lt_of_pos _ (by decide)
      refine ⟨.int z, rfl, z, 2147483563, rfl, rfl, (by show (0 : Int) < 2147483563; decide), .ref a, rfl, a, _, 1, .int ((n : Int) + 1), rfl, rfl, has2, rfl, 104729, (n : Int) + 1, rfl, rfl, .inl ⟨by decide, by decide⟩, _, _, rfl, rfl, _, 7, rfl, rfl, _, 4, rfl, rfl, ⟨by decide, by decide, ?_⟩,
        _, 2147483629, rfl, rfl, (by show (0 : Int) < 2147483629; decide), ?_⟩
      · omega
      · dsimp only
        generalize (z % 2147483563 + 104729 * ((n : Int) + 1) + 7) ^ (4 : Int).toNat % 2147483629 = my
        refine ⟨.int my, rfl, my, 8, rfl, rfl, ⟨by decide, by decide⟩, .ref a, rfl, a, _, 1, .int ((n : Int) + 1), rfl, rfl, has2, rfl, 31, (n : Int) + 1, rfl, rfl, .inl ⟨by decide, by decide⟩, _, _, rfl, rfl, .int lim, rfl, _, lim, rfl, rfl, l0, ?_⟩
        exact q _ _ b2 ⟨cells, n + 1, by rw [ha2]; rfl, hc2, nac, hlen, by omega⟩ (Int.emod_nonneg _ (by omega)) (Int.emod_lt_of_pos _ l0)
end
end K33
namespace K33
open PySem PySem.Spec PyProof.Rows L2 Pr
def nPanel : List Str := ["_law_deck_here", "_law_most", "_law_n", "_law_way", "_law_found", "_law_button", "_law_own", "_law_other"]
theorem scPanel : FnScope nPanel ["_law_deck_here", "_law_most"] (defScope sPanel) := ⟨rfl, rfl, rfl, by decide +kernel, rfl, by decide +kernel, by decide +kernel⟩
theorem pick5 {y : Int} (h0 : 0 ≤ y) (h1 : y < 5) : ∃ v : Int, atI [V.int 2, .int 5, .int 9, .int 7, .int 1] y = some (.int v) ∧ 0 < v ∧ v < 1000000 := by
  obtain rfl | rfl | rfl | rfl | rfl : y = 0 ∨ y = 1 ∨ y = 2 ∨ y = 3 ∨ y = 4 := by omega
  · exact ⟨2, rfl, by decide, by decide⟩
  · exact ⟨5, rfl, by decide, by decide⟩
  · exact ⟨9, rfl, by decide, by decide⟩
  · exact ⟨7, rfl, by decide, by decide⟩
  · exact ⟨1, rfl, by decide, by decide⟩
def rInt1 : List V → Hp → VK → Prop := fun xs H Q => (∃ i, xs = [V.int i] ∧ Q (V.int i) H) ∨ ∃ k, xs = [V.bl k] ∧ Q (V.int (if k = true then 1 else 0)) H
def upto (nn i : Nat) (l : List Int) : Prop := ∀ x ∈ l, 0 ≤ x ∧ x < (nn : Int) ∧ x ≠ (i : Int)
section
variable {P : Program} {w : World} {K : PySem.W.Frag} {mg : Str → Option Value} {base : Heap}
/-- found.append(tuple(sorted(set(own * ..)))) -/
theorem panel_append {D : Ends} {σ : L2.St} {a c F O : Addr} {m nn i : Nat} {y : Int} {qs : List Addr} {pan : List (List Int)} {l : List Int} {H H8 : Hp} (h3 : σ[3]? = some (some (.int y))) (h4 : σ[4]? = some (some (.ref F))) (h6 : σ[6]? = some (some (.ref O)))
    (nF : H F = none) (b8 : But a c H H8) (D8 : Deck H8 a c m) (Fa : F ≠ a) (Fc : F ≠ c) (hF : H8 F = some (.lst (qs.map V.ref))) (hqs : Paired (fun q l => FT H8 q (l.map V.int)) qs pan) (hO : H8 O = some (.lst (l.map V.int))) (few : qs.length ≤ 100) (n10 : nn ≤ 10) (ll : l.length ≤ 100) (lu : upto nn i l)
    (nx : ∀ H9 q' ms, But a c H H9 → Deck H9 a c m → ms.Pairwise (· < ·) → upto nn i ms → H9 F = some (.lst ((qs ++ [q']).map V.ref)) → Paired (fun q l => FT H9 q (l.map V.int)) (qs ++ [q']) (pan ++ [ms]) → D.nx σ H9) :
    tDrop (tBM K "list" rAppend (tVar 4) (tCons (tCB (rTupF K) (tCons (tCB (rSortedSet w) (tCons (tCB (rSetL' K w) (tCons (tOp rRep (tVar 6) (tCB rInt1 (tCons (tOp rNe (tVar 3) (tC (.int 4))) tNil))) tNil)) tNil)) tNil)) tNil)) D σ H8 := by
  refine ⟨.ref F, h4, .inl ⟨rfl, _, .inl (.inl hF)⟩, .ref O, h6, .int y, h3, rfl, .inr ⟨_, rfl, O, _, _, rfl, rfl, hO, ?_, ?_, ?_, fun O2 nO2 => ?_⟩⟩
  · split <;> omega
  · split <;> omega
  · have : (l.map V.int).length * (if (!decide (V.int y = V.int 4)) = true then (1 : Int) else 0).toNat ≤ 100 := by
      rw [List.length_map]
      split
      · show l.length * 1 ≤ 100; omega
      · show l.length * 0 ≤ 100; omega
    exact Nat.le_of_lt (small1000 (by omega))
  · obtain ⟨l2, hl2, l2l, l2u⟩ : ∃ l2 : List Int, (List.replicate (if (!decide (V.int y = V.int 4)) = true then (1 : Int) else 0).toNat (l.map V.int)).flatten = l2.map V.int ∧ l2.length ≤ 100 ∧ upto nn i l2 := by
      split
      · exact ⟨l, by show (l.map V.int) ++ [] = _; rw [List.append_nil], ll, lu⟩
      · exact ⟨[], rfl, by decide, fun x h => by cases h⟩
    rw [hl2]
    have sO : Same H8 (upd H8 O2 (.lst (l2.map V.int))) := same_new nO2
    refine sortSet_of (w := w) (K := K) (vs := [.ref O2]) (H := upd H8 O2 (.lst (l2.map V.int))) (Q := fun y H2 => rTupF K [y] H2 fun z H4 => rAppend (.ref F) [z] H4 fun _ H6 => D.nx σ H6) ⟨O2, l2, nn, rfl, .inl (.inl upd_same), by omega, by omega, fun x hx => ⟨(l2u x hx).1, (l2u x hx).2.1⟩, fun ms p H9 s9 e9 up mm _ => ?_⟩
    refine ⟨p, _, rfl, .inl (.inl e9), fun t o nt ho => ?_⟩
    have s89 : Same H8 (upd H9 t (.frz o (.tup (ms.map V.int)))) := (sO.trans s9).trans (same_new nt)
    have tF : t ≠ F := Ne.symm (ne_of_none ((sO.trans s9) _ _ hF) nt)
    refine ⟨F, _, .ref t, rfl, rfl, s89 _ _ hF, by rw [List.length_map]; exact small1000 (by omega), ?_⟩
    have keep : ∀ b o', b ≠ F → H8 b = some o' → (upd (upd H9 t (.frz o (.tup (ms.map V.int)))) F (.lst (qs.map V.ref ++ [.ref t]))) b = some o' := fun b o' hb e => by
      rw [upd_ne hb]; exact s89 _ _ e
    refine nx _ t ms (fun b o' h1 h2 e => keep b o' (ne_of_none e nF) (b8 b o' h1 h2 e)) ?_ up (fun x hx => l2u x ((mm x).mp hx)) (by rw [upd_same, List.map_append]; rfl) ?_
    · obtain ⟨cs, n, e1, e2, e3⟩ := D8
      exact ⟨cs, n, keep _ _ (Ne.symm Fa) e1, keep _ _ (Ne.symm Fc) e2, e3⟩
    · refine Paired.snoc (hqs.mono fun q l ⟨oq, e, z⟩ => ⟨oq, keep q _ (ne_of e hF (by intro z; cases z)) e, z⟩) ⟨o, ?_, ho⟩
      rw [upd_ne tF, upd_same]
def spPanel : Sp := fun vs H Q _ => ∃ (a c : Addr) (m : Nat) (most : Int), vs = [.ref a, .int most] ∧ Deck H a c (m + 200) ∧ 1 ≤ most ∧ most ≤ 10 ∧
  ∀ H' p pan, But a c H H' → Deck H' a c m → PanAt H' p pan → Good pan → (pan.length : Int) ≤ most → Q (.ref p) H'
theorem ok_panel {f fD : Addr} {fd fdD : FuncData} {k : Nat} (F : Fun K "_law_panel" "_law_panel" sPanel f fd) (FD : Fun K "_law_draw" "_law_draw" sDraw fD fdD) (bD : Binds K fdD ["_law_deck_here", "_law_bound"] []) (gD : mg "_law_draw" = some (.ref fD))
    (ml : mg "len" = none) (mr : mg "range" = none) (mt : mg "tuple" = none) (mi : mg "int" = none) (mx : mg "max" = none) (mse : mg "set" = none) (mso : mg "sorted" = none) : FnOk P w K mg base CX0 (k + 2) f fd ["_law_deck_here", "_law_most"] spPanel := by
  have GD : FnOk P w K mg base CX0 (k + 1) fD fdD ["_law_deck_here", "_law_bound"] spDraw := ok_draw FD ml mx
  refine F.ok scPanel (fun vs H Q E h => ?_) (fun cdv A outer s H vs Q E hr h => ?_)
  · obtain ⟨a, c, m, most, rfl, _⟩ := h
    rfl
  · obtain ⟨a, c, m, most, rfl, hD, m1, m2, q⟩ := h
    refine ⟨_, pss_cons (ps_asg (pe_tup (pa_cons (pe_op op_add pe_int (pe_call GD hr (by rfl) gD FD.kp bD .nil pass0 (pa_cons (pv 0) (pa_cons (pv 1) pa_nil)))) (pa_cons (pe_call GD hr (by rfl) gD FD.kp bD .nil pass0 (pa_cons (pv 0) (pa_cons pe_int pa_nil))) (pa_cons (pe_lst pa_nil) pa_nil))))
        (pg_tup rfl (pgs_cons (pg_name (i := 2) scPanel.nd rfl (.inl rfl)) (pgs_cons (pg_name (i := 3) scPanel.nd rfl (.inr rfl)) (pgs_cons (pg_name (i := 4) scPanel.nd rfl (.inl rfl)) pgs_nil)))))
      (pss_cons (ps_for PassesOwn.never rfl (pi_range1 (by rfl) mr (pa_cons (pv 2) pa_nil)) (pg_name (i := 5) scPanel.nd rfl (.inr rfl))
        (pss_cons (ps_set (i := 6) scPanel.nd rfl (.inr rfl) (pe_lc (own := [("_law_other", 7)]) (g := gName 7) rfl scPanel.nd (pi_range1 (by rfl) mr (pa_cons (pv 2) pa_nil))
            (blkOk_by (own := [("_law_other", 7)]) (N := nPanel) (sc := defScope sPanel) (by decide +kernel)) (fun _ _ _ _ _ => pg_name (i := 7) scPanel.nd rfl (Or.inl rfl))
            (fun _ _ _ _ _ => pts_one (PW.pt (pw_and (pt_cmpR op_ne (pv 7) (pv 5) (nomark _)) (pw_and1 (pt_cmpR op_eq (pe_call GD hr (by rfl) gD FD.kp bD .nil pass0 (pa_cons (pv 0) (pa_cons (pe_ix (show IxR _ (rIxL K) from ix_list) (pe_lst (pa_cons pe_int (pa_cons pe_int (pa_cons pe_int (pa_cons pe_int (pa_cons pe_int pa_nil)))))) (pv 3) (fun _ _ => rfl)) pa_nil))) pe_int (nomark _))))))
            (fun _ _ _ _ _ => pv 7)))
        (pss_cons (ps_if (pt_cmpR op_eq (pv 3) pe_int (nomark _))
          (pss_one (ps_set (i := 6) scPanel.nd rfl (.inr rfl) (pe_lc (own := [("_law_other", 7)]) (g := gName 7) rfl scPanel.nd (pi_range1 (by rfl) mr (pa_cons (pv 2) pa_nil))
            (blkOk_by (own := [("_law_other", 7)]) (N := nPanel) (sc := defScope sPanel) (by decide +kernel)) (fun _ _ _ _ _ => pg_name (i := 7) scPanel.nd rfl (Or.inl rfl))
            (fun _ _ _ _ _ => pts_one (PW.pt (pw_and (pt_cmpR op_ne (pv 7) (pv 5) (nomark _)) (pw_and1 (pt_cmpR (show OpR _ _ (rIn K true) from op_notIn_seq) (pv 7) (pv 6) (by rfl))))))
            (fun _ _ _ _ _ => pv 7)))) pss_nil)
        (pss_cons (ps_if (PW.pt (pw_and (pt_cmpR op_eq (pv 3) pe_int (nomark _)) (pw_and1 (pt_cmpR op_gt (pv 2) pe_int (nomark _)))))
          (pss_one (ps_set (i := 6) scPanel.nd rfl (.inr rfl) (pe_op op_cat (pv 6) (pe_lst (pa_cons (pe_op op_mod (pe_op op_add (pv 5) pe_int) (pv 2)) pa_nil))))) pss_nil)
        (pss_one (ps_expr (pe_bm PySem.F.plainAttrs_list PySem.F.slot_list_append PySem.F.type_list_append mt_append (pv 4) (pa_cons (pe_callTy call_tupF (by rfl) mt (by decide +kernel) (pa_cons
            (pe_callB (cr_sortedSet rfl) (by rfl) mso (by decide +kernel) (pa_cons (pe_callTy (cr_setL rfl) (by rfl) mse (by decide +kernel) (pa_cons (pe_op op_rep (pv 6) (pe_callTy (show CallR _ _ rInt1 from call_int1) (by rfl) mi (by decide +kernel) (pa_cons (pe_cmpR op_ne (pv 3) pe_int (nomark _)) pa_nil))) pa_nil)) pa_nil)) pa_nil)) pa_nil))))))))
      (pss_one (ps_ret (pe_callTy call_tupF (by rfl) mt (by decide +kernel) (pa_cons (pv 4) pa_nil))))), ?_⟩
    refine ⟨.ref a, rfl, .int most, rfl, a, c, m + 199, most, rfl, hD.less (by omega), by omega, by omega, fun H1 r1 b1 D1 r1a r1b => ?_⟩
    refine ⟨1, r1, rfl, rfl, .ref a, rfl, a, c, m + 198, 5, rfl, D1, by decide, by decide, fun H2 y b2 D2 y0 y5 => ?_⟩
    refine ⟨Nat.zero_le _, fun F nF => ?_⟩
    have sF : Same H2 (upd H2 F (.lst [])) := same_new nF
    refine ⟨by show 3 ≤ sizeLine; decide, fun T nT => ⟨T, _, rfl, .inl (.inl upd_same), rfl, _, _, rfl, _, _, rfl, _, _, rfl, rfl, ?_⟩⟩
    have FD' := D2.fresh nF
    have b12 := b1.trans b2
    have hnF : H F = none := by
      cases e : H F with
      | none => rfl
      | some o =>
        have := b12 F o FD'.1 FD'.2 e
        rw [nF] at this; cases this
    refine gen_heap (fun H4 => But a c H H4 ∧ Deck H4 a c (m + 198) ∧ H4 F = some (.lst [])) ⟨(b12.trans (But.of sF)).trans (But.of (same_new nT)), (D2.same sF).same (same_new nT), (same_new nT) _ _ upd_same⟩ fun H4 ⟨b4, D4, eF4⟩ => ?_
    obtain ⟨nn, hnn⟩ : ∃ nn : Nat, 1 + r1 = (nn : Int) := ⟨(1 + r1).toNat, (Int.toNat_of_nonneg (by omega)).symm⟩
    have nn1 : 1 ≤ nn := by omega
    have nn2 : (nn : Int) ≤ most := by omega
    have nn3 : nn ≤ 10 := by omega
    dsimp only
    rw [hnn]
    refine ⟨.int (nn : Int), rfl, (nn : Int), rfl, by omega, by omega, ?_⟩
    refine for_range (n := nn) (fun i σ H5 => But a c H H5 ∧ Deck H5 a c (m + 10 * (10 - i)) ∧ i ≤ nn ∧
        (∃ (qs : List Addr) (pan : List (List Int)), H5 F = some (.lst (qs.map V.ref)) ∧ Paired (fun q l => FT H5 q (l.map V.int)) qs pan ∧ pan.length = i ∧
          ∀ (j : Nat) (l : List Int), pan[j]? = some l → l.Pairwise (· < ·) ∧ upto nn j l) ∧
        ∃ x5 x6 x7, σ = [some (.ref a), some (.int most), some (.int (nn : Int)), some (.int y), some (.ref F), x5, x6, x7]) ?_ ?_ ?_
    · exact ⟨b4, D4.less (by omega), Nat.zero_le _, ⟨[], [], eF4, .nil, rfl, fun j l h => by simp at h⟩, none, none, none, rfl⟩
    · intro i σ H5 hi hP
      obtain ⟨b5, D5, _, ⟨qs, pan, hF, hqs, hpl, hpan⟩, x5, x6, x7, rfl⟩ := hP
      rw [Int.zero_add]
      have few : qs.length ≤ 100 := by rw [hqs.length, hpl]; omega
      have close : ∀ (H9 : Hp) (q' : Addr) (ms : List Int), But a c H H9 → Deck H9 a c (m + 10 * (10 - (i + 1))) → ms.Pairwise (· < ·) → upto nn i ms → H9 F = some (.lst ((qs ++ [q']).map V.ref)) → Paired (fun q l => FT H9 q (l.map V.int)) (qs ++ [q']) (pan ++ [ms]) →
          But a c H H9 ∧ Deck H9 a c (m + 10 * (10 - (i + 1))) ∧ i + 1 ≤ nn ∧ (∃ (qs : List Addr) (pan : List (List Int)), H9 F = some (.lst (qs.map V.ref)) ∧ Paired (fun q l => FT H9 q (l.map V.int)) qs pan ∧ pan.length = i + 1 ∧
            ∀ (j : Nat) (l : List Int), pan[j]? = some l → l.Pairwise (· < ·) ∧ upto nn j l) := by
        intro H9 q' ms g1 g2 gu gm g3 g4
        refine ⟨g1, g2, hi, _, _, g3, g4, by rw [List.length_append, hpl]; rfl, fun j l' hj => ?_⟩
        by_cases hji : j < i
        · rw [List.getElem?_append_left (by omega)] at hj
          exact hpan j l' hj
        · rw [List.getElem?_append_right (by omega), hpl] at hj
          obtain rfl : j = i := by
            have := (List.getElem?_eq_some_iff.mp hj).1
            rw [List.length_singleton] at this; omega
          rw [Nat.sub_self] at hj
          obtain rfl : ms = l' := by simpa using hj
          exact ⟨gu, gm⟩
      -- own
      refine ⟨.int (nn : Int), rfl, (nn : Int), rfl, by omega, by omega, fun O nO => ?_⟩
      have oO := D5.fresh nO
      refine lc_range (n := nn) (fun k H6 => But a c H5 H6 ∧ Deck H6 a c (m + 10 * (10 - i) - k) ∧ ∃ acc : List Int, H6 O = some (.lst (acc.map V.int)) ∧ acc.length ≤ k ∧ upto nn i acc)
        ⟨But.of (same_new nO), (D5.same (same_new nO)).less (by omega), [], upd_same, Nat.le_refl _, fun x h => by cases h⟩ (fun k H6 hk hP => ?_) (fun H6 hP => ?_)
      · obtain ⟨b6, D6, acc, eO, al, am⟩ := hP
        rw [Int.zero_add]
        refine ⟨rfl, .int (k : Int), rfl, .int (i : Int), rfl, rfl, _, rfl, ite2 (fun e => ?_) (fun e => ?_)⟩
        · have hne : (k : Int) ≠ (i : Int) := fun z => by rw [z] at e; simp at e
          obtain ⟨v, hv, v0, v1⟩ := pick5 y0 y5
          refine ⟨.ref a, rfl, by show 5 ≤ sizeLine; decide, fun L nL => ⟨.int y, rfl, L, _, y, .int v, rfl, rfl, .inl (.inl upd_same), hv, a, c, m + 10 * (10 - i) - (k + 1), v, rfl,
            (D6.same (same_new nL)).less (by omega), v0, v1, fun H8 r b8 D8 r0 r1 => ⟨rfl, _, rfl, ite2 (fun e => ?_) (fun e => ?_)⟩⟩⟩
          all_goals
            have b78 : But a c H6 H8 := (But.of (same_new nL)).trans b8
            have eO8 : H8 O = some (.lst (acc.map V.int)) := b78 _ _ oO.1 oO.2 eO
          · refine ⟨_, rfl, acc.map V.int, eO8, by rw [List.length_map]; exact small1000 (by omega), ?_, ?_, acc ++ [(k : Int)], ?_, by rw [List.length_append]; show acc.length + 1 ≤ k + 1; omega, ?_⟩
            · intro b o h1 h2 e
              rw [upd_ne (ne_of_none e nO)]
              exact b78 _ _ h1 h2 (b6 _ _ h1 h2 e)
            · obtain ⟨cs, n, e1, e2, e3⟩ := D8
              exact ⟨cs, n, by rw [upd_ne (Ne.symm oO.1)]; exact e1, by rw [upd_ne (Ne.symm oO.2)]; exact e2, e3⟩
            · rw [upd_same, List.map_append]; rfl
            · intro x hx
              rcases List.mem_append.mp hx with h | h
              · exact am x h
              · rw [List.mem_singleton.mp h]; omega
          · exact ⟨b6.trans b78, D8, acc, eO8, by omega, am⟩
        · exact iteF ⟨b6, D6.less (by omega), acc, eO, by omega, am⟩
      · obtain ⟨b6, D6, l, eO, ll, lu⟩ := hP
        have b56 := b5.trans b6
        have hF6 := b6 _ _ FD'.1 FD'.2 hF
        have hq6 : Paired (fun q l => FT H6 q (l.map V.int)) qs pan := hqs.mono fun _ _ x => x.but D5 b6
        have D6' : Deck H6 a c (m + 10 * (10 - (i + 1))) := D6.less (by omega)
        by_cases h2 : y = 2
        · -- the others
          subst h2
          refine ⟨.int 2, rfl, rfl, _, rfl, iteT ⟨.int (nn : Int), rfl, (nn : Int), rfl, by omega, by omega, fun O2 nO2 => ?_⟩⟩
          refine lc_range (n := nn) (fun k H7 => Same H6 H7 ∧ ∃ acc : List Int, H7 O2 = some (.lst (acc.map V.int)) ∧ acc.length ≤ k ∧ upto nn i acc)
            ⟨same_new nO2, [], upd_same, Nat.le_refl _, fun x h => by cases h⟩ (fun k H7 hk hP => ?_) (fun H7 hP => ?_)
          · obtain ⟨s7, acc, eO2, al, am⟩ := hP
            rw [Int.zero_add]
            refine ⟨rfl, .int (k : Int), rfl, .int (i : Int), rfl, rfl, _, rfl, ite2 (fun e => ?_) (fun e => ?_)⟩
            · have hne : (k : Int) ≠ (i : Int) := fun z => by rw [z] at e; simp at e
              refine ⟨.int (k : Int), rfl, .ref O, rfl, O, _, rfl, .inl (.inl (.inl (s7 _ _ eO))), rfl, flat_ints _, _, rfl, ite2 (fun e2 => ?_) (fun e2 => ?_)⟩
              · refine ⟨_, rfl, acc.map V.int, eO2, by rw [List.length_map]; exact small1000 (by omega), ?_, acc ++ [(k : Int)], ?_, by rw [List.length_append]; show acc.length + 1 ≤ k + 1; omega, ?_⟩
                · intro b o e
                  rw [upd_ne (ne_of_none e nO2)]
                  exact s7 _ _ e
                · rw [upd_same, List.map_append]; rfl
                · intro x hx
                  rcases List.mem_append.mp hx with h | h
                  · exact am x h
                  · rw [List.mem_singleton.mp h]; omega
              · exact ⟨s7, acc, eO2, by omega, am⟩
            · exact iteF ⟨s7, acc, eO2, by omega, am⟩
          · obtain ⟨s7, acc, eO2, al, am⟩ := hP
            refine ⟨.int 2, rfl, rfl, _, rfl, iteF (iteF ?_)⟩
            refine panel_append (m := m + 10 * (10 - (i + 1))) (l := acc) rfl rfl rfl hnF (b56.trans (But.of s7)) (D6'.same s7) FD'.1 FD'.2 (s7 _ _ hF6) (hq6.mono fun _ _ x => x.same s7) eO2 few nn3 (by omega) am fun H9 q' ms g1 g2 gu gm g3 g4 => ?_
            obtain ⟨r1, r2, r3, r4⟩ := close H9 q' ms g1 g2 gu gm g3 g4
            exact ⟨r1, r2, r3, r4, _, _, _, rfl⟩
        · have n2 : decide (V.int y = V.int 2) = false := decide_eq_false fun z => h2 (V.int.inj z)
          refine ⟨.int y, rfl, rfl, _, rfl, ?_⟩
          rw [n2]
          refine iteF ?_
          by_cases h3 : y = 3
          · subst h3
            refine ⟨.int 3, rfl, rfl, _, rfl, iteT ⟨.int (nn : Int), rfl, _, 1, rfl, rfl, _, rfl, ite2 (fun e => ?_) (fun e => ?_)⟩⟩
            · have hn1 : (1 : Int) < (nn : Int) := of_decide_eq_true e
              refine ⟨.ref O, rfl, .int (i : Int), rfl, _, 1, rfl, rfl, .int (nn : Int), rfl, _, _, rfl, rfl, (by show (0 : Int) < (nn : Int); omega), by show 1 ≤ sizeLine; decide, fun L nL => ?_⟩
              have sL : Same H6 (upd H6 L (.lst [.int (((i : Int) + 1) % (nn : Int))])) := same_new nL
              refine ⟨O, L, _, _, rfl, rfl, sL _ _ eO, upd_same, by rw [List.length_map]; exact Nat.le_of_lt (small1000 (show l.length + 1 ≤ 1000 by omega)), fun O3 nO3 => ?_⟩
              have s3 := sL.trans (same_new (o := .lst (l.map V.int ++ [.int (((i : Int) + 1) % (nn : Int))])) nO3)
              have u3 : upto nn i (l ++ [((i : Int) + 1) % (nn : Int)]) := fun x hx => by
                rcases List.mem_append.mp hx with h | h
                · exact lu x h
                · rw [List.mem_singleton.mp h]
                  have e1 := Int.emod_nonneg ((i : Int) + 1) (show (nn : Int) ≠ 0 by omega)
                  have e2 := Int.emod_lt_of_pos ((i : Int) + 1) (show (0 : Int) < (nn : Int) by omega)
                  refine ⟨e1, e2, fun e3 => ?_⟩
                  by_cases h4 : (i : Int) + 1 < (nn : Int)
                  · rw [Int.emod_eq_of_lt (by omega) h4] at e3; omega
                  · have h5 : (i : Int) + 1 = (nn : Int) := by omega
                    rw [h5, Int.emod_self] at e3; omega
              refine panel_append (m := m + 10 * (10 - (i + 1))) (l := l ++ [((i : Int) + 1) % (nn : Int)]) rfl rfl rfl hnF (b56.trans (But.of s3)) (D6'.same s3) FD'.1 FD'.2 (s3 _ _ hF6) (hq6.mono fun _ _ x => x.same s3) (by rw [upd_same, List.map_append]; rfl) few nn3 (by rw [List.length_append]; show l.length + 1 ≤ 100; omega) u3 fun H9 q' ms g1 g2 gu gm g3 g4 => ?_
              obtain ⟨r1, r2, r3, r4⟩ := close H9 q' ms g1 g2 gu gm g3 g4
              exact ⟨r1, r2, r3, r4, _, _, _, rfl⟩
            · refine panel_append (m := m + 10 * (10 - (i + 1))) (l := l) rfl rfl rfl hnF b56 D6' FD'.1 FD'.2 hF6 hq6 eO few nn3 (by omega) lu fun H9 q' ms g1 g2 gu gm g3 g4 => ?_
              obtain ⟨r1, r2, r3, r4⟩ := close H9 q' ms g1 g2 gu gm g3 g4
              exact ⟨r1, r2, r3, r4, _, _, _, rfl⟩
          · have n3 : decide (V.int y = V.int 3) = false := decide_eq_false fun z => h3 (V.int.inj z)
            refine ⟨.int y, rfl, rfl, _, rfl, ?_⟩
            rw [n3]
            refine iteF (iteF ?_)
            refine panel_append (m := m + 10 * (10 - (i + 1))) (l := l) rfl rfl rfl hnF b56 D6' FD'.1 FD'.2 hF6 hq6 eO few nn3 (by omega) lu fun H9 q' ms g1 g2 gu gm g3 g4 => ?_
            obtain ⟨r1, r2, r3, r4⟩ := close H9 q' ms g1 g2 gu gm g3 g4
            exact ⟨r1, r2, r3, r4, _, _, _, rfl⟩
    · intro σ H5 hP
      obtain ⟨b5, D5, _, ⟨qs, pan, hF, hqs, hpl, hpan⟩, x5, x6, x7, rfl⟩ := hP
      refine ⟨.ref F, rfl, F, _, rfl, .inl (.inl hF), fun l o nl ho => ?_⟩
      have sl : Same H5 (upd H5 l (.frz o (.tup (qs.map V.ref)))) := same_new nl
      refine q _ l pan (b5.trans (But.of sl)) ((D5.same sl).less (by omega)) ⟨qs, ⟨o, upd_same, ho⟩, hqs.mono fun _ _ z => z.same sl⟩ ?_ (by omega)
      have hnn : (pan.length : Int) = (nn : Int) := by omega
      refine ⟨by omega, by omega, fun l hl => ?_, fun l hl => ?_, fun j l hl h => ?_⟩
      · obtain ⟨j, hj⟩ := List.getElem?_of_mem hl
        exact (hpan j l hj).1
      · obtain ⟨j, hj⟩ := List.getElem?_of_mem hl
        intro x hx
        have := (hpan j l hj).2 x hx
        exact ⟨this.1, by omega⟩
      · exact ((hpan j l hl).2 _ h).2.2 rfl
end
end K33
namespace Pr
open PySem PySem.Spec PyProof.Rows L2
section
variable {X : Cx}
def tTupF (t : TA) : TE := fun σ H Q => t σ H fun xs H1 => xs.length ≤ sizeLine ∧ ∀ p o, H1 p = none → o.dict = none → Q (.ref p) (upd H1 p (.frz o (.tup xs)))
theorem pe_tupF {es : List Expr} {t : TA} {x1 : Nat} {pos : Pos} (h : PA X es t) : PE X (.Tuple es x1 pos) (tTupF t) :=
  ⟨fun pins s σ H Q I hq => wpAny_Tuple_spliced (thn (h.run pos pins s σ H _ I hq) fun us s1 ⟨xs, H1, I1, r, z, q⟩ => ⟨r.length ▸ z,
    ⟨.ref s1.heap.objs.size, _, I1.laid (t' := s1.toks) (o := .frz { cls := .type "tuple", data := .seq us.toArray } (.tup xs)) (fun _ _ e => Heap.get?_push_of_some _ e) (Nat.le_refl _) ⟨Heap.get?_push_size _ rfl, z, us, r, IsTup.new _ _⟩, rfl,
      q _ _ (I1.hok.fresh (Nat.le_refl _)) rfl⟩⟩)⟩
/-- (v,) * k of a known tuple -/
def rRepF : R2 := fun x y H Q => ∃ (l : Addr) (v : V) (k : Nat), x = .ref l ∧ y = .int (k : Int) ∧ FT H l [v] ∧ 1 ≤ k ∧ k ≤ 1000 ∧ ∀ p H', Same H H' → FT H' p (List.replicate k v) → Q (.ref p) H'
theorem op_repF : OpR X (binaryOp .Mult) rRepF := by
  intro pins s σ H x y u1 u2 Q I rx ry h
  obtain ⟨l, v, k, rfl, rfl, hF, h1, h2, q⟩ := h
  by_cases e1 : k = 1
  · subst e1
    exact op_rep1 pins s σ H _ _ u1 u2 Q I rx ry ⟨l, v, rfl, hF.sq, .inl ⟨rfl, q l H (Same.refl _) hF⟩⟩
  · cases rx
    obtain ⟨tk, rfl⟩ := ry
    obtain ⟨its, r, ⟨⟨cls, dd, data, sl⟩, ho, hc, n, hd⟩, hs⟩ := I.tuple (hF.sq (K := X.K))
    simp only at hc hd
    subst hc hd
    obtain ⟨a, rfl, ra⟩ := vals1 r
    have big : (List.replicate k [a]).flatten.length ≤ sizeLine := by
      rw [rep_flat, List.length_replicate, sizeLine_eq]; omega
    have sz : (([a] : List Value).toArray.size : Int) * (k : Int) = (k : Int) := by
      show (1 : Int) * (k : Int) = _
      omega
    have big2 : (List.foldl (fun x1 x2 => x1 ++ x2) #[] (List.replicate ((k : Int)).toNat ([a] : List Value).toArray)).size ≤ sizeLine := by
      rw [size_rep, List.size_toArray, Int.toNat_natCast]; exact big
    refine wpAny_binaryOp_repeat_ref (T := "tuple") (U := "int") (by decide) ⟨_, ho, rfl⟩ (fun s' => typeIs_int s' (k : Int) tk) noFill_tuple_mul F.fills_int_mul F.slot_int_rmul repeat_tuple F.slot_int_index.lookup ?_
    refine call_meets F.slot_int_rmul (typeIs_int s (k : Int) tk) F.entry_int_rmul (F.args_int_rmul_2 _ _) (int_rmul_tuple (k : Int) tk l _ n dd sl) ⟨ho, rfl, ⟨_, ho, rfl⟩, ?_⟩
    refine call_meets F.slot_tuple_mul ⟨_, ho, rfl⟩ F.entry_tuple_mul (F.args_tuple_mul_2 _ _) (tuple_mulW l _ n dd sl (k : Int) tk ?_ ?_ ?_ ?_ ?_ big2) ⟨ho, ?_⟩
    · rw [decide_eq_false (by omega), decide_eq_false (by omega)]; rfl
    · show (false || ((k : Int) == 1)) = false
      rw [Bool.false_or]; exact beq_eq_false_iff_ne.mpr (by omega)
    · rw [decide_eq_false (by omega)]; rfl
    · rw [sz]; omega
    · unfold Builtin.Tuple.tupleTooMany
      rw [sz, sizeLine_eq]; exact decide_eq_false (by omega)
    · rw [size_rep, Int.toNat_natCast]
      have rr := r.rep k
      refine ⟨.ref s.heap.objs.size, _, I.laid (t' := s.toks) (o := .frz { cls := .type "tuple", data := .seq (List.replicate k [a]).flatten.toArray } (.tup (List.replicate k [v]).flatten)) (fun _ _ e => Heap.get?_push_of_some _ e) (Nat.le_refl _) ⟨Heap.get?_push_size _ rfl, ?_, _, rr, IsTup.new _ _⟩, rfl,
        q _ _ (same_new (I.hok.fresh (Nat.le_refl _))) ⟨_, by rw [upd_same, rep_flat (v := v)], rfl⟩⟩
      rw [rep_flat, List.length_replicate, sizeLine_eq]; omega
/-- t + u, one way on -/
def rCatS (K : PySem.W.Frag) : R2 := fun x y H Q => ∃ a b xs ys, x = .ref a ∧ y = .ref b ∧ SqT K H a xs ∧ SqT K H b ys ∧ xs.length + ys.length ≤ sizeLine ∧ ∀ p H', Same H H' → SqT K H' p (xs ++ ys) → Q (.ref p) H'
theorem op_catS : OpR X (binaryOp .Add) (rCatS X.K) := by
  intro pins s σ H x y u1 u2 Q I rx ry h
  obtain ⟨a, b, xs, ys, rfl, rfl, ha, hb, hz, q⟩ := h
  refine op_catA pins s σ H _ _ u1 u2 Q I rx ry ⟨a, b, xs, ys, rfl, rfl, ha, hb, hz, fun e => q b H (Same.refl _) ?_, fun _ e => q a H (Same.refl _) ?_, fun _ _ p np => q p _ (same_new np) (.inl (.inl upd_same))⟩
  · rw [e]; exact hb
  · rw [e, List.append_nil]; exact ha
end
end Pr
namespace K33
open PySem PySem.Spec PyProof.Rows L2 Pr
theorem scNo : FnScope ["panel"] ["panel"] (defScope sNo) := ⟨rfl, rfl, rfl, by decide +kernel, rfl, by decide +kernel, by decide +kernel⟩
theorem scPressE : FnScope ["panel", "button", "words", "other"] ["panel", "button"] (defScope sPressE) := ⟨rfl, rfl, rfl, by decide +kernel, rfl, by decide +kernel, by decide +kernel⟩
def nJoin : List Str := ["first", "second", "early", "late"]
theorem scJoin : FnScope nJoin ["first", "second"] (defScope sJoin) := ⟨rfl, rfl, rfl, by decide +kernel, rfl, by decide +kernel, by decide +kernel⟩
theorem scWith : FnScope ["panel", "effect", "button"] ["panel", "effect", "button"] (defScope sWith) := ⟨rfl, rfl, rfl, by decide +kernel, rfl, by decide +kernel, by decide +kernel⟩
theorem scEff : FnScope ["panel", "row", "effect", "button"] ["panel", "row"] (defScope sEff) := ⟨rfl, rfl, rfl, by decide +kernel, rfl, by decide +kernel, by decide +kernel⟩
section
variable {P : Program} {w : World} {K : PySem.W.Frag} {mg : Str → Option Value} {base : Heap}
def spNo (K : PySem.W.Frag) : Sp := fun vs H Q _ => ∃ (p : Addr) (pan : List (List Int)), vs = [.ref p] ∧ PanT K H p pan ∧ Good pan ∧
  ∀ H' t, Same H H' → FT H' t ((effM pan []).map V.str) → Q (.ref t) H'
theorem ok_no {f : Addr} {fd : FuncData} {k : Nat} (F : Fun K "no_effect" "no_effect" sNo f fd) (ml : mg "len" = none) : FnOk P w K mg base CX0 (k + 1) f fd ["panel"] (spNo K) := by
  refine F.ok scNo (fun vs H Q E h => ?_) (fun cdv A outer s H vs Q E hr h => ?_)
  · obtain ⟨p, pan, rfl, _⟩ := h
    rfl
  · obtain ⟨p, pan, rfl, hp, hg, q⟩ := h
    refine ⟨_, pss_one (ps_ret (pe_op op_repF (pe_tupF (pa_cons pe_str pa_nil)) (pe_callB call_len_seq (by rfl) ml PySem.boot_len (pa_cons (pv 0) pa_nil)))), ?_⟩
    obtain ⟨xs, hxs, hl⟩ := hp.len
    have few := hg.few
    have pos := hg.pos
    refine ⟨by show 1 ≤ sizeLine; decide, fun T o nT ho => ?_⟩
    have sT : Same H (upd H T (.frz o (.tup [.str wSame]))) := same_new nT
    refine ⟨.ref p, rfl, p, _, rfl, .inr (same_sqT sT hxs), T, .str wSame, pan.length, rfl, by rw [hl], ⟨o, upd_same, ho⟩, pos, by omega, fun t H' s' ht => q H' t (sT.trans s') ?_⟩
    rw [effM_nil, List.map_replicate]; exact ht
def spPressE (K : PySem.W.Frag) : Sp := fun vs H Q _ => ∃ (p : Addr) (pan : List (List Int)) (b : Int), vs = [.ref p, .int b] ∧ PanT K H p pan ∧ Good pan ∧ 0 ≤ b ∧ b < (pan.length : Int) ∧
  ∀ H' t, Same H H' → H' t = some (.tup ((pressW pan b).map V.str)) → Q (.ref t) H'
theorem ok_pressE {f fN : Addr} {fd fdN : FuncData} {k : Nat} (F : Fun K "press_effect" "press_effect" sPressE f fd) (FN : Fun K "no_effect" "no_effect" sNo fN fdN) (bN : Binds K fdN ["panel"] []) (gN : mg "no_effect" = some (.ref fN))
    (ml : mg "len" = none) (mli : mg "list" = none) (mt : mg "tuple" = none) : FnOk P w K mg base CX0 (k + 2) f fd ["panel", "button"] (spPressE K) := by
  have GN : FnOk P w K mg base CX0 (k + 1) fN fdN ["panel"] (spNo K) := ok_no FN ml
  refine F.ok scPressE (fun vs H Q E h => ?_) (fun cdv A outer s H vs Q E hr h => ?_)
  · obtain ⟨p, pan, b, rfl, _⟩ := h
    rfl
  · obtain ⟨p, pan, b, rfl, hp, hg, b0, b1, q⟩ := h
    refine ⟨_, pss_cons (ps_set (i := 2) scPressE.nd rfl (.inl rfl) (pe_callTy call_list_of (by rfl) mli (by decide +kernel) (pa_cons (pe_call GN hr (by rfl) gN FN.kp bN .nil pass0 (pa_cons (pv 0) pa_nil)) pa_nil)))
      (pss_cons (ps_asg pe_str (pg_sub (pv 2) (pv 1) set_list))
      (pss_cons (ps_for PassesOwn.never rfl (pi_tup (pe_ix ix_tup (pv 0) (pv 1) (fun _ _ => rfl))) (pg_name (i := 3) scPressE.nd rfl (.inl rfl))
        (pss_one (ps_asg pe_str (pg_sub (pv 2) (pv 3) set_list))))
      (pss_one (ps_ret (pe_callTy call_tuple_of (by rfl) mt (by decide +kernel) (pa_cons (pv 2) pa_nil)))))), ?_⟩
    refine ⟨.ref p, rfl, p, pan, rfl, hp, hg, fun H1 t s1 et => ?_⟩
    refine ⟨t, _, rfl, .inr et.sq, fun W nW => ?_⟩
    have s2 : Same H (upd H1 W (.lst ((effM pan []).map V.str))) := s1.trans (same_new nW)
    have nW' : H W = none := s1.free nW
    obtain ⟨bn, rfl⟩ : ∃ bn : Nat, b = (bn : Int) := ⟨b.toNat, (Int.toNat_of_nonneg b0).symm⟩
    have hbn : bn < pan.length := by omega
    refine ⟨.ref W, rfl, .int (bn : Int), rfl, W, _, _, bn, rfl, rfl, upd_same, ixN_nat (by rw [List.length_map, effM_len]; exact hbn), ?_⟩
    obtain ⟨qs, q', hq, ha, hr', _⟩ := panT_at hp (b := (bn : Int)) b0 b1
    have s3 : Same H (upd (upd H1 W (.lst ((effM pan []).map V.str))) W (.lst (((effM pan []).map V.str).set bn (.str wOn)))) := fun x o e => by
      rw [upd_ne (ne_of_none e nW')]; exact s2 _ _ e
    refine ⟨.ref p, rfl, .int (bn : Int), rfl, p, _, _, .ref q', rfl, rfl, same_sqT s3 hq, ha, q', rfl, ⟨_, same_sqT s3 hr'⟩, ?_⟩
    generalize hl0 : pan.getD ((bn : Int)).toNat [] = l at hr'
    have hin : ∀ x ∈ l, 0 ≤ x ∧ x < (pan.length : Int) := fun x hx => by
      rw [← hl0, Int.toNat_natCast, List.getD_eq_getElem?_getD, List.getElem?_eq_getElem hbn] at hx
      exact hg.rng _ (List.getElem_mem hbn) x hx
    refine for_tup (xs := l.map V.int) (fun i σ H4 => Same H H4 ∧ H4 W = some (.lst (((List.range pan.length).map (onM (l.take i) (bn : Int))).map V.str)) ∧ ∃ x3, σ = [some (.ref p), some (.int (bn : Int)), some (.ref W), x3])
      ⟨s3, ?_, none, rfl⟩ (fun i σ H4 _ hP => same_sqT hP.1 hr') (fun i x σ H4 hx hP => ?_) (fun σ H4 hP => ?_)
    · rw [upd_same, effM_nil, replicate_map_range, List.map_map, set_map_range, List.map_map]
      refine congrArg _ (congrArg _ (List.map_congr_left fun c _ => ?_))
      show (if c = bn then V.str wOn else V.str wSame) = V.str (onM [] (bn : Int) c)
      unfold onM
      have e0 : ¬ ((c : Int) ∈ ([] : List Int)) := by simp
      by_cases e : c = bn
      · have e1 : (c : Int) = (bn : Int) := by omega
        rw [if_pos e, if_neg e0, if_pos e1]
      · have e1 : ¬ (c : Int) = (bn : Int) := by omega
        rw [if_neg e, if_neg e0, if_neg e1]
    · obtain ⟨s4, eW, x3, rfl⟩ := hP
      obtain ⟨z, hz, rfl⟩ := int_get hx
      have hzr := hin z (List.mem_of_getElem? hz)
      obtain ⟨zn, rfl⟩ : ∃ zn : Nat, z = (zn : Int) := ⟨z.toNat, (Int.toNat_of_nonneg hzr.1).symm⟩
      refine ⟨.ref W, rfl, .int (zn : Int), rfl, W, _, _, zn, rfl, rfl, eW, ixN_nat (by rw [List.length_map, List.length_map, List.length_range]; omega), ?_, ?_, _, rfl⟩
      · intro b o e
        rw [upd_ne (ne_of_none e nW')]; exact s4 _ _ e
      · rw [upd_same, List.map_map, set_map_range, List.map_map]
        refine congrArg _ (congrArg _ (List.map_congr_left fun c _ => ?_))
        show (if c = zn then V.str wOff else V.str (onM (l.take i) (bn : Int) c)) = V.str (onM (l.take (i + 1)) (bn : Int) c)
        unfold onM
        rw [List.take_add_one, hz]
        by_cases e : c = zn
        · rw [if_pos e, if_pos (by rw [e]; simp)]
        · have hne : (c : Int) ≠ (zn : Int) := by omega
          rw [if_neg e]
          congr 1
          by_cases e2 : (c : Int) ∈ l.take i
          · rw [if_pos e2, if_pos (List.mem_append_left _ e2)]
          · rw [if_neg e2, if_neg fun h => (List.mem_append.mp h).elim e2 fun h => hne (by simpa using h)]
    · obtain ⟨s4, eW, x3, rfl⟩ := hP
      rw [List.length_map, List.take_length] at eW
      refine ⟨.ref W, rfl, W, _, rfl, .inl ⟨.inl (.inl eW), fun t nt => q _ t (s4.trans (same_new nt)) ?_⟩⟩
      rw [upd_same]
      unfold pressW
      rw [hl0]
def spJoin (K : PySem.W.Frag) : Sp := fun vs H Q _ => ∃ (a b : Addr) (xs ys : List Str), vs = [.ref a, .ref b] ∧ SqT K H a (xs.map V.str) ∧ SqT K H b (ys.map V.str) ∧ xs.length = ys.length ∧ ys.length ≤ 100 ∧
  ∀ H' t, Same H H' → FT H' t ((joinM xs ys).map V.str) → Q (.ref t) H'
theorem ok_join {f : Addr} {fd : FuncData} {k : Nat} (F : Fun K "joined_effect" "joined_effect" sJoin f fd) (mz : mg "zip" = none) (mt : mg "tuple" = none) : FnOk P w K mg base CX0 (k + 1) f fd ["first", "second"] (spJoin K) := by
  refine F.ok scJoin (fun vs H Q E h => ?_) (fun cdv A outer s H vs Q E hr h => ?_)
  · obtain ⟨a, b, xs, ys, rfl, _⟩ := h
    rfl
  · obtain ⟨a, b, xs, ys, rfl, ha, hb, hl, few, q⟩ := h
    refine ⟨_, pss_one (ps_ret (pe_callTy call_tupF (by rfl) mt (by decide +kernel) (pa_cons
      (pe_lc (own := [("early", 2), ("late", 3)]) (g := gTup K 2 (gCons (gName 2) (gCons (gName 3) gNil))) (tt := tYes) rfl scJoin.nd (RZ.pi_zipA (by rfl) mz (pa_cons (pv 0) (pa_cons (pv 1) pa_nil)))
        (blkOk_by (own := [("early", 2), ("late", 3)]) (N := nJoin) (sc := defScope sJoin) (by decide +kernel))
        (fun _ _ _ _ _ => pg_tup rfl (pgs_cons (pg_name (i := 2) scJoin.nd rfl (Or.inl rfl)) (pgs_cons (pg_name (i := 3) scJoin.nd rfl (Or.inl rfl)) pgs_nil)))
        (fun _ _ _ _ _ => pts_nil)
        (fun _ _ _ _ _ => pe_ifExp (pt_cmpR op_eq (pv 3) pe_str (nomark _)) (pv 2) (pv 3))) pa_nil))), ?_⟩
    refine ⟨.ref a, rfl, .ref b, rfl, a, b, _, _, rfl, .inr ⟨ha, hb, fun D nD => ?_⟩⟩
    have hjl := joinM_len hl
    refine lc_it (walk_zipT (n := ys.length) (xs := xs.map V.str) (ys := ys.map V.str) (by rw [List.length_map, List.length_map, hl, Nat.min_self])) (fun i H3 => Same H H3 ∧ H3 D = some (.lst (((joinM xs ys).take i).map V.str))) ⟨same_new nD, upd_same⟩
      (fun i H3 _ hP => ⟨same_sqT hP.1 ha, same_sqT hP.1 hb⟩) (fun i x H3 H4 hi hP hY => ?_) (fun H3 hP => ?_)
    · obtain ⟨s3, eD⟩ := hP
      obtain ⟨T, x1, x2, rfl, nT, rfl, e1, e2⟩ := hY
      obtain ⟨y1, f1, rfl⟩ := str_get e1
      obtain ⟨y2, f2, rfl⟩ := str_get e2
      have sT : Same H3 (upd H3 T (.tup [.str y1, .str y2])) := same_new nT
      have eD4 := sT _ _ eD
      have g := joinM_get f1 f2
      have fin : ∀ v : V, v = .str (if y2 = wSame then y1 else y2) → ∃ acc, (upd H3 T (.tup [.str y1, .str y2])) D = some (.lst acc) ∧ acc.length < sizeLine ∧ Same H (upd (upd H3 T (.tup [.str y1, .str y2])) D (.lst (acc ++ [v]))) ∧
          (upd (upd H3 T (.tup [.str y1, .str y2])) D (.lst (acc ++ [v]))) D = some (.lst (((joinM xs ys).take (i + 1)).map V.str)) := by
        intro v hv
        refine ⟨_, eD4, ?_, ?_, ?_⟩
        · rw [List.length_map, List.length_take]; exact small1000 (by omega)
        · intro b' o e
          rw [upd_ne (ne_of_none e nD)]
          exact sT _ _ (s3 _ _ e)
        · rw [upd_same, List.take_add_one, g, List.map_append, hv]; rfl
      refine ⟨T, _, rfl, .inl (.inl upd_same), rfl, _, _, rfl, _, _, rfl, rfl, rfl, tyes (iteT ⟨.str y2, rfl, rfl, _, rfl, ite2 (fun e => ?_) (fun e => ?_)⟩)⟩
      · have e' : y2 = wSame := V.str.inj (of_decide_eq_true e)
        exact ⟨.str y1, rfl, fin _ (by rw [if_pos e'])⟩
      · have e' : y2 ≠ wSame := fun z => e (by rw [z]; exact decide_eq_true rfl)
        exact ⟨.str y2, rfl, fin _ (by rw [if_neg e'])⟩
    · obtain ⟨s3, eD⟩ := hP
      rw [List.take_of_length_le (by rw [hjl]; exact Nat.le_refl _)] at eD
      refine ⟨D, _, rfl, .inl (.inl eD), fun t o nt ho => ?_⟩
      exact q _ t (s3.trans (same_new nt)) ⟨o, upd_same, ho⟩
def spWith (K : PySem.W.Frag) : Sp := fun vs H Q _ => ∃ (p t : Addr) (pan : List (List Int)) (xs : List Str) (b : Int), vs = [.ref p, .ref t, .int b] ∧ PanT K H p pan ∧ Good pan ∧ SqT K H t (xs.map V.str) ∧ xs.length = pan.length ∧ 0 ≤ b ∧ b < (pan.length : Int) ∧
  ∀ H' u, Same H H' → FT H' u ((joinM xs (pressW pan b)).map V.str) → Q (.ref u) H'
theorem ok_with {f fN fP fJ : Addr} {fd fdN fdP fdJ : FuncData} {k : Nat} (F : Fun K "effect_with_press" "effect_with_press" sWith f fd) (FN : Fun K "no_effect" "no_effect" sNo fN fdN) (bN : Binds K fdN ["panel"] []) (gN : mg "no_effect" = some (.ref fN))
    (FP : Fun K "press_effect" "press_effect" sPressE fP fdP) (bP : Binds K fdP ["panel", "button"] []) (gP : mg "press_effect" = some (.ref fP))
    (FJ : Fun K "joined_effect" "joined_effect" sJoin fJ fdJ) (bJ : Binds K fdJ ["first", "second"] []) (gJ : mg "joined_effect" = some (.ref fJ))
    (ml : mg "len" = none) (mli : mg "list" = none) (mt : mg "tuple" = none) (mz : mg "zip" = none) : FnOk P w K mg base CX0 (k + 3) f fd ["panel", "effect", "button"] (spWith K) := by
  have GP : FnOk P w K mg base CX0 (k + 2) fP fdP ["panel", "button"] (spPressE K) := ok_pressE FP FN bN gN ml mli mt
  have GJ : FnOk P w K mg base CX0 (k + 2) fJ fdJ ["first", "second"] (spJoin K) := ok_join FJ mz mt
  refine F.ok scWith (fun vs H Q E h => ?_) (fun cdv A outer s H vs Q E hr h => ?_)
  · obtain ⟨p, t, pan, xs, b, rfl, _⟩ := h
    rfl
  · obtain ⟨p, t, pan, xs, b, rfl, hp, hg, ht, hxl, b0, b1, q⟩ := h
    refine ⟨_, pss_one (ps_ret (pe_call GJ hr (by rfl) gJ FJ.kp bJ .nil pass0 (pa_cons (pv 1) (pa_cons (pe_call GP hr (by rfl) gP FP.kp bP .nil pass0 (pa_cons (pv 0) (pa_cons (pv 2) pa_nil))) pa_nil)))), ?_⟩
    have few := hg.few
    refine ⟨.ref t, rfl, .ref p, rfl, .int b, rfl, p, pan, b, rfl, hp, hg, b0, b1, fun H1 u s1 eu => ?_⟩
    exact ⟨t, u, xs, pressW pan b, rfl, same_sqT s1 ht, .inl (.inl eu), by rw [pressW_len, hxl], by rw [pressW_len]; omega, fun H2 v s2 ev => q _ v (s1.trans s2) ev⟩
def spEff (K : PySem.W.Frag) : Sp := fun vs H Q _ => ∃ (p r : Addr) (pan : List (List Int)) (row : List Int), vs = [.ref p, .ref r] ∧ PanT K H p pan ∧ Good pan ∧ SqT K H r (row.map V.int) ∧ (∀ x ∈ row, 0 ≤ x ∧ x < (pan.length : Int)) ∧
  ∀ H' u, Same H H' → FT H' u ((effM pan row).map V.str) → Q (.ref u) H'
theorem ok_eff {f fN fP fJ fW : Addr} {fd fdN fdP fdJ fdW : FuncData} {k : Nat} (F : Fun K "effect_of" "effect_of" sEff f fd) (FN : Fun K "no_effect" "no_effect" sNo fN fdN) (bN : Binds K fdN ["panel"] []) (gN : mg "no_effect" = some (.ref fN))
    (FP : Fun K "press_effect" "press_effect" sPressE fP fdP) (bP : Binds K fdP ["panel", "button"] []) (gP : mg "press_effect" = some (.ref fP))
    (FJ : Fun K "joined_effect" "joined_effect" sJoin fJ fdJ) (bJ : Binds K fdJ ["first", "second"] []) (gJ : mg "joined_effect" = some (.ref fJ))
    (FW : Fun K "effect_with_press" "effect_with_press" sWith fW fdW) (bW : Binds K fdW ["panel", "effect", "button"] []) (gW : mg "effect_with_press" = some (.ref fW))
    (ml : mg "len" = none) (mli : mg "list" = none) (mt : mg "tuple" = none) (mz : mg "zip" = none) : FnOk P w K mg base CX0 (k + 4) f fd ["panel", "row"] (spEff K) := by
  have GN : FnOk P w K mg base CX0 (k + 3) fN fdN ["panel"] (spNo K) := ok_no FN ml
  have GW : FnOk P w K mg base CX0 (k + 3) fW fdW ["panel", "effect", "button"] (spWith K) := ok_with FW FN bN gN FP bP gP FJ bJ gJ ml mli mt mz
  refine F.ok scEff (fun vs H Q E h => ?_) (fun cdv A outer s H vs Q E hr h => ?_)
  · obtain ⟨p, r, pan, row, rfl, _⟩ := h
    rfl
  · obtain ⟨p, r, pan, row, rfl, hp, hg, hrow, hin, q⟩ := h
    refine ⟨_, pss_cons (ps_set (i := 2) scEff.nd rfl (.inl rfl) (pe_call GN hr (by rfl) gN FN.kp bN .nil pass0 (pa_cons (pv 0) pa_nil)))
      (pss_cons (ps_for PassesOwn.never rfl (pi_tup (pv 1)) (pg_name (i := 3) scEff.nd rfl (.inl rfl))
        (pss_one (ps_set (i := 2) scEff.nd rfl (.inl rfl) (pe_call GW hr (by rfl) gW FW.kp bW .nil pass0 (pa_cons (pv 0) (pa_cons (pv 2) (pa_cons (pv 3) pa_nil)))))))
      (pss_one (ps_ret (pv 2)))), ?_⟩
    refine ⟨.ref p, rfl, p, pan, rfl, hp, hg, fun H1 t s1 et => ?_⟩
    refine ⟨.ref r, rfl, r, rfl, ⟨_, same_sqT s1 hrow⟩, ?_⟩
    refine for_tup (xs := row.map V.int) (fun i σ H2 => Same H H2 ∧ ∃ u x3, FT H2 u ((effM pan (row.take i)).map V.str) ∧ σ = [some (.ref p), some (.ref r), some (.ref u), x3])
      ⟨s1, t, _, et, rfl⟩ (fun i σ H2 _ hP => same_sqT hP.1 hrow) (fun i x σ H2 hx hP => ?_) (fun σ H2 hP => ?_)
    · obtain ⟨s2, u, x3, eu, rfl⟩ := hP
      obtain ⟨b, hb, rfl⟩ := int_get hx
      have hbr := hin b (List.mem_of_getElem? hb)
      refine ⟨.ref p, rfl, .ref u, rfl, .int b, rfl, p, u, pan, _, b, rfl, hp.same s2, hg, eu.sq, effM_len _ _, hbr.1, hbr.2, fun H3 v s3 ev => ⟨s2.trans s3, v, _, ?_, rfl⟩⟩
      rw [← eff_take hg hb hbr.1 hbr.2]; exact ev
    · obtain ⟨s2, u, x3, eu, rfl⟩ := hP
      rw [List.length_map, List.take_length] at eu
      exact ⟨.ref u, rfl, q _ u s2 eu⟩
end
end K33
namespace Pr
open PySem PySem.Spec PyProof.Rows L2
mutual
inductive Dq (K : PySem.W.Frag) (N : Addr → Prop) (H : Hp) : V → PyData → Prop
  | non : Dq K N H .non .none
  | bl (b : Bool) : Dq K N H (.bl b) (.bool b)
  | int (i : Int) : Dq K N H (.int i) (.int i)
  | str (x : Str) : Dq K N H (.str x) (.str x)
  | lst {l : Addr} {xs : List V} {ds : List PyData} : l ≠ sysModules → ¬ N l → H l = some (.lst xs) → DqAll K N H xs ds → Dq K N H (.ref l) (.list ds)
  | tup {l : Addr} {xs : List V} {ds : List PyData} : SqT K H l xs → DqAll K N H xs ds → Dq K N H (.ref l) (.tuple ds)
  | dct0 {l : Addr} : H l = some (.dK []) → Dq K N H (.ref l) (.dict [])
  | dct1 {l : Addr} {x : Str} {i : Int} : H l = some (.dK [(Sum.inr x, .int i)]) → Dq K N H (.ref l) (.dict [(.str x, .int i)])
inductive DqAll (K : PySem.W.Frag) (N : Addr → Prop) (H : Hp) : List V → List PyData → Prop
  | nil : DqAll K N H [] []
  | cons {v : V} {vs : List V} {d : PyData} {ds : List PyData} : Dq K N H v d → DqAll K N H vs ds → DqAll K N H (v :: vs) (d :: ds)
end
section
variable {K : PySem.W.Frag} {N : Addr → Prop} {a c : Addr} {H H' : Hp}
theorem DqAll.length : ∀ {vs : List V} {ds : List PyData}, DqAll K N H vs ds → vs.length = ds.length
  | _, _, .nil => rfl
  | _, _, .cons _ t => by rw [List.length_cons, List.length_cons, t.length]
theorem DqAll.append : ∀ {vs us : List V} {ds es : List PyData}, DqAll K N H vs ds → DqAll K N H us es → DqAll K N H (vs ++ us) (ds ++ es)
  | _, _, _, _, .nil, h => h
  | _, _, _, _, .cons r t, h => .cons r (t.append h)
theorem DqAll.get : ∀ {vs : List V} {ds : List PyData}, DqAll K N H vs ds → ∀ (i : Nat) (v : V), vs[i]? = some v → ∃ d, ds[i]? = some d ∧ Dq K N H v d
  | _, _, .nil, i, v, h => by simp at h
  | _, _, .cons r t, 0, v, h => by simp at h; subst h; exact ⟨_, rfl, r⟩
  | _, _, .cons r t, i + 1, v, h => by
    obtain ⟨d, h1, h2⟩ := t.get i v (by simpa using h)
    exact ⟨d, by simpa using h1, h2⟩
theorem DqAll.take : ∀ (n : Nat) {vs : List V} {ds : List PyData}, DqAll K N H vs ds → DqAll K N H (vs.take n) (ds.take n)
  | 0, _, _, _ => by simpa using DqAll.nil
  | n + 1, _, _, .nil => .nil
  | n + 1, _, _, .cons r t => .cons r (t.take n)
theorem DqAll.drop : ∀ (n : Nat) {vs : List V} {ds : List PyData}, DqAll K N H vs ds → DqAll K N H (vs.drop n) (ds.drop n)
  | 0, _, _, h => h
  | n + 1, _, _, .nil => .nil
  | n + 1, _, _, .cons r t => t.drop n
theorem DqAll.reverse : ∀ {vs : List V} {ds : List PyData}, DqAll K N H vs ds → DqAll K N H vs.reverse ds.reverse
  | _, _, .nil => .nil
  | _, _, .cons r t => by rw [List.reverse_cons, List.reverse_cons]; exact t.reverse.append (.cons r .nil)
theorem DqAll.rep (n : Nat) {vs : List V} {ds : List PyData} (h : DqAll K N H vs ds) : DqAll K N H (List.replicate n vs).flatten (List.replicate n ds).flatten := by
  induction n with
  | zero => exact .nil
  | succ n ih => rw [List.replicate_succ, List.replicate_succ, List.flatten_cons, List.flatten_cons]; exact h.append ih
mutual
theorem Dq.keep (hs : ∀ l o, ¬ N l → H l = some o → H' l = some o) (ht : ∀ l xs, SqT K H l xs → SqT K H' l xs) (hk : ∀ l kvs, H l = some (.dK kvs) → H' l = some (.dK kvs)) : ∀ (d : PyData) (v : V), Dq K N H v d → Dq K N H' v d
  | .none, _, h => by cases h; exact .non
  | .bool b, _, h => by cases h; exact .bl b
  | .int i, _, h => by cases h; exact .int i
  | .str x, _, h => by cases h; exact .str x
  | .list ds, _, h => by
    cases h with
    | lst h1 h2 e q => exact .lst h1 h2 (hs _ _ h2 e) (Dq.keepAll hs ht hk ds _ q)
  | .tuple ds, _, h => by
    cases h with
    | tup e q => exact .tup (ht _ _ e) (Dq.keepAll hs ht hk ds _ q)
  | .dict kvs, _, h => by
    cases h with
    | dct0 e => exact .dct0 (hk _ _ e)
    | dct1 e => exact .dct1 (hk _ _ e)
theorem Dq.keepAll (hs : ∀ l o, ¬ N l → H l = some o → H' l = some o) (ht : ∀ l xs, SqT K H l xs → SqT K H' l xs) (hk : ∀ l kvs, H l = some (.dK kvs) → H' l = some (.dK kvs)) : ∀ (ds : List PyData) (vs : List V), DqAll K N H vs ds → DqAll K N H' vs ds
  | [], _, h => by cases h; exact .nil
  | d :: ds, _, h => by
    cases h with
    | cons r t => exact .cons (Dq.keep hs ht hk d _ r) (Dq.keepAll hs ht hk ds _ t)
end
theorem Deck.sqT {m : Nat} (D : Deck H a c m) (b : But a c H H') {l : Addr} {xs : List V} (h : SqT K H l xs) : SqT K H' l xs := by
  rcases h with (h | ⟨o, h⟩) | h
  · exact .inl (.inl (b _ _ (D.apart h (fun _ => by intro z; cases z)).1 (D.apart h (fun _ => by intro z; cases z)).2 h))
  · exact .inl (.inr ⟨o, b _ _ (D.apart h (fun _ => by intro z; cases z)).1 (D.apart h (fun _ => by intro z; cases z)).2 h⟩)
  · exact .inr h
theorem Deck.dk {m : Nat} (D : Deck H a c m) (l : Addr) (kvs : List (Key × V)) (h : H l = some (.dK kvs)) : l ≠ a ∧ l ≠ c := D.apart h (fun _ => by intro z; cases z)
theorem apart_N (na : N a) (nc : N c) {l : Addr} (h : ¬ N l) : l ≠ a ∧ l ≠ c := ⟨fun e => h (by rw [e]; exact na), fun e => h (by rw [e]; exact nc)⟩
theorem Dq.but {m : Nat} (na : N a) (nc : N c) (D : Deck H a c m) (b : But a c H H') {v : V} {d : PyData} (h : Dq K N H v d) : Dq K N H' v d :=
  Dq.keep (fun l o h1 e => b l o (apart_N na nc h1).1 (apart_N na nc h1).2 e) (fun _ _ e => D.sqT b e) (fun l kvs e => b _ _ (D.dk l kvs e).1 (D.dk l kvs e).2 e) d v h
theorem DqAll.but {m : Nat} (na : N a) (nc : N c) (D : Deck H a c m) (b : But a c H H') {v : List V} {d : List PyData} (h : DqAll K N H v d) : DqAll K N H' v d :=
  Dq.keepAll (fun l o h1 e => b l o (apart_N na nc h1).1 (apart_N na nc h1).2 e) (fun _ _ e => D.sqT b e) (fun l kvs e => b _ _ (D.dk l kvs e).1 (D.dk l kvs e).2 e) d v h
mutual
theorem Dq.same (e : Same H H') : ∀ (d : PyData) (v : V), Dq K N H v d → Dq K N H' v d
  | .none, _, h => by cases h; exact .non
  | .bool b, _, h => by cases h; exact .bl b
  | .int i, _, h => by cases h; exact .int i
  | .str x, _, h => by cases h; exact .str x
  | .list ds, _, h => by
    cases h with
    | lst h1 h2 q r => exact .lst h1 h2 (e _ _ q) (Dq.sameAll e ds _ r)
  | .tuple ds, _, h => by
    cases h with
    | tup q r => exact .tup (same_sqT e q) (Dq.sameAll e ds _ r)
  | .dict kvs, _, h => by
    cases h with
    | dct0 q => exact .dct0 (e _ _ q)
    | dct1 q => exact .dct1 (e _ _ q)
theorem Dq.sameAll (e : Same H H') : ∀ (ds : List PyData) (vs : List V), DqAll K N H vs ds → DqAll K N H' vs ds
  | [], _, h => by cases h; exact .nil
  | d :: ds, _, h => by
    cases h with
    | cons r t => exact .cons (Dq.same e d _ r) (Dq.sameAll e ds _ t)
end
end
section
variable {X : Cx} {pins : List (Addr × Obj)} {σ : L2.St} {H : Hp} {s : Shared} {N : Addr → Prop}
mutual
theorem Dq.reads (I : Inv X pins σ H s) : ∀ (d : PyData) (v : V) (u : Value), Dq X.K N H v d → RelV v u → ∃ as, Reads s.heap u d as ∧ sysModules ∉ as
  | .none, _, _, h, r => by
    cases h; cases r; exact ⟨_, Reads.none, by simp⟩
  | .bool b, _, _, h, r => by
    cases h; cases r; exact ⟨_, Reads.bool b, by simp⟩
  | .int i, _, _, h, r => by
    cases h; obtain ⟨t, rfl⟩ := r; exact ⟨_, Reads.int i t, by simp⟩
  | .str x, _, _, h, r => by
    cases h; obtain ⟨t, rfl⟩ := r; exact ⟨_, Reads.str x t, by simp⟩
  | .list ds, _, _, h, r => by
    cases h with
    | lst h1 _ hs ha =>
      cases r
      obtain ⟨_, its, n, rv, ho⟩ := I.hok _ _ hs
      obtain ⟨as, hr, hn⟩ := Dq.readsAll I ds _ its ha rv
      exact ⟨_, Reads.list ho rfl rfl hr, by simp [hn, Ne.symm h1]⟩
  | .tuple ds, _, _, h, r => by
    cases h with
    | tup hs ha =>
      cases r
      obtain ⟨its, rv, ⟨o, ho, hc, n, hd⟩, _⟩ := I.tuple hs
      obtain ⟨as, hr, hn⟩ := Dq.readsAll I ds _ its ha rv
      exact ⟨_, Reads.tuple ho hc hd hr, hn⟩
  | .dict _, _, _, h, r => by
    cases h with
    | dct0 e =>
      cases r
      obtain ⟨_, ns, vs, kv, o, es, ep, ho, hc, hd, _, hp, _⟩ := I.hok _ _ e
      cases kv
      have he : es.toList = [] := by cases hes : es.toList with
        | nil => rfl
        | cons x y => rw [hes] at hp; cases hp
      have ns' := of_decide_eq_false (show decide (_ = sysModules) = false by simpa using ns)
      refine ⟨_, Reads.dict (kvs := []) ho hc.1 hd (by rw [he]; exact .nil) (by rw [he]; exact .nil), ?_⟩
      simp [Ne.symm ns']
    | @dct1 l x i e =>
      cases r
      obtain ⟨_, ns, vs, kv, o, es, ep, ho, hc, hd, _, hp, _⟩ := I.hok _ _ e
      cases kv with
      | @cons p q l1 l2 kq kr =>
        cases kr
        obtain ⟨h1, t, h2⟩ := kq
        obtain ⟨en, he, hk, hv⟩ : ∃ en, es.toList = [en] ∧ keyIs q.1 en.key = true ∧ en.val = q.2 := by
          cases hes : es.toList with
          | nil => rw [hes] at hp; cases hp
          | cons x y =>
            rw [hes] at hp
            cases hp with
            | cons p1 p2 p3 => cases p3; exact ⟨x, rfl, p1, p2⟩
        have h1' : (Sum.inr x : Key) = q.1 := h1
        rw [← h1'] at hk
        obtain ⟨t', hk'⟩ := Value.isStrOf_shape (show Value.isStrOf x en.key = true from hk)
        have ns' := of_decide_eq_false (show decide (_ = sysModules) = false by simpa using ns)
        refine ⟨_, Reads.dict (kvs := [(.str x, .int i)]) ho hc.1 hd (as := [] ++ []) (bs := [] ++ []) ?_ ?_, ?_⟩
        · rw [he]; show ReadsAll _ [en.key] _ _; rw [hk']; exact .cons (.str x t') .nil
        · rw [he]; show ReadsAll _ [en.val] _ _; rw [hv, h2]; exact .cons (.int i t) .nil
        · simp [Ne.symm ns']
theorem Dq.readsAll (I : Inv X pins σ H s) : ∀ (ds : List PyData) (vs : List V) (us : List Value), DqAll X.K N H vs ds → Vals vs us → ∃ as, ReadsAll s.heap us ds as ∧ sysModules ∉ as
  | [], _, _, h, r => by
    cases h; cases r; exact ⟨_, ReadsAll.nil, by simp⟩
  | d :: ds, _, _, h, r => by
    cases h with
    | cons h1 h2 =>
      cases r with
      | cons r1 r2 =>
        obtain ⟨as, q1, n1⟩ := Dq.reads I d _ _ h1 r1
        obtain ⟨bs, q2, n2⟩ := Dq.readsAll I ds _ _ h2 r2
        exact ⟨_, ReadsAll.cons q1 q2, by simp [n1, n2]⟩
end
end
structure Shq (dep n : Nat) (d : PyData) : Prop where
  sh : d.showable = true
  dp : d.depth ≤ dep
  ln : d.shown.length ≤ n
theorem Shq.mono {dep dep' n n' : Nat} {d : PyData} (h : Shq dep n d) (h1 : dep ≤ dep') (h2 : n ≤ n') : Shq dep' n' d := ⟨h.sh, Nat.le_trans h.dp h1, Nat.le_trans h.ln h2⟩
theorem Shw.q {dep n : Nat} {d : PyData} (h : Shw dep n d) : Shq dep n d := ⟨h.sh, h.dp, h.ln⟩
theorem shqAll {dep n : Nat} : ∀ {ds : List PyData}, (∀ d ∈ ds, Shq dep n d) → PyData.showableAll ds = true ∧ PyData.depthAll ds ≤ dep
  | [], _ => ⟨by simp only [PyData.showableAll], by simp [PyData.depthAll]⟩
  | d :: r, h => by
    obtain ⟨h1, h3⟩ := shqAll (ds := r) fun x hx => h x (List.mem_cons_of_mem _ hx)
    have g := h d List.mem_cons_self
    refine ⟨by simp only [PyData.showableAll, g.sh, h1, Bool.and_self], ?_⟩
    simp only [PyData.depthAll]
    exact Nat.max_le.mpr ⟨g.dp, h3⟩
theorem Shq.tuple {dep n m : Nat} {ds : List PyData} (h : ∀ d ∈ ds, Shq dep n d) (hm : ds.length ≤ m) : Shq (dep + 1) (m * (n + 2) + 3) (.tuple ds) := by
  obtain ⟨h1, h3⟩ := shqAll h
  refine ⟨by simp only [PyData.showable, h1], by simp only [PyData.depth]; omega, ?_⟩
  simp only [PyData.shown]
  rw [shownAll_map]
  have a1 := tupleText_len (ds.map PyData.shown)
  have a2 := piled_le fun d hd => (h d hd).ln
  have a3 : ds.length * (n + 2) ≤ m * (n + 2) := Nat.mul_le_mul_right _ hm
  omega
theorem Shq.list {dep n m : Nat} {ds : List PyData} (h : ∀ d ∈ ds, Shq dep n d) (hm : ds.length ≤ m) : Shq (dep + 1) (m * (n + 2) + 3) (.list ds) := by
  obtain ⟨h1, h3⟩ := shqAll h
  refine ⟨by simp only [PyData.showable, h1], by simp only [PyData.depth]; omega, ?_⟩
  simp only [PyData.shown]
  rw [shownAll_map]
  have a1 := listText_len (ds.map PyData.shown)
  have a2 := piled_le fun d hd => (h d hd).ln
  have a3 : ds.length * (n + 2) ≤ m * (n + 2) := Nat.mul_le_mul_right _ hm
  omega
def rReprQ (K : PySem.W.Frag) : List V → Hp → VK → Prop := fun xs H Q => ∃ (N : Addr → Prop) (v : V) (d : PyData), xs = [v] ∧ Dq K N H v d ∧ Shq 60 sizeLine d ∧ Q (.str d.shown) H
theorem call_reprQ {X : Cx} {k : Nat} (gd : X.A.guards = some []) (hr : Room k X.A) : CallR X (.builtin "repr") (rReprQ X.K) := by
  intro pins s σ H xs us Q I rv h
  obtain ⟨N, v, d, rfl, hd, hs, q⟩ := h
  obtain ⟨u, rfl, rx⟩ := vals1 rv
  have isref : ∀ (l : Addr), v = .ref l → wpAny (model X.prog X.w) X.A (call (.builtin "repr") [u]) (EP X pins σ Q) X.xe s := fun l e => by
    subst e
    obtain ⟨as, r, hn⟩ := Dq.reads I d _ _ hd rx
    obtain rfl : u = .ref l := rx
    exact repr_of_reads' r hs.sh (fun _ => hn) gd (by have := hr.un; have := hs.dp; omega) (fun _ _ e => e) (fun h' t tk hk => ⟨.str d.shown, H, I.kept hk, ⟨t, rfl⟩, q⟩) hs.ln
  cases hd with
  | non => obtain rfl : u = .none := rx; exact PySem.P.repr_of_none ⟨.str "None", H, I.tok _, ⟨_, rfl⟩, by simpa only [PyData.shown] using q⟩
  | bl b => obtain rfl : u = .bool b := rx; exact PySem.P.repr_of_bool ⟨.str _, H, I.tok _, ⟨_, rfl⟩, by simpa only [PyData.shown] using q⟩
  | int i =>
    obtain ⟨t, rfl⟩ := rx
    have h1 : i.natAbs.log2 < 1920 := by simpa only [PyData.showable, decide_eq_true_eq] using hs.sh
    exact PySem.P.repr_of_int h1 ⟨.str _, H, I.tok _, ⟨_, rfl⟩, by simpa only [PyData.shown] using q⟩
  | str x =>
    obtain ⟨t, rfl⟩ := rx
    have h1 : (reprText x).length ≤ sizeLine := by simpa only [PyData.shown] using hs.ln
    exact PySem.P.repr_of_str ⟨.str _, H, I.tok _, ⟨_, rfl⟩, by simpa only [PyData.shown] using q⟩ h1
  | lst _ _ _ _ => exact isref _ rfl
  | tup _ _ => exact isref _ rfl
  | dct0 _ => exact isref _ rfl
  | dct1 _ => exact isref _ rfl
end Pr
namespace Pr
open PySem PySem.Spec PyProof.Rows L2
section
variable {X : Cx} {es : List Expr} {t : TA} {pos : Pos}
def rListG (K : PySem.W.Frag) : List V → Hp → VK → Prop := fun xs H Q => ∃ p ys, xs = [.ref p] ∧ SqT K H p ys ∧ ∀ l, H l = none → l ≠ sysModules → Q (.ref l) (upd H l (.lst ys))
theorem call_listG : CallR X (.type "list") (rListG X.K) := by
  intro pins s σ H xs us Q I r h
  obtain ⟨p, ys, rfl, hq, q⟩ := h
  obtain ⟨u, rfl, rx⟩ := vals1 r
  cases rx
  obtain ⟨its, r', ⟨o, ho, hc, n, hd⟩, hz⟩ := I.tuple hq
  have hlen := r'.length
  refine call_list_seq p (.inr rfl) ho hc hd (fun h' c' kp e => ?_) (by simp only [List.size_toArray] <;> omega)
  exact ⟨.ref s.heap.objs.size, _, I.laid (t' := s.toks) kp (Nat.le_refl _) (show ObjOk X.prog X.w _ h' _ (.lst ys) from ⟨hz, its, c', r', e⟩), rfl, q _ (I.hok.fresh (Nat.le_refl _)) (Nat.ne_of_gt I.big)⟩
end
end Pr
namespace Pr
open PySem PySem.Spec PyProof.Rows L2
end Pr
namespace Pr
open PySem PySem.Spec PyProof.Rows L2
end Pr
namespace Pr
open PySem PySem.Spec PyProof.Rows L2
mutual
def lf : PyData → Bool
  | .list _ => false
  | .dict _ => false
  | .tuple ds => lfAll ds
  | .none => true
  | .bool _ => true
  | .int _ => true
  | .str _ => true
def lfAll : List PyData → Bool
  | [] => true
  | d :: r => lf d && lfAll r
end
theorem lfAll_of {ds : List PyData} (h : ∀ d ∈ ds, lf d = true) : lfAll ds = true := by
  induction ds with
  | nil => simp [lfAll]
  | cons d r ih => simp [lfAll, h d List.mem_cons_self, ih fun x hx => h x (List.mem_cons_of_mem _ hx)]
theorem lf_tup {ds : List PyData} (h : ∀ d ∈ ds, lf d = true) : lf (.tuple ds) = true := by simp only [lf]; exact lfAll_of h
theorem lf_ints (l : List Int) : lf (dInts l) = true := lf_tup fun d hd => by
  obtain ⟨x, _, rfl⟩ := List.mem_map.mp hd
  simp only [lf]
theorem lf_pan (p : List (List Int)) : lf (dPan p) = true := lf_tup fun d hd => by
  obtain ⟨x, _, rfl⟩ := List.mem_map.mp hd
  exact lf_ints x
theorem lf_strs (l : List Str) : lf (dStrs l) = true := lf_tup fun d hd => by
  obtain ⟨x, _, rfl⟩ := List.mem_map.mp hd
  simp only [lf]
def Kp (H H' : Hp) : Prop := (∀ b xs, H b = some (.tup xs) → H' b = some (.tup xs)) ∧ ∀ b o u, H b = some (.frz o u) → H' b = some (.frz o u)
theorem Kp.refl (H : Hp) : Kp H H := ⟨fun _ _ h => h, fun _ _ _ h => h⟩
theorem Kp.trans {H H1 H2 : Hp} (x : Kp H H1) (y : Kp H1 H2) : Kp H H2 := ⟨fun b xs h => y.1 b xs (x.1 b xs h), fun b o u h => y.2 b o u (x.2 b o u h)⟩
theorem Kp.of {H H' : Hp} (x : Same H H') : Kp H H' := ⟨fun b xs h => x b _ h, fun b o u h => x b _ h⟩
theorem Kp.upd {H : Hp} {D : Addr} {xs : List V} {o : HO} (h : H D = some (.lst xs)) : Kp H (upd H D o) :=
  ⟨fun b ys e => by rw [upd_ne (ne_of e h (by intro z; cases z))]; exact e, fun b q u e => by rw [upd_ne (ne_of e h (by intro z; cases z))]; exact e⟩
theorem Kp.but {H H' : Hp} {a c : Addr} {m : Nat} (d : Deck H a c m) (b : But a c H H') : Kp H H' :=
  ⟨fun p xs e => let q := d.apart e (fun _ => by intro z; cases z); b _ _ q.1 q.2 e, fun p o u e => let q := d.apart e (fun _ => by intro z; cases z); b _ _ q.1 q.2 e⟩
theorem FT.kp {H H' : Hp} {a : Addr} {xs : List V} (e : Kp H H') (h : FT H a xs) : FT H' a xs := let ⟨o, q, z⟩ := h; ⟨o, e.2 _ _ _ q, z⟩
theorem PanAt.kp {H H' : Hp} {p : Addr} {pan : List (List Int)} (e : Kp H H') (h : PanAt H p pan) : PanAt H' p pan :=
  let ⟨qs, h1, h2⟩ := h; ⟨qs, h1.kp e, h2.mono fun _ _ x => x.kp e⟩
section
variable {K : PySem.W.Frag} {H H' : Hp}
theorem sqT_kp {a : Addr} {xs : List V} (e : Kp H H') (h : SqT K H a xs) : SqT K H' a xs := by
  rcases h with (h | ⟨o, h⟩) | h
  · exact .inl (.inl (e.1 _ _ h))
  · exact .inl (.inr ⟨o, e.2 _ _ _ h⟩)
  · exact .inr h
mutual
theorem dp_same (e : Same H H') : ∀ (d : PyData) (v : V), Dp K H v d → Dp K H' v d
  | .none, _, h => by cases h; exact .non
  | .bool _, _, h => by cases h; exact .bl _
  | .int _, _, h => by cases h; exact .int _
  | .str _, _, h => by cases h; exact .str _
  | .list ds, _, h => by cases h with | lst q r => exact .lst (e.seq q) (dpAll_same e ds _ r)
  | .tuple ds, _, h => by cases h with | tup q r => exact .tup (same_sqT e q) (dpAll_same e ds _ r)
  | .dict _, _, h => by cases h
theorem dpAll_same (e : Same H H') : ∀ (ds : List PyData) (vs : List V), DpAll K H vs ds → DpAll K H' vs ds
  | [], _, h => by cases h; exact .nil
  | d :: r, _, h => by cases h with | cons x y => exact .cons (dp_same e d _ x) (dpAll_same e r _ y)
end
mutual
theorem dp_kp (e : Kp H H') : ∀ (d : PyData) (v : V), lf d = true → Dp K H v d → Dp K H' v d
  | .none, _, _, h => by cases h; exact .non
  | .bool _, _, _, h => by cases h; exact .bl _
  | .int _, _, _, h => by cases h; exact .int _
  | .str _, _, _, h => by cases h; exact .str _
  | .list ds, _, z, h => by simp [lf] at z
  | .tuple ds, _, z, h => by cases h with | tup q r => exact .tup (sqT_kp e q) (dpAll_kp e ds _ (by simpa [lf] using z) r)
  | .dict _, _, _, h => by cases h
theorem dpAll_kp (e : Kp H H') : ∀ (ds : List PyData) (vs : List V), lfAll ds = true → DpAll K H vs ds → DpAll K H' vs ds
  | [], _, _, h => by cases h; exact .nil
  | d :: r, _, z, h => by
    simp only [lfAll, Bool.and_eq_true] at z
    cases h with | cons x y => exact .cons (dp_kp e d _ z.1 x) (dpAll_kp e r _ z.2 y)
end
theorem _root_.L2.Dp.sm {d : PyData} {v : V} (h : Dp K H v d) (e : Same H H') : Dp K H' v d := dp_same e d v h
theorem _root_.L2.DpAll.sm {ds : List PyData} {vs : List V} (h : DpAll K H vs ds) (e : Same H H') : DpAll K H' vs ds := dpAll_same e ds vs h
theorem _root_.L2.Dp.kp {d : PyData} {v : V} (h : Dp K H v d) (e : Kp H H') (z : lf d = true := by first | exact lf_pan _ | exact lf_ints _ | exact lf_strs _ | rfl | assumption) : Dp K H' v d := dp_kp e d v z h
theorem _root_.L2.DpAll.length {ds : List PyData} : ∀ {vs : List V}, DpAll K H vs ds → vs.length = ds.length := by
  induction ds with
  | nil => intro vs h; cases h; rfl
  | cons d r ih => intro vs h; cases h with | cons x y => simp [ih y]
theorem _root_.L2.DpAll.get {ds : List PyData} : ∀ {vs : List V}, DpAll K H vs ds → ∀ (i : Nat) (d : PyData), ds[i]? = some d → ∃ v, vs[i]? = some v ∧ Dp K H v d := by
  induction ds with
  | nil => intro vs h i d e; simp at e
  | cons d' r ih =>
    intro vs h i d e
    cases h with
    | cons x y =>
      cases i with
      | zero => simp at e; subst e; exact ⟨_, rfl, x⟩
      | succ i => obtain ⟨v, h1, h2⟩ := ih y i d (by simpa using e); exact ⟨v, by simpa using h1, h2⟩
theorem _root_.L2.DpAll.append {d1 d2 : List PyData} : ∀ {v1 v2 : List V}, DpAll K H v1 d1 → DpAll K H v2 d2 → DpAll K H (v1 ++ v2) (d1 ++ d2) := by
  induction d1 with
  | nil => intro v1 v2 h g; cases h; exact g
  | cons d r ih => intro v1 v2 h g; cases h with | cons x y => exact .cons x (ih y g)
theorem _root_.L2.DpAll.take {ds : List PyData} : ∀ {vs : List V} (n : Nat), DpAll K H vs ds → DpAll K H (vs.take n) (ds.take n) := by
  induction ds with
  | nil => intro vs n h; cases h; simp; exact .nil
  | cons d r ih =>
    intro vs n h
    cases h with
    | cons x y =>
      cases n with
      | zero => simp; exact .nil
      | succ n => simpa using DpAll.cons x (ih n y)
theorem _root_.L2.DpAll.drop {ds : List PyData} : ∀ {vs : List V} (n : Nat), DpAll K H vs ds → DpAll K H (vs.drop n) (ds.drop n) := by
  induction ds with
  | nil => intro vs n h; cases h; simp; exact .nil
  | cons d r ih =>
    intro vs n h
    cases h with
    | cons x y =>
      cases n with
      | zero => simpa using DpAll.cons x y
      | succ n => simpa using ih n y
theorem _root_.L2.DpAll.reverse {ds : List PyData} : ∀ {vs : List V}, DpAll K H vs ds → DpAll K H vs.reverse ds.reverse := by
  induction ds with
  | nil => intro vs h; cases h; exact .nil
  | cons d r ih =>
    intro vs h
    cases h with
    | cons x y => rw [List.reverse_cons, List.reverse_cons]; exact DpAll.append (ih y) (.cons x .nil)
theorem dpAll_intsV : ∀ {l : List Int} {vs : List V}, DpAll K H vs (l.map PyData.int) → vs = l.map V.int
  | [], _, h => by cases h; rfl
  | x :: r, _, h => by
    rw [List.map_cons] at h
    cases h with | cons a b => cases a; rw [dpAll_intsV b]; rfl
theorem _root_.L2.Dp.tupI {v : V} {ds : List PyData} (h : Dp K H v (.tuple ds)) : ∃ a xs, v = .ref a ∧ SqT K H a xs ∧ DpAll K H xs ds := by cases h with | tup q r => exact ⟨_, _, rfl, q, r⟩
theorem _root_.L2.Dp.lstI {v : V} {ds : List PyData} (h : Dp K H v (.list ds)) : ∃ a xs, v = .ref a ∧ SqL K H a xs ∧ DpAll K H xs ds := by cases h with | lst q r => exact ⟨_, _, rfl, q, r⟩
theorem _root_.L2.Dp.intsI {v : V} {l : List Int} (h : Dp K H v (dInts l)) : ∃ a, v = .ref a ∧ SqT K H a (l.map V.int) := by
  obtain ⟨a, xs, rfl, q, r⟩ := Dp.tupI h
  rw [dpAll_intsV r] at q
  exact ⟨a, rfl, q⟩
end
section
variable (K : PySem.W.Frag)
def Gv (t : TE) (σ : L2.St) (H : Hp) (d : PyData) : Prop := ∀ H1, Same H H1 → ∀ Q : VK, (∀ v H', Same H1 H' → Dp K H' v d → Q v H') → t σ H1 Q
/-- a list that is tracked -/
def GvL (t : TE) (σ : L2.St) (H : Hp) (ds : List PyData) : Prop := ∀ H1, Same H H1 → ∀ Q : VK, (∀ a vs H', Same H1 H' → H' a = some (.lst vs) → DpAll K H' vs ds → Q (.ref a) H') → t σ H1 Q
/-- a new list -/
def GvN (t : TE) (σ : L2.St) (H : Hp) (ds : List PyData) : Prop := ∀ H1, Same H H1 → ∀ Q : VK, (∀ a vs H', Same H1 H' → H1 a = none → H' a = some (.lst vs) → DpAll K H' vs ds → Q (.ref a) H') → t σ H1 Q
def GvA (t : TA) (σ : L2.St) (H : Hp) (ds : List PyData) : Prop := ∀ H1, Same H H1 → ∀ Q : List V → Hp → Prop, (∀ vs H', Same H1 H' → DpAll K H' vs ds → Q vs H') → t σ H1 Q
def GvT (t : TT) (σ : L2.St) (H : Hp) (b : Bool) : Prop := ∀ H1, Same H H1 → ∀ Q : Bool → Hp → Prop, (∀ H', Same H1 H' → Q b H') → t σ H1 Q
/-- what a walk gives, while what it goes over stays as R says -/
def GvI (R : Hp → Hp → Prop) (wi : TI) (σ : L2.St) (H : Hp) (ds : List PyData) : Prop := ∀ H1, Same H H1 → ∀ Q : It → Hp → Prop,
  (∀ J H', Same H1 H' → Walk J ds.length (R H') (fun i h x h' => Same h h' ∧ ∃ d, ds[i]? = some d ∧ Dp K h' x d) → Q J H') → wi σ H1 Q
end
section
variable {K : PySem.W.Frag} {σ : L2.St} {H H' : Hp} {t ta tb : TE} {d e : PyData} {ds : List PyData} {ta' : TA} {tt uu : TT} {b c : Bool}
theorem GvN.gl (h : GvN K t σ H ds) : GvL K t σ H ds := fun H1 s Q q => h H1 s Q fun a vs H' s' _ e dv => q a vs H' s' e dv
theorem GvN.at (h : GvN K t σ H ds) {Q : VK} (q : ∀ a vs H', Same H H' → H a = none → H' a = some (.lst vs) → DpAll K H' vs ds → Q (.ref a) H') : t σ H Q := h H (Same.refl _) Q q
theorem GvN.to {es : List PyData} (h : GvN K t σ H ds) (q : ds = es) : GvN K t σ H es := q ▸ h
theorem GvN.gv (h : GvN K t σ H ds) : Gv K t σ H (.list ds) := fun H1 s Q q => h H1 s Q fun a vs H' s' _ e dv => q _ H' s' (.lst (.inl (.inl e)) dv)
theorem GvL.gv (h : GvL K t σ H ds) : Gv K t σ H (.list ds) := fun H1 s Q q => h H1 s Q fun a vs H' s' e dv => q _ H' s' (.lst (.inl (.inl e)) dv)
theorem GvL.at (h : GvL K t σ H ds) {Q : VK} (q : ∀ a vs H', Same H H' → H' a = some (.lst vs) → DpAll K H' vs ds → Q (.ref a) H') : t σ H Q := h H (Same.refl _) Q q
theorem GvL.to {es : List PyData} (h : GvL K t σ H ds) (q : ds = es) : GvL K t σ H es := q ▸ h
theorem gl_var {i : Nat} {a : Addr} {vs : List V} (h : σ[i]? = some (some (.ref a))) (e : H a = some (.lst vs)) (hd : DpAll K H vs ds) : GvL K (tVar i) σ H ds := fun H1 s Q q => ⟨_, h, q a vs H1 (Same.refl _) (s _ _ e) (hd.sm s)⟩
theorem Gv.at (h : Gv K t σ H d) {Q : VK} (q : ∀ v H', Same H H' → Dp K H' v d → Q v H') : t σ H Q := h H (Same.refl _) Q q
theorem Gv.sm (h : Gv K t σ H d) (s : Same H H') : Gv K t σ H' d := fun H1 s1 => h H1 (s.trans s1)
theorem Gv.to (h : Gv K t σ H d) (q : d = e) : Gv K t σ H e := q ▸ h
theorem GvT.at (h : GvT tt σ H b) {Q : Bool → Hp → Prop} (q : ∀ H', Same H H' → Q b H') : tt σ H Q := h H (Same.refl _) Q q
theorem GvT.to (h : GvT tt σ H b) (q : b = c) : GvT tt σ H c := q ▸ h
theorem gv_var {i : Nat} {v : V} (h : σ[i]? = some (some v)) (hd : Dp K H v d) : Gv K (tVar i) σ H d := fun H1 s Q q => ⟨v, h, q v H1 (Same.refl _) (hd.sm s)⟩
theorem gv_int {i : Int} : Gv K (tC (.int i)) σ H (.int i) := fun H1 _ Q q => q _ H1 (Same.refl _) (.int i)
theorem gv_bl {x : Bool} : Gv K (tC (.bl x)) σ H (.bool x) := fun H1 _ Q q => q _ H1 (Same.refl _) (.bl x)
theorem gva_nil : GvA K tNil σ H [] := fun H1 _ Q q => q [] H1 (Same.refl _) .nil
theorem gva_cons {tr : TA} (h : Gv K t σ H d) (g : GvA K tr σ H ds) : GvA K (tCons t tr) σ H (d :: ds) := fun H1 s Q q =>
  h H1 s _ fun v H2 s2 d2 => g H2 (s.trans s2) _ fun vs H3 s3 d3 => q _ H3 (s2.trans s3) (.cons (d2.sm s3) d3)
theorem gva_starT {es : List PyData} {tr : TA} (h : Gv K t σ H (.tuple es)) (g : GvA K tr σ H ds) : GvA K (StX.tStar K t tr) σ H (es ++ ds) := fun H1 s Q q =>
  h H1 s _ fun v H2 s2 d2 => by
    obtain ⟨a, xs, rfl, hq, hr⟩ := d2.tupI
    exact ⟨a, xs, rfl, .inl hq, g H2 (s.trans s2) _ fun vs H3 s3 d3 => q _ H3 (s2.trans s3) (DpAll.append (hr.sm s3) d3)⟩
theorem small5 {n : Nat} (h : n ≤ 100000) : n < sizeLine := Nat.lt_of_le_of_lt h (by decide)
theorem gv_tup (h : GvA K ta' σ H ds) (hl : ds.length ≤ sizeLine := by first | decide | exact Nat.le_of_lt (small5 (by simp only [List.length_cons, List.length_nil]; decide))) : Gv K (tTup ta') σ H (.tuple ds) := fun H1 s Q q => h H1 s _ fun vs H2 s2 d2 =>
  ⟨by rw [d2.length]; exact hl, fun p np => q _ _ (s2.trans (same_new np)) (.tup (.inl (.inl upd_same)) (d2.sm (same_new np)))⟩
theorem gn_lst (h : GvA K ta' σ H ds) (hl : ds.length ≤ sizeLine := by first | decide | exact Nat.le_of_lt (small5 (by simp only [List.length_cons, List.length_nil]; decide))) : GvN K (tLst ta') σ H ds := fun H1 s Q q => h H1 s _ fun vs H2 s2 d2 =>
  ⟨by rw [d2.length]; exact hl, fun p np => q _ _ _ (s2.trans (same_new np)) (s2.free np) upd_same (d2.sm (same_new np))⟩
theorem gl_lst (h : GvA K ta' σ H ds) (hl : ds.length ≤ sizeLine := by first | decide | exact Nat.le_of_lt (small5 (by simp only [List.length_cons, List.length_nil]; decide))) : GvL K (tLst ta') σ H ds := (gn_lst h hl).gl
theorem gv_lst (h : GvA K ta' σ H ds) (hl : ds.length ≤ sizeLine := by first | decide | exact Nat.le_of_lt (small5 (by simp only [List.length_cons, List.length_nil]; decide))) : Gv K (tLst ta') σ H (.list ds) := (gl_lst h hl).gv
theorem gv_op2 {r : R2} (ha : Gv K ta σ H d) (hb : Gv K tb σ H e) {f : PyData} (hr : ∀ x y H1 Q, Same H H1 → Dp K H1 x d → Dp K H1 y e → (∀ v H', Same H1 H' → Dp K H' v f → Q v H') → r x y H1 Q) : Gv K (tOp r ta tb) σ H f := fun H1 s Q q =>
  ha H1 s _ fun x H2 s2 d2 => hb H2 (s.trans s2) _ fun y H3 s3 d3 => hr x y H3 Q ((s.trans s2).trans s3) (d2.sm s3) d3 fun v H4 s4 d4 => q v H4 ((s2.trans s3).trans s4) d4
theorem gv_I0 {g : Int → Int → V} {i j : Int} (ha : Gv K ta σ H (.int i)) (hb : Gv K tb σ H (.int j)) {f : PyData} (hf : ∀ H, Dp K H (g i j) f) : Gv K (tOp (rI0 g) ta tb) σ H f :=
  gv_op2 ha hb fun x y H1 Q s hx hy q => by cases hx; cases hy; exact ⟨i, j, rfl, rfl, q _ _ (Same.refl _) (hf _)⟩
theorem gv_add {i j : Int} (ha : Gv K ta σ H (.int i)) (hb : Gv K tb σ H (.int j)) : Gv K (tOp (rI0 fun i j => V.int (i + j)) ta tb) σ H (.int (i + j)) := gv_I0 ha hb fun _ => .int _
theorem gv_neI {i j : Int} (ha : Gv K ta σ H (.int i)) (hb : Gv K tb σ H (.int j)) : Gv K (tOp rNe ta tb) σ H (.bool (!decide (i = j))) :=
  gv_op2 ha hb fun x y H1 Q s hx hy q => by
    cases hx; cases hy
    refine ⟨rfl, q _ _ (Same.refl _) ?_⟩
    rw [show decide (V.int i = V.int j) = decide (i = j) from decide_eq_decide.mpr ⟨fun h => V.int.inj h, fun h => by rw [h]⟩]
    exact .bl _
theorem gv_neS {i j : Str} (ha : Gv K ta σ H (.str i)) (hb : Gv K tb σ H (.str j)) : Gv K (tOp rNe ta tb) σ H (.bool (!decide (i = j))) :=
  gv_op2 ha hb fun x y H1 Q s hx hy q => by
    cases hx; cases hy
    refine ⟨rfl, q _ _ (Same.refl _) ?_⟩
    rw [show decide (V.str i = V.str j) = decide (i = j) from decide_eq_decide.mpr ⟨fun h => V.str.inj h, fun h => by rw [h]⟩]
    exact .bl _
theorem gv_neD (ha : Gv K ta σ H d) (hb : Gv K tb σ H e) (h1 : SeqAt.shaped d = true) (h2 : SeqAt.shaped e = true) : Gv K (tOp (rNeD K) ta tb) σ H (.bool (!PyData.eqv d e)) :=
  gv_op2 ha hb fun x y H1 Q s hx hy q => ⟨d, e, hx, hy, h1, h2, q _ _ (Same.refl _) (.bl _)⟩
theorem inV_intsG {b : Int} (l : List Int) : inV (.int b) (l.map V.int) = decide (b ∈ l) := by
  unfold inV
  rw [List.any_map, Bool.eq_iff_iff, List.any_eq_true, decide_eq_true_eq]
  constructor
  · rintro ⟨x, hx, e⟩
    have e' : x = b := by simpa [eqV] using e
    rw [← e']; exact hx
  · intro h
    exact ⟨b, h, by simp [eqV]⟩
theorem flat_intsG : ∀ l : List Int, (l.map V.int).all flatV = true
  | [] => rfl
  | x :: r => by rw [List.map_cons, List.all_cons, flat_intsG r]; rfl
theorem gv_inT {neg : Bool} {i : Int} {l : List Int} (ha : Gv K ta σ H (.int i)) (hb : Gv K tb σ H (dInts l)) : Gv K (tOp (rIn K neg) ta tb) σ H (.bool (if neg then !decide (i ∈ l) else decide (i ∈ l))) :=
  gv_op2 ha hb fun x y H1 Q s hx hy q => by
    cases hx
    obtain ⟨a, rfl, hq⟩ := hy.intsI
    refine ⟨a, _, rfl, .inr hq, rfl, flat_intsG l, ?_⟩
    rw [inV_intsG]
    exact q _ _ (Same.refl _) (.bl _)
theorem gv_ixT {i : Int} {j : Nat} (ha : Gv K ta σ H (.tuple ds)) (hb : Gv K tb σ H (.int i)) (hi : i = (j : Int)) (hj : ds[j]? = some d) : Gv K (tOp (rIxT K) ta tb) σ H d :=
  gv_op2 ha hb fun x y H1 Q s hx hy q => by
    cases hy
    obtain ⟨a, xs, rfl, hq, hr⟩ := hx.tupI
    obtain ⟨v, hv, dv⟩ := hr.get j d hj
    exact ⟨a, xs, i, v, rfl, rfl, hq, by rw [hi]; exact atI_nat hv, q _ _ (Same.refl _) dv⟩
theorem gv_pan {i : Int} {pan : List (List Int)} (ha : Gv K ta σ H (dPan pan)) (hb : Gv K tb σ H (.int i)) (h0 : 0 ≤ i) (h1 : i < (pan.length : Int)) : Gv K (tOp (rIxT K) ta tb) σ H (dInts (pan.getD i.toNat [])) := by
  refine gv_ixT (j := i.toNat) ha hb (by omega) ?_
  rw [List.getElem?_map, List.getD_eq_getElem?_getD, List.getElem?_eq_getElem (by omega)]; rfl
theorem gv_cb {r : List V → Hp → VK → Prop} (h : GvA K ta' σ H ds) {f : PyData} (hr : ∀ vs H1 Q, Same H H1 → DpAll K H1 vs ds → (∀ v H', Same H1 H' → Dp K H' v f → Q v H') → r vs H1 Q) : Gv K (tCB r ta') σ H f := fun H1 s Q q =>
  h H1 s _ fun vs H2 s2 d2 => hr vs H2 Q (s.trans s2) d2 fun v H3 s3 d3 => q v H3 (s2.trans s3) d3
theorem dpAll1 {vs : List V} (h : DpAll K H vs [d]) : ∃ v, vs = [v] ∧ Dp K H v d := by
  cases h with | cons x y => cases y; exact ⟨_, rfl, x⟩
theorem dpAll2 {vs : List V} (h : DpAll K H vs [d, e]) : ∃ v u, vs = [v, u] ∧ Dp K H v d ∧ Dp K H u e := by
  cases h with | cons x y => obtain ⟨u, rfl, z⟩ := dpAll1 y; exact ⟨_, _, rfl, x, z⟩
theorem dpAll3 {f : PyData} {vs : List V} (h : DpAll K H vs [d, e, f]) : ∃ v u w, vs = [v, u, w] ∧ Dp K H v d ∧ Dp K H u e ∧ Dp K H w f := by
  cases h with | cons x y => obtain ⟨u, w, rfl, z⟩ := dpAll2 y; exact ⟨_, _, _, rfl, x, z⟩
def rLenG (K : PySem.W.Frag) : List V → Hp → VK → Prop := fun xs H Q => ∃ p ys, xs = [V.ref p] ∧ (SqL K H p ys ∨ SqT K H p ys) ∧ Q (.int ys.length) H
theorem cr_lenG {X : Cx} : CallR X (.builtin "len") (rLenG X.K) := call_len_seq
def rTupG (K : PySem.W.Frag) : List V → Hp → VK → Prop := fun xs H Q => ∃ p ys, xs = [V.ref p] ∧ ((SqL K H p ys ∧ ∀ l, H l = none → Q (.ref l) (upd H l (.tup ys))) ∨ (SqT K H p ys ∧ Q (.ref p) H))
theorem cr_tupG {X : Cx} : CallR X (.type "tuple") (rTupG X.K) := call_tuple_of
theorem gv_lenT (h : Gv K t σ H (.tuple ds)) : Gv K (tCB (rLenG K) (tCons t tNil)) σ H (.int ds.length) :=
  gv_cb (gva_cons h gva_nil) fun vs H1 Q s hd q => by
    obtain ⟨v, rfl, hv⟩ := dpAll1 hd
    obtain ⟨a, xs, rfl, hq, hr⟩ := hv.tupI
    exact ⟨a, xs, rfl, .inr hq, by rw [hr.length]; exact q _ _ (Same.refl _) (.int _)⟩
theorem gv_lenL (h : Gv K t σ H (.list ds)) : Gv K (tCB (rLenG K) (tCons t tNil)) σ H (.int ds.length) :=
  gv_cb (gva_cons h gva_nil) fun vs H1 Q s hd q => by
    obtain ⟨v, rfl, hv⟩ := dpAll1 hd
    obtain ⟨a, xs, rfl, hq, hr⟩ := hv.lstI
    exact ⟨a, xs, rfl, .inl hq, by rw [hr.length]; exact q _ _ (Same.refl _) (.int _)⟩
theorem gv_tupL (h : Gv K t σ H (.list ds)) : Gv K (tCB (rTupG K) (tCons t tNil)) σ H (.tuple ds) :=
  gv_cb (gva_cons h gva_nil) fun vs H1 Q s hd q => by
    obtain ⟨v, rfl, hv⟩ := dpAll1 hd
    obtain ⟨a, xs, rfl, hq, hr⟩ := hv.lstI
    exact ⟨a, xs, rfl, .inl ⟨hq, fun l nl => q _ _ (same_new nl) (.tup (.inl (.inl upd_same)) (hr.sm (same_new nl)))⟩⟩
theorem gn_lstT (h : Gv K t σ H (.tuple ds)) : GvN K (tCB (rListG K) (tCons t tNil)) σ H ds := fun H1 s Q q => h H1 s _ fun v H2 s2 d2 => by
    obtain ⟨a, xs, rfl, hq, hr⟩ := d2.tupI
    exact ⟨a, xs, rfl, hq, fun l nl _ => q _ _ _ (s2.trans (same_new nl)) (s2.free nl) upd_same (hr.sm (same_new nl))⟩
/-- the ascending one of the same numbers -/
def srt (l : List Int) : List Int := l.mergeSort (fun a b => decide (a ≤ b))
theorem srt_perm (l : List Int) : (srt l).Perm l := List.mergeSort_perm _ _
theorem srt_up (l : List Int) : (srt l).Pairwise (· ≤ ·) := by
  have := List.pairwise_mergeSort (le := fun a b : Int => decide (a ≤ b)) (fun a b c h1 h2 => by simp at *; omega) (fun a b => by simp; omega) l
  exact this.imp fun h => by simpa using h
theorem perm_up_eq : ∀ {l1 l2 : List Int}, l1.Perm l2 → l1.Pairwise (· ≤ ·) → l2.Pairwise (· ≤ ·) → l1 = l2 := by
  intro l1
  induction l1 with
  | nil => intro l2 h _ _; exact (List.nil_perm.mp h).symm
  | cons x r ih =>
    intro l2 h h1 h2
    cases l2 with
    | nil => exact absurd h.symm (by simp)
    | cons y s =>
      rw [List.pairwise_cons] at h1 h2
      have hxy : x = y := by
        have hx : x ∈ y :: s := h.subset List.mem_cons_self
        have hy : y ∈ x :: r := h.symm.subset List.mem_cons_self
        rcases List.mem_cons.mp hx with e | e
        · exact e
        · rcases List.mem_cons.mp hy with e' | e'
          · exact e'.symm
          · have := h1.1 y e'
            have := h2.1 x e
            omega
      subst hxy
      rw [ih (List.Perm.cons_inv h) h1.2 h2.2]
theorem srt_eq {l m : List Int} (h : m.Perm l) (u : m.Pairwise (· ≤ ·)) : srt l = m := perm_up_eq ((srt_perm l).trans h.symm) (srt_up l) u
theorem gv_sortL {l : List Int} (h : Gv K t σ H (.list (l.map PyData.int))) (hl : l.length < 64) : Gv K (tCB (rSorted K) (tCons t tNil)) σ H (.list ((srt l).map PyData.int)) :=
  gv_cb (gva_cons h gva_nil) fun vs H1 Q s hd q => by
    obtain ⟨v, rfl, hv⟩ := dpAll1 hd
    obtain ⟨a, xs, rfl, hq, hr⟩ := hv.lstI
    rw [dpAll_intsV hr] at hq
    refine ⟨a, l, rfl, hq, hl, fun ns' p hp hu np => ?_⟩
    rw [← srt_eq hp hu]
    exact q _ _ (same_new np) (.lst (.inl (.inl upd_same)) (dpAll_ints _))
theorem gvt_test (h : Gv K t σ H (.bool b)) : GvT (tTest t) σ H b := fun H1 s Q q => h H1 s _ fun v H2 s2 d2 => by cases d2; exact ⟨b, rfl, q _ s2⟩
theorem gvt_b (h : Gv K t σ H (.bool b)) : GvT (tB t) σ H b := fun H1 s Q q => h H1 s _ fun v H2 s2 d2 => by cases d2; exact ⟨b, rfl, q _ s2⟩
theorem gvt_yes : GvT tYes σ H true := fun H1 s Q q => q H1 (Same.refl _)
theorem gvt_and (h : GvT tt σ H b) (g : ∀ H', Same H H' → b = true → GvT uu σ H' c) : GvT (tAnd tt uu) σ H (b && c) := fun H1 s Q q => h H1 s _ fun H2 s2 => by
  cases b with
  | true => rw [if_pos rfl]; exact g H2 (s.trans s2) rfl H2 (Same.refl _) _ fun H3 s3 => q _ (s2.trans s3)
  | false => rw [if_neg Bool.false_ne_true]; exact q _ s2
theorem gv_if (h : GvT tt σ H b) (h1 : b = true → Gv K ta σ H d) (h2 : b = false → Gv K tb σ H e) : Gv K (tIf tt ta tb) σ H (if b then d else e) := fun H1 s Q q => h H1 s _ fun H2 s2 => by
  cases b with
  | true => rw [if_pos rfl]; exact h1 rfl H2 (s.trans s2) _ fun v H3 s3 d3 => q v H3 (s2.trans s3) d3
  | false => rw [if_neg Bool.false_ne_true]; exact h2 rfl H2 (s.trans s2) _ fun v H3 s3 d3 => q v H3 (s2.trans s3) d3
/-- a def that only computes -/
def spP (K : PySem.W.Frag) {α : Type} (δ : α → List PyData) (C : α → Prop) (f : α → PyData) : Sp := fun vs H Q _ => ∃ a, DpAll K H vs (δ a) ∧ C a ∧ ∀ v H', Same H H' → Dp K H' v (f a) → Q v H'
theorem gv_call {α : Type} {δ : α → List PyData} {C : α → Prop} {f : α → PyData} {E : XK} (a : α) (h : GvA K ta' σ H (δ a)) (hc : C a) : Gv K (tCall (spP K δ C f) [] E ta') σ H (f a) := fun H1 s Q q =>
  h H1 s _ fun vs H2 s2 d2 => ⟨a, by rw [List.append_nil]; exact d2, hc, fun v H3 s3 d3 => q v H3 (s2.trans s3) d3⟩
end
section
variable {K : PySem.W.Frag} {R : Hp → Hp → Prop} {σ : L2.St} {H : Hp} {t : TE} {ta : TA} {ds : List PyData}
theorem gvi_list (h : Gv K t σ H (.list ds)) : GvI K Same (iList K t) σ H ds := fun H1 s Q q => h H1 s _ fun v H2 s2 d2 => by
  obtain ⟨a, xs, rfl, hq, hr⟩ := d2.lstI
  refine ⟨a, rfl, ⟨xs, hq⟩, q _ H2 s2 ?_⟩
  rw [← hr.length]
  refine walk_list.mono (fun h e => e.seq hq) fun i h x h' hi e y => ?_
  obtain ⟨rfl, y⟩ := y
  have hi' : i < ds.length := by rw [← hr.length]; exact hi
  obtain ⟨v, hv, dv⟩ := hr.get i ds[i] (List.getElem?_eq_getElem hi')
  rw [hv] at y; cases y
  exact ⟨Same.refl _, ds[i], List.getElem?_eq_getElem hi', dv.sm e⟩
theorem gvi_tup (h : Gv K t σ H (.tuple ds)) : GvI K Same (iTup K t) σ H ds := fun H1 s Q q => h H1 s _ fun v H2 s2 d2 => by
  obtain ⟨a, xs, rfl, hq, hr⟩ := d2.tupI
  refine ⟨a, rfl, ⟨xs, hq⟩, q _ H2 s2 ?_⟩
  rw [← hr.length]
  refine walk_tup.mono (fun h e => same_sqT e hq) fun i h x h' hi e y => ?_
  obtain ⟨rfl, y⟩ := y
  have hi' : i < ds.length := by rw [← hr.length]; exact hi
  obtain ⟨v, hv, dv⟩ := hr.get i ds[i] (List.getElem?_eq_getElem hi')
  rw [hv] at y; cases y
  exact ⟨Same.refl _, ds[i], List.getElem?_eq_getElem hi', dv.sm e⟩
theorem gvi_range2 {lo n : Nat} {t2 : TE} (h1 : Gv K t σ H (.int lo)) (h2 : Gv K t2 σ H (.int n)) (hl : lo < 2 ^ 62) (hn : n < 2 ^ 62) : GvI K R (iRng2 (tCons t (tCons t2 tNil))) σ H ((List.range (n - lo)).map fun i : Nat => PyData.int ((lo + i : Nat) : Int)) := fun H1 s Q q =>
  gva_cons h1 (gva_cons h2 gva_nil) H1 s _ fun vs H2 s2 d2 => by
  obtain ⟨v, u, rfl, dv, du⟩ := dpAll2 d2
  cases dv; cases du
  refine ⟨(lo : Int), (n : Int), rfl, ⟨by omega, by omega, by omega, by omega⟩, q _ H2 s2 ?_⟩
  rw [List.length_map, List.length_range, show ((n : Int) - (lo : Int)).toNat = n - lo by omega]
  refine walk_range.mono (fun _ _ => trivial) fun i h x h' hi e y => ?_
  obtain ⟨rfl, rfl⟩ := y
  refine ⟨Same.refl _, .int ((lo + i : Nat) : Int), ?_, ?_⟩
  · rw [List.getElem?_map, List.getElem?_range hi]; rfl
  · dsimp only; rw [show (lo : Int) + (i : Int) = ((lo + i : Nat) : Int) by omega]; exact .int _
/-- what a comprehension has gathered when D is the new list -/
def LcP (K : PySem.W.Frag) (H1 : Hp) (D : Addr) (ds : Nat → List PyData) (k : Nat) (H2 : Hp) : Prop := (∀ b o, b ≠ D → H1 b = some o → H2 b = some o) ∧ ∃ acc, H2 D = some (.lst acc) ∧ DpAll K H2 acc (ds k) ∧ acc.length ≤ k
theorem lcP_yes {H1 H5 H2 : Hp} {D : Addr} {ds : Nat → List PyData} {k : Nat} {acc : List V} {y : V} {d : PyData} (h : ∀ b o, b ≠ D → H1 b = some o → H2 b = some o) (s25 : Same H2 H5) (eD : H2 D = some (.lst acc)) (ha : DpAll K H2 acc (ds k)) (la : acc.length ≤ k) (dy : Dp K H5 y d)
    (e : ds (k + 1) = ds k ++ [d]) (z : lfAll (ds (k + 1)) = true) : LcP K H1 D ds (k + 1) (upd H5 D (.lst (acc ++ [y]))) := by
  refine ⟨fun b o hb q => by rw [upd_ne hb]; exact s25 _ _ (h b o hb q), acc ++ [y], upd_same, ?_, by rw [List.length_append]; show acc.length + 1 ≤ k + 1; omega⟩
  refine dpAll_kp (Kp.upd (s25 _ _ eD)) _ _ z ?_
  rw [e]
  exact DpAll.append (ha.sm s25) (.cons dy .nil)
theorem lcP_no {H1 H3 H2 : Hp} {D : Addr} {ds : Nat → List PyData} {k : Nat} {acc : List V} (h : ∀ b o, b ≠ D → H1 b = some o → H2 b = some o) (s23 : Same H2 H3) (eD : H2 D = some (.lst acc)) (ha : DpAll K H2 acc (ds k)) (la : acc.length ≤ k)
    (e : ds (k + 1) = ds k) : LcP K H1 D ds (k + 1) H3 :=
  ⟨fun b o hb q => s23 _ _ (h b o hb q), acc, s23 _ _ eD, by rw [e]; exact ha.sm s23, by omega⟩
theorem fil_take {α : Type} {as : List α} {p : α → Bool} {f : α → PyData} {k : Nat} (hk : k < as.length) : (((as.take (k + 1)).filter p).map f) = ((as.take k).filter p).map f ++ if p as[k] then [f as[k]] else [] := by
  rw [List.take_add_one, List.getElem?_eq_getElem hk, Option.toList_some, List.filter_append, List.map_append]
  cases h : p as[k] with
  | true => rw [List.filter_cons_of_pos h]; rfl
  | false => rw [List.filter_cons_of_neg (by rw [h]; exact Bool.false_ne_true)]; rfl
theorem lf_fil {α : Type} {as : List α} {p : α → Bool} {f : α → PyData} (h : ∀ a ∈ as, lf (f a) = true) (k : Nat) : lfAll (((as.take k).filter p).map f) = true := lfAll_of fun d hd => by
  obtain ⟨a, ha, rfl⟩ := List.mem_map.mp hd
  exact h a (List.mem_of_mem_take (List.mem_filter.mp ha).1)
/-- a comprehension, its target one name -/
theorem gn_lc {wi : TI} {tt : TT} {te : TE} {i : Nat} {α : Type} {δ : α → PyData} {as : List α} {p : α → Bool} {f : α → PyData} (hI : GvI K Same wi σ H (as.map δ))
    (hb : ∀ a v H1, a ∈ as → Same H H1 → Dp K H1 v (δ a) → GvT tt ((σ.set i none).set i (some v)) H1 (p a) ∧ (p a = true → Gv K te ((σ.set i none).set i (some v)) H1 (f a)))
    (hf : ∀ a ∈ as, lf (f a) = true) (hn : as.length ≤ 100000) : GvN K (tLc wi (gName i) tt te [i]) σ H ((as.filter p).map f) := by
  intro H0 s0 Q q
  refine hI H0 s0 _ fun J H1 s1 w D nD => ?_
  rw [List.length_map] at w
  refine lc_it w (LcP K H1 D fun k => ((as.take k).filter p).map f) ⟨fun b o hb e => by rw [upd_ne hb]; exact e, [], upd_same, .nil, Nat.zero_le _⟩ (fun k H2 _ hP b o e => hP.1 b o (ne_of_none e nD) e) (fun k x H2 H3 hk hP hY => ?_) (fun H2 hP => ?_)
  · obtain ⟨s2, acc, eD, hacc, la⟩ := hP
    obtain ⟨s3, d, hd, dx⟩ := hY
    rw [List.getElem?_map, List.getElem?_eq_getElem hk] at hd
    cases hd
    have sH : Same H H3 := (s0.trans s1).trans fun b o e => s3 _ _ (s2 b o (ne_of_none e nD) e)
    obtain ⟨g1, g2⟩ := hb as[k] x H3 (List.getElem_mem _) sH dx
    refine ⟨by show ((σ.set i none).set i (some x)).set i none = σ.set i none; rw [List.set_set, List.set_set], g1.at fun H4 s4 => ?_⟩
    cases hp : p as[k] with
    | true =>
      rw [if_pos rfl]
      refine (g2 hp).sm s4 |>.at fun y H5 s5 dy => ⟨acc, s5 _ _ (s4 _ _ (s3 _ _ eD)), small5 (by omega), ?_⟩
      exact lcP_yes s2 ((s3.trans s4).trans s5) eD hacc la dy (by rw [fil_take hk, hp]; rfl) (lf_fil hf _)
    | false =>
      rw [if_neg Bool.false_ne_true]
      exact lcP_no s2 (s3.trans s4) eD hacc la (by rw [fil_take hk, hp]; exact List.append_nil _)
  · obtain ⟨s2, acc, eD, hacc, la⟩ := hP
    replace hacc : DpAll K H2 acc (((as.take as.length).filter p).map f) := hacc
    rw [List.take_length] at hacc
    exact q _ _ H2 (s1.trans fun b o e => s2 b o (ne_of_none e nD) e) (s1.free nD) eD hacc
theorem gl_lc {wi : TI} {tt : TT} {te : TE} {i : Nat} {α : Type} {δ : α → PyData} {as : List α} {p : α → Bool} {f : α → PyData} (hI : GvI K Same wi σ H (as.map δ))
    (hb : ∀ a v H1, a ∈ as → Same H H1 → Dp K H1 v (δ a) → GvT tt ((σ.set i none).set i (some v)) H1 (p a) ∧ (p a = true → Gv K te ((σ.set i none).set i (some v)) H1 (f a)))
    (hf : ∀ a ∈ as, lf (f a) = true) (hn : as.length ≤ 100000) : GvL K (tLc wi (gName i) tt te [i]) σ H ((as.filter p).map f) := (gn_lc hI hb hf hn).gl
theorem gs_ret {t : TE} {d : PyData} {D : Ends} (h : Gv K t σ H d) (q : ∀ v H', Same H H' → Dp K H' v d → D.rt v H') : tRet t D σ H := h.at q
theorem gs_if {c : TT} {b : Bool} {t u : TS} {D : Ends} (h : GvT c σ H b) (h1 : b = true → ∀ H', Same H H' → t D σ H') (h2 : b = false → ∀ H', Same H H' → u D σ H') : tIfS c t u D σ H := h.at fun H' s => by
  cases b with
  | true => rw [if_pos rfl]; exact h1 rfl H' s
  | false => rw [if_neg Bool.false_ne_true]; exact h2 rfl H' s
/-- a loop: Pv by the heap at its start, the turn, the slots and the heap -/
theorem gs_for {wi : TI} {g : TG} {tb : TS} {D : Ends} {ds : List PyData} (hI : GvI K R wi σ H ds) (Pv : Hp → Nat → L2.St → Hp → Prop) (h0 : ∀ H1, Same H H1 → Pv H1 0 σ H1) (hS : ∀ H1 k σ' H', Same H H1 → Pv H1 k σ' H' → R H1 H')
    (hs : ∀ H1 k x d σ' H' H'', Same H H1 → ds[k]? = some d → Pv H1 k σ' H' → Same H' H'' → Dp K H'' x d → g x σ' H'' fun σ2 H2 => tb { D with nx := Pv H1 (k + 1), ct := Pv H1 (k + 1), bk := D.nx } σ2 H2)
    (hd : ∀ H1 σ' H', Same H H1 → Pv H1 ds.length σ' H' → D.nx σ' H') : tFor wi g tb D σ H := by
  refine hI H (Same.refl _) _ fun J H1 s1 w => ?_
  refine for_it w (Pv H1) (h0 H1 s1) (fun k σ' H' _ hP => hS H1 k σ' H' s1 hP) (fun k x σ' H' H'' hk hP hY => ?_) (fun σ' H' hP => hd H1 σ' H' s1 hP)
  obtain ⟨s3, d, hd', dx⟩ := hY
  exact hs H1 k x d σ' H' H'' s1 hd' hP s3 dx
end
end Pr
namespace Pr
open PySem PySem.Spec PyProof.Rows L2
section
variable {K : PySem.W.Frag} {σ : L2.St} {H : Hp} {t ta tb : TE} {d e : PyData} {ds es : List PyData}
theorem gs_set1 {i : Nat} {u : TS} {D : Ends} (h : Gv K t σ H d) (q : ∀ v H', Same H H' → Dp K H' v d → u D (σ.set i (some v)) H') : tSeq (tAsg t (gName i)) u D σ H := h.at fun v H' s dv => q v H' s dv
theorem gs_noN {c : TT} {t : TS} {D : Ends} {b : Bool} (h : GvT c σ H b) (hb : b = false) (h2 : ∀ H', Same H H' → D.nx σ H') : tIfS c t tNext D σ H := gs_if h (fun e => by rw [hb] at e; cases e) fun _ => h2
/-- for x in a list or a tuple -/
theorem gs_each {i : Nat} {tb : TS} {D : Ends} {R : Hp → Hp → Prop} {wi : TI} {α : Type} {δ : α → PyData} {as : List α} (hI : GvI K R wi σ H (as.map δ)) (Pv : Hp → Nat → L2.St → Hp → Prop) (h0 : ∀ H1, Same H H1 → Pv H1 0 σ H1) (hS : ∀ H1 k σ' H', Same H H1 → Pv H1 k σ' H' → R H1 H')
    (hs : ∀ H1 k a v σ' H' H'', Same H H1 → as[k]? = some a → Pv H1 k σ' H' → Same H' H'' → Dp K H'' v (δ a) → tb { D with nx := Pv H1 (k + 1), ct := Pv H1 (k + 1), bk := D.nx } (σ'.set i (some v)) H'')
    (hd : ∀ H1 σ' H', Same H H1 → Pv H1 as.length σ' H' → D.nx σ' H') : tFor wi (gName i) tb D σ H := by
  refine gs_for hI Pv h0 hS (fun H1 k x d σ' H' H'' s1 hd' hP s2 dx => ?_) (fun H1 σ' H' s1 hP => hd H1 σ' H' s1 (by rwa [List.length_map] at hP))
  rw [List.getElem?_map] at hd'
  cases e : as[k]? with
  | none => rw [e] at hd'; cases hd'
  | some a => rw [e] at hd'; cases hd'; exact hs H1 k a x σ' H' H'' s1 e hP s2 dx
theorem gv_un {r : V → Hp → VK → Prop} (h : Gv K t σ H d) {f : PyData} (hr : ∀ x H1 Q, Same H H1 → Dp K H1 x d → (∀ v H', Same H1 H' → Dp K H' v f → Q v H') → r x H1 Q) : Gv K (tUn r t) σ H f := fun H1 s Q q =>
  h H1 s _ fun v H2 s2 d2 => hr v H2 Q (s.trans s2) d2 fun v H3 s3 d3 => q v H3 (s2.trans s3) d3
theorem gv_neg {i : Int} (h : Gv K t σ H (.int i)) : Gv K (tUn (rU fun i => .int (-i)) t) σ H (.int (-i)) := gv_un h fun x H1 Q s hx q => by cases hx; exact ⟨i, rfl, q _ _ (Same.refl _) (.int _)⟩
theorem gn_cat (ha : GvL K ta σ H ds) (hb : GvL K tb σ H es) (hn : ds.length + es.length ≤ 100000) : GvN K (tOp rCat ta tb) σ H (ds ++ es) := fun H1 s Q q =>
  ha H1 s _ fun a xs H2 s2 ea da => hb H2 (s.trans s2) _ fun b ys H3 s3 eb db =>
    ⟨a, b, xs, ys, rfl, rfl, s3 _ _ ea, eb, by rw [da.length, db.length]; exact Nat.le_of_lt (small5 hn), fun p np => q _ _ _ ((s2.trans s3).trans (same_new np)) ((s2.trans s3).free np) upd_same (DpAll.append (da.sm (s3.trans (same_new np))) (db.sm (same_new np)))⟩
theorem gl_cat (ha : GvL K ta σ H ds) (hb : GvL K tb σ H es) (hn : ds.length + es.length ≤ 100000) : GvL K (tOp rCat ta tb) σ H (ds ++ es) := (gn_cat ha hb hn).gl
theorem gs_setN {i : Nat} {u : TS} {D : Ends} (h : GvN K t σ H ds) (q : ∀ a vs H', Same H H' → H a = none → H' a = some (.lst vs) → DpAll K H' vs ds → u D (σ.set i (some (.ref a))) H') : tSeq (tAsg t (gName i)) u D σ H := h.at fun a vs H' s n e dv => q a vs H' s n e dv
/-- tuple(range(n)) -/
theorem gv_tupRg {n : Nat} (h : Gv K t σ H (.int n)) (hn : n ≤ 100000) : Gv K (tTupRg (tRg1 t)) σ H (dInts ((List.range n).map fun i : Nat => (i : Int))) := fun H1 s Q q => h H1 s _ fun v H2 s2 d2 => by
  cases d2
  refine ⟨_, rfl, ⟨by omega, by omega, by omega, by omega, ?_⟩, fun p np => q _ _ (s2.trans (same_new np)) ?_⟩
  · have := small5 hn; omega
  · refine dp_ints (.inl (.inl ?_))
    rw [upd_same]
    unfold rgV
    rw [List.map_map, Int.sub_zero, Int.toNat_natCast]
    congr 2
    refine List.map_congr_left fun i _ => ?_
    show V.int (0 + (i : Int)) = V.int (i : Int)
    rw [Int.zero_add]
theorem gv_catT (ha : Gv K ta σ H (.tuple ds)) (hb : Gv K tb σ H (.tuple es)) (hn : ds.length + es.length ≤ 100000) : Gv K (tOp (rCatS K) ta tb) σ H (.tuple (ds ++ es)) :=
  gv_op2 ha hb fun x y H1 Q s hx hy q => by
    obtain ⟨a, xs, rfl, hq, hr⟩ := hx.tupI
    obtain ⟨b, ys, rfl, hq2, hr2⟩ := hy.tupI
    exact ⟨a, b, xs, ys, rfl, rfl, hq, hq2, by rw [hr.length, hr2.length]; exact Nat.le_of_lt (small5 hn), fun p H' s' hp => q _ _ s' (.tup hp (DpAll.append (hr.sm s') (hr2.sm s')))⟩
end
end Pr
namespace Pr
open PySem PySem.Spec PyProof.Rows L2
/-- each of 0 .. n - 1 once -/
structure IsP (n : Nat) (nm : List Int) : Prop where
  len : nm.length = n
  nd : nm.Nodup
  rng : ∀ x ∈ nm, 0 ≤ x ∧ x < (n : Int)
/-- what button b is called -/
def nmOf (nm : List Int) (x : Int) : Int := nm.getD x.toNat 0
theorem IsP.at {n : Nat} {nm : List Int} (h : IsP n nm) {x : Int} (h0 : 0 ≤ x) (h1 : x < (n : Int)) : nm[x.toNat]? = some (nmOf nm x) := by
  unfold nmOf
  rw [List.getD_eq_getElem?_getD, List.getElem?_eq_getElem (by rw [h.len]; omega)]; rfl
theorem nd_get {l : List Int} (h : l.Nodup) {i j : Nat} {x : Int} (hi : l[i]? = some x) (hj : l[j]? = some x) : i = j := by
  obtain ⟨w1, z1⟩ := List.getElem?_eq_some_iff.mp hi
  obtain ⟨w2, z2⟩ := List.getElem?_eq_some_iff.mp hj
  have hp := List.pairwise_iff_getElem.mp h
  rcases Nat.lt_trichotomy i j with lt | e | lt
  · exact absurd (z1.trans z2.symm) (hp _ _ w1 w2 lt)
  · exact e
  · exact absurd (z2.trans z1.symm) (hp _ _ w2 w1 lt)
theorem IsP.inj {n : Nat} {nm : List Int} (h : IsP n nm) {x y : Int} (h0 : 0 ≤ x) (h1 : x < (n : Int)) (h2 : 0 ≤ y) (h3 : y < (n : Int)) (e : nmOf nm x = nmOf nm y) : x = y := by
  have a := h.at h0 h1
  have b := h.at h2 h3
  rw [← e] at b
  have := nd_get h.nd a b
  omega
end Pr
namespace Pr
open PySem PySem.Spec PyProof.Rows L2
section
variable {κ : Type} [DecidableEq κ]
abbrev BL (κ : Type) := List (κ × List Int)
variable {step : κ → Nat → κ} {n : Nat} {s : κ}
end
/-- the number whose digits to the base b these are -/
def enc (b : Nat) : Nat → (Nat → Nat) → Nat
  | 0, _ => 0
  | n + 1, d => d 0 + b * enc b n fun i => d (i + 1)
end Pr
namespace Pr
open PySem PySem.Spec PyProof.Rows L2 PySem.W
/-- v is a tuple that holds these numbers -/
def IsTI (h : Heap) (v : Value) (ns : List Int) : Prop :=
  ∃ (a : Addr) (dd : Option Addr) (items : Array Value) (n : Nat) (sl : Array (Option Value)), v = .ref a ∧ h.get? a = some { cls := .type "tuple", dict := dd, data := .seq items n, slots := sl } ∧ IntsAre items.toList ns
theorem IsTI.keeps {h h' : Heap} {v : Value} {ns : List Int} (x : IsTI h v ns) (k : ∀ b o, v = .ref b → h.get? b = some o → h'.get? b = some o) : IsTI h' v ns := by
  obtain ⟨a, dd, items, n, sl, e, g, i⟩ := x
  exact ⟨a, dd, items, n, sl, e, k _ _ e g, i⟩
theorem IsTI.type {M : Model} {h : Heap} {v : Value} {ns : List Int} (x : IsTI h v ns) : Looks M h (typeOf v) (.type "tuple") := by
  obtain ⟨a, dd, items, n, sl, rfl, g, i⟩ := x
  exact (Looks.ld g).andThen .now
section
variable {prog : Program} {w : World} {A : Around} {E : Value → Shared → Prop} {s : Shared}
theorem call_ltT {a b : Addr} {dd dd2 : Option Addr} {items items2 : Array Value} {n n2 : Nat} {sl sl2 : Array (Option Value)} {ns ms : List Int} {Q : Value → Shared → Prop} (ga : s.heap.get? a = some { cls := .type "tuple", dict := dd, data := .seq items n, slots := sl })
    (gb : s.heap.get? b = some { cls := .type "tuple", dict := dd2, data := .seq items2 n2, slots := sl2 }) (ia : IntsAre items.toList ns) (ib : IntsAre items2.toList ms) (iv : Looks (model prog w) s.heap (isInstance (.ref a) (.type "tuple")) true)
    (iu : ∀ M : Model, Looks M s.heap (isInstance (.ref b) (.type "tuple")) true) (h : Q (.bool (HT.lexLt ns ms)) s) : wpAny (model prog w) A (call (.builtin "tuple.__lt__") [.ref a, .ref b]) Q E s := by
  refine wpAny_call (codeAny_call_builtin PySem.F.slot_tuple_lt.plain PySem.F.entry_tuple_lt (@check_slot (model prog w) _ _ _ "tuple.__lt__" "tuple" "__lt__" (.ref a) [.ref b] [] _ (by decide +kernel) (by decide +kernel) iv (PySem.F.args_tuple_lt_2 _ _) ?_))
  refine wpAny_mono (NtL.nt_lt_ints a b (.type "tuple") (.type "tuple") items items2 n n2 dd dd2 sl sl2 ns ms ia ib prog w _ (wants Q E) s ⟨ga, gb, iu, h⟩) (fun fin s' q => ?_) fun _ _ z => z
  cases fin with
  | done f => exact q
  | again c => exact q
theorem lt_ti {v u : Value} {ns ms : List Int} {Q : Bool → Shared → Prop} (hu : A.units < cLine) (hv : IsTI s.heap v ns) (hw : IsTI s.heap u ms) (h : Q (HT.lexLt ns ms) s) : wpAny (model prog w) A (keyLt' oneType' v u) Q E s := by
  have iu : ∀ M : Model, Looks M s.heap (isInstance u (.type "tuple")) true := fun M => (hw.type (M := M)).andThen (Looks.of_pure (by rfl))
  obtain ⟨a, dd, items, n, sl, rfl, ga, ia⟩ := hv
  obtain ⟨b, dd2, items2, n2, sl2, rfl, gb, ib⟩ := hw
  have iv : Looks (model prog w) s.heap (isInstance (.ref a) (.type "tuple")) true := (Looks.ld ga).andThen (Looks.of_pure (by rfl))
  rw [keyLt'_oneType, oneLt'_eq]
  simp only [if_true]
  refine wpAny_bind (wpAny_cRoomFor hu ?_)
  refine wpAny_bind (wpAny_callSpecialIfBound?_slot (T := "tuple") ⟨_, ga, rfl⟩ PySem.F.slot_tuple_lt (call_ltT ga gb ia ib iv iu ?_))
  exact wpAny_truthy_bool h
/-- the kind of keys: the first one is the empty tuple -/
theorem mapM_by {α β : Type} {M : Model} {f : α → Sem β} (g : α → β) : ∀ (l : List α) {Q : List β → Shared → Prop}, (∀ v ∈ l, ∀ (Q' : β → Shared → Prop), Q' (g v) s → wpAny M A (f v) Q' E s) → Q (l.map g) s → wpAny M A (l.mapM f) Q E s
  | [], _, _, h => by rw [List.mapM_nil]; exact wpAny_pure h
  | x :: l, Q, hf, h => by
    rw [List.mapM_cons]
    exact wpAny_bind (hf x (.head _) _ (wpAny_bind (mapM_by g l (Q := fun bs s' => wpAny M A (pure (g x :: bs)) Q E s') (fun v hv => hf v (.tail _ hv)) (wpAny_pure h))))
def firstIn (h : Heap) (v : Value) : Option Value := match v with
  | .ref a => match h.get? a with
    | some ⟨_, _, .seq its _, _⟩ => its[0]?
    | _ => none
  | _ => none
theorem kind_ti {v₁ v₂ : Value} {rest : List Value} {k : Value → List Int} {Q : SortKind → Shared → Prop} (hv : ∀ v ∈ v₁ :: v₂ :: rest, IsTI s.heap v (k v)) (h1 : k v₁ = []) (h : Q oneType' s) :
    wpAny (model prog w) A (keyKind' (v₁ :: v₂ :: rest).toArray) Q E s := by
  rw [kat_kind_eq, List.mapM_toArray, map_eq_pure_bind]
  have e0 : firstIn s.heap v₁ = none := by
    obtain ⟨a, dd, items, n, sl, e, g, i⟩ := hv v₁ List.mem_cons_self
    rw [h1] at i
    have hi := i.length
    subst e
    unfold firstIn
    simp only [g]
    rw [Array.getElem?_eq_none]
    simpa using hi
  refine wpAny_bind (wpAny_bind (mapM_by (firstIn s.heap) _ (fun v hm Q' hq => ?_) (wpAny_pure ?_)))
  · obtain ⟨a, dd, items, n, sl, e, g, i⟩ := hv v hm
    rw [kas_first_eq]
    refine wpAny_bind ((hv v hm).type.here ?_)
    rw [if_neg (by decide)]
    subst e
    unfold firstIn at hq
    simp only [g] at hq
    exact wpAny_bind (listItems_at g rfl (wpAny_pure hq))
  · rw [if_neg (by simp [e0]), if_neg (by simp [e0])]
    rw [oneTypeOnly'_eq, List.mapM_toArray, map_eq_pure_bind]
    refine wpAny_bind (wpAny_bind (wpAny_bind (kas_mapM (r := Value.type "tuple") _ (fun v hm Q' hq => (hv v hm).type.here hq) (wpAny_pure ?_))))
    have hall : ((List.map (fun _ => Value.type "tuple") (v₁ :: v₂ :: rest)).toArray.all fun x => x == Value.type "tuple") = true := by
      simp only [List.all_toArray, List.all_map, List.all_eq_true]
      intro _ _
      rfl
    have h0 : (List.map (fun _ => Value.type "tuple") (v₁ :: v₂ :: rest)).toArray[0]? = some (Value.type "tuple") := by simp
    rw [h0]
    simp only [hall, if_true]
    exact wpAny_pure (wpAny_pure h)
theorem ti_cmp {vs : List Value} {k : Value → List Int} (hu : A.units < cLine) (hv : ∀ v ∈ vs, IsTI s.heap v (k v)) : SrtO.Cmp prog w A s oneType' (fun p => p.1 ∈ vs) (SrtO.lt2 fun v u => HT.lexLt (k v) (k u)) := by
  intro p q hp hq
  exact lt_ti (Q := fun r s' => s' = s ∧ r = HT.lexLt (k p.1) (k q.1)) (E := fun _ _ => False) hu (hv p.1 hp) (hv q.1 hq) ⟨rfl, rfl⟩
theorem ti_sortable {a : Addr} {vs : List Value} {k : Value → List Int} (h2 : 2 ≤ vs.length) (hu : A.units < cLine) (hv : ∀ v ∈ vs, IsTI s.heap v (k v)) (h1 : (vs.head?.map k) = some []) (ha : ∀ v ∈ vs, v ≠ .ref a) :
    SrtO.SortableO prog w A s a vs fun v u => HT.lexLt (k v) (k u) := by
  intro h' keep
  have hv' : ∀ v ∈ vs, IsTI h' v (k v) := fun v hm => (hv v hm).keeps fun b o e g => keep b o (fun z => ha v hm (by rw [e, z])) g
  refine ⟨oneType', fun Q E hq => ?_, ti_cmp (s := { s with heap := h' }) hu hv'⟩
  match vs, h2, hv', h1 with
  | v₁ :: v₂ :: rest, _, hv', h1 => exact kind_ti (s := { s with heap := h' }) (k := k) hv' (by simpa using h1) hq
end
section
variable {X : Cx}
/-- sorted(xs), xs a list of tuples of ints, the first one () -/
def rSortedTI (K : PySem.W.Frag) : List V → Hp → VK → Prop := fun vs H Q => ∃ (a : Addr) (ts : List Addr) (k : Addr → List Int), vs = [V.ref a] ∧ SqL K H a (ts.map V.ref) ∧ (∀ t ∈ ts, SqT K H t ((k t).map V.int)) ∧ (ts.head?.map k) = some [] ∧
  ∀ (ts' : List Addr) (p : Addr), ts'.Perm ts → ts'.Pairwise (fun p q => HT.lexLt (k q) (k p) = false) → H p = none → Q (.ref p) (upd H p (.lst (ts'.map V.ref)))
theorem cr_sortedTI (hu : X.A.units + 64 < cLine) : CallR X (.builtin "sorted") (rSortedTI X.K) := by
  intro pins s σ H vs us Q I r h
  obtain ⟨a, ts, k, rfl, hs, hx, h0, q⟩ := h
  obtain ⟨its, rv, hl, hz⟩ := I.list hs
  obtain ⟨u, rfl, ru⟩ := vals1 r
  obtain rfl : u = Value.ref a := ru
  have ei := nts_of rv
  have hv : ∀ u ∈ its, IsTI s.heap u (k (adO u)) := fun u hm => by
    rw [ei] at hm
    obtain ⟨t, ht, rfl⟩ := List.mem_map.mp hm
    obtain ⟨its2, r2, ⟨⟨cls, dd, data, sl⟩, ho, hc, n, hd⟩, hz2⟩ := I.tuple (hx t ht)
    simp only at hc hd
    subst hc hd
    exact ⟨t, dd, its2.toArray, n, sl, rfl, ho, (by simpa using ints_of_vals r2 : IntsAre its2.toArray.toList (k t))⟩
  have hh : its.head?.map (fun u => k (adO u)) = some [] := by
    rw [ei]
    cases ts with
    | nil => simp at h0
    | cons t ts => simpa [adO] using h0
  refine SrtO.sorted_ord (NtL.swo_lexL fun u => k (adO u)) hl.isList (by rw [← rv.length]; exact hz) (fun h2 h₁ b hb kk => ti_sortable (s := { s with heap := h₁ }) h2 (by simp only [Around.in1_units]; omega) (fun v hm => (hv v hm).keeps fun c o _ e => (kk c o e).2) hh fun v hm z => ?_) fun out h1 h2 => ?_
  · obtain ⟨c, dd, items, n, sl, e, g, i⟩ := hv v hm
    rw [e] at z
    exact (kk c _ g).1 (Value.ref.inj z)
  · have eo : out = (out.map adO).map Value.ref := ref_map fun u hm => by
      have hm' : u ∈ its := h2.perm.mem_iff.mp hm
      rw [ei] at hm'
      obtain ⟨t, _, e⟩ := List.mem_map.mp hm'
      exact ⟨t, e.symm⟩
    have hp : (out.map adO).Perm ts := by
      have p1 := h2.perm.map adO
      rw [ei, ad_map] at p1
      exact p1
    have hs' : (out.map adO).Pairwise (fun p q => HT.lexLt (k q) (k p) = false) := List.pairwise_map.mpr (h1.imp fun {x y} z => z)
    have hlen : ((out.map adO).map V.ref).length ≤ sizeLine := by
      rw [List.length_map, hp.length_eq]
      rw [List.length_map] at hz
      exact hz
    have rvo : Vals ((out.map adO).map V.ref) out := by
      have z := of_nts (out.map adO)
      rw [← eo] at z
      exact z
    obtain ⟨n, hn⟩ := sortedAll_at s.heap its out.toArray
    exact ⟨.ref (s.heap.objs.size + 1), upd H _ (.lst ((out.map adO).map V.ref)), I.laid (t' := s.toks) (fun b o e => sortedAll_old e) (Nat.le_succ _) ⟨hlen, out, n, rvo, hn⟩, rfl, q _ _ hp hs' (I.hok.fresh (Nat.le_succ _))⟩
end
end Pr
namespace Pr
open PySem PySem.Spec PyProof.Rows L2 PySem.W
theorem lexLt_lt : ∀ xs ys : List Int, HT.lexLt xs ys = decide (xs < ys)
  | [], [] => by simp [HT.lexLt]
  | [], y :: ys => by simp [HT.lexLt]
  | x :: xs, [] => by simp [HT.lexLt]
  | x :: xs, y :: ys => by
    rw [HT.lexLt_cons, lexLt_lt xs ys]
    by_cases e : x = y
    · subst e
      rw [if_pos rfl]
      exact decide_eq_decide.mpr (by simp [List.cons_lt_cons_iff])
    · rw [if_neg e]
      exact decide_eq_decide.mpr (by simp [List.cons_lt_cons_iff, e])
theorem lex_total (a b : List Int) : HT.lexLt a b = false ∨ HT.lexLt b a = false := by
  rw [lexLt_lt, lexLt_lt, decide_eq_false_iff_not, decide_eq_false_iff_not]
  by_cases h : a < b
  · exact .inr (List.lt_asymm h)
  · exact .inl h
theorem lex_trans {a b c : List Int} (h1 : HT.lexLt b a = false) (h2 : HT.lexLt c b = false) : HT.lexLt c a = false := by
  rw [lexLt_lt, decide_eq_false_iff_not] at *
  have h1 : a ≤ b := h1
  have h2 : b ≤ c := h2
  exact (List.le_trans h1 h2 : a ≤ c)
theorem lex_anti {a b : List Int} (h1 : HT.lexLt b a = false) (h2 : HT.lexLt a b = false) : a = b := by
  rw [lexLt_lt, decide_eq_false_iff_not] at *
  exact List.le_antisymm (show a ≤ b from h1) (show b ≤ a from h2)
/-- the ascending one of the same rows -/
def srtT (ks : List (List Int)) : List (List Int) := ks.mergeSort fun a b => !HT.lexLt b a
theorem srtT_perm (ks : List (List Int)) : (srtT ks).Perm ks := List.mergeSort_perm _ _
theorem srtT_up (ks : List (List Int)) : (srtT ks).Pairwise fun a b => HT.lexLt b a = false := by
  have := List.pairwise_mergeSort (le := fun a b : List Int => !HT.lexLt b a) (fun a b c h1 h2 => by simp at *; exact lex_trans h1 h2) (fun a b => by
    rcases lex_total a b with h | h <;> simp [h]) ks
  exact this.imp fun h => by simpa using h
theorem permT_eq : ∀ {l1 l2 : List (List Int)}, l1.Perm l2 → l1.Pairwise (fun a b => HT.lexLt b a = false) → l2.Pairwise (fun a b => HT.lexLt b a = false) → l1 = l2 := by
  intro l1
  induction l1 with
  | nil => intro l2 h _ _; exact (List.nil_perm.mp h).symm
  | cons x r ih =>
    intro l2 h h1 h2
    cases l2 with
    | nil => exact absurd h.symm (by simp)
    | cons y s =>
      rw [List.pairwise_cons] at h1 h2
      have hxy : x = y := by
        have hx : x ∈ y :: s := h.subset List.mem_cons_self
        have hy : y ∈ x :: r := h.symm.subset List.mem_cons_self
        rcases List.mem_cons.mp hx with e | e
        · exact e
        · rcases List.mem_cons.mp hy with e' | e'
          · exact e'.symm
          · exact lex_anti (h1.1 y e') (h2.1 x e)
      subst hxy
      rw [ih (List.Perm.cons_inv h) h1.2 h2.2]
theorem srtT_eq {l m : List (List Int)} (h : m.Perm l) (u : m.Pairwise fun a b => HT.lexLt b a = false) : srtT l = m := permT_eq ((srtT_perm l).trans h.symm) (srtT_up l) u
section
variable {X : Cx}
def rSortTup (K : PySem.W.Frag) : List V → Hp → VK → Prop := fun vs H Q => ∃ (a : Addr) (ts : List Addr) (k : Addr → List Int), vs = [V.ref a] ∧ SqL K H a (ts.map V.ref) ∧ (∀ t ∈ ts, SqT K H t ((k t).map V.int)) ∧ ((∀ t ∈ ts, k t ≠ []) ∨ (ts.head?.map k) = some []) ∧
  ∀ (ts' : List Addr) (p : Addr), ts'.Perm ts → ts'.Pairwise (fun p q => HT.lexLt (k q) (k p) = false) → H p = none → Q (.ref p) (upd H p (.lst (ts'.map V.ref)))
theorem each_map_ref {R : Value → Addr → Prop} : ∀ {out : List Value} {ts : List Addr}, EachIs (fun v t => v = Value.ref t) out ts → out = ts.map Value.ref
  | _, _, .nil => rfl
  | _, _, .cons e t => by rw [e, each_map_ref (R := R) t]; rfl
theorem cr_sortTup (hu : X.A.units + 64 < cLine) : CallR X (.builtin "sorted") (rSortTup X.K) := by
  intro pins s σ H vs us Q I r h
  obtain ⟨a, ts, k, rfl, hs, hx, h0, q⟩ := h
  rcases h0 with h0 | h0
  · obtain ⟨its, rv, hl, hz⟩ := I.list hs
    obtain ⟨u, rfl, ru⟩ := vals1 r
    obtain rfl : u = Value.ref a := ru
    have ei := nts_of rv
    have hlen : its.length = ts.length := by rw [← rv.length, List.length_map]
    have er : EachIs (fun v t => ∃ as, Reads s.heap v (.tuple ((k t).map PyData.int)) as) its ts := by
      rw [ei]
      have : ∀ (l : List Addr), (∀ t ∈ l, t ∈ ts) → EachIs (fun v t => ∃ as, Reads s.heap v (.tuple ((k t).map PyData.int)) as) (l.map Value.ref) l := fun l => by
        induction l with
        | nil => intro _; exact .nil
        | cons t l ih => intro hm; exact .cons (Dp.reads I _ _ _ (dp_ints (hx t (hm t List.mem_cons_self))) rfl) (ih fun x hx => hm x (List.mem_cons_of_mem _ hx))
      exact this ts fun _ h => h
    have e0 : EachIs (fun v t => v = Value.ref t) its ts := by
      rw [ei]
      have : ∀ (l : List Addr), EachIs (fun v t => v = Value.ref t) (l.map Value.ref) l := fun l => by
        induction l with
        | nil => exact .nil
        | cons t l ih => exact .cons rfl ih
      exact this ts
    refine sorted_data (enc := fun t => .tuple ((k t).map PyData.int)) hl.isList e0 er (fun d hd d' hd' => ?_) (.inl fun d hd => ?_) (by rw [List.length_map] at hz; exact hz) (fun b hb => ?_) fun out ol oe => ?_
    · obtain ⟨t, _, rfl⟩ := List.mem_map.mp hd
      obtain ⟨t', _, rfl⟩ := List.mem_map.mp hd'
      show alike (.tuple _) (.tuple _) = true
      simp only [alike]
      exact alike_ints _ _
    · obtain ⟨t, ht, rfl⟩ := List.mem_map.mp hd
      cases e : k t with
      | nil => exact absurd e (h0 t ht)
      | cons x r => exact ⟨.int x, r.map PyData.int, rfl⟩
    · show X.A.units + 2 + (PyData.tuple ((k b).map PyData.int)).depth < cLine
      simp only [PyData.depth, depth_ints]; omega
    · have eo := each_map_ref (R := fun _ _ => True) oe
      have le : dataLe false (fun t => PyData.tuple ((k t).map PyData.int)) = fun p q => !HT.lexLt (k q) (k p) := by
        funext p q
        show (!dataLt (.tuple ((k q).map .int)) (.tuple ((k p).map .int))) = _
        rw [dataLt_tuple]
        show (!rowLt ((k q).map .int) ((k p).map .int)) = _
        rw [dataLt_ints, lexLt_lt]
      have hp : (ts.mergeSort (dataLe false fun t => PyData.tuple ((k t).map PyData.int))).Perm ts := List.mergeSort_perm _ _
      have hs' : (ts.mergeSort (dataLe false fun t => PyData.tuple ((k t).map PyData.int))).Pairwise (fun p q => HT.lexLt (k q) (k p) = false) := by
        rw [le]
        have := List.pairwise_mergeSort (le := fun p q : Addr => !HT.lexLt (k q) (k p)) (fun a b c h1 h2 => by simp at *; exact lex_trans h1 h2) (fun a b => by rcases lex_total (k a) (k b) with h | h <;> simp [h]) ts
        exact this.imp fun h => by simpa using h
      have hl2 : ((ts.mergeSort (dataLe false fun t => PyData.tuple ((k t).map PyData.int))).map V.ref).length ≤ sizeLine := by
        rw [List.length_map, hp.length_eq]; rw [List.length_map] at hz; exact hz
      have rvo : Vals ((ts.mergeSort (dataLe false fun t => PyData.tuple ((k t).map PyData.int))).map V.ref) out := by
        rw [eo]; exact of_nts _
      obtain ⟨n, hn⟩ := sortedAll_at s.heap its out.toArray
      exact ⟨.ref (s.heap.objs.size + 1), upd H _ (.lst ((ts.mergeSort (dataLe false fun t => PyData.tuple ((k t).map PyData.int))).map V.ref)), I.laid (t' := s.toks) (fun b o e => sortedAll_old e) (Nat.le_succ _) ⟨hl2, out, n, rvo, hn⟩, rfl, q _ _ hp hs' (I.hok.fresh (Nat.le_succ _))⟩
  · exact cr_sortedTI hu pins s σ H [V.ref a] us Q I r ⟨a, ts, k, rfl, hs, hx, h0, q⟩
end
end Pr
namespace Pr
open PySem PySem.Spec PyProof.Rows L2
theorem val_zip {κ : Type} [DecidableEq κ] : ∀ {ks : List κ} {vs : List V} {i : Nat} {k : κ} {v : V}, ks.Nodup → ks[i]? = some k → vs[i]? = some v → valV (ks.zip vs) k = some v
  | [], _, _, _, _, _, h, _ => by simp at h
  | _ :: _, [], _, _, _, _, _, h => by simp at h
  | a :: ks, b :: vs, 0, k, v, nd, h1, h2 => by
    simp at h1 h2; subst h1 h2
    rw [List.zip_cons_cons]; exact valV_pos rfl
  | a :: ks, b :: vs, i + 1, k, v, nd, h1, h2 => by
    rw [List.nodup_cons] at nd
    have h1' : ks[i]? = some k := by simpa using h1
    rw [List.zip_cons_cons, valV_neg (fun e => nd.1 (by rw [show a = k from e]; exact List.mem_of_getElem? h1'))]
    exact val_zip nd.2 h1' (by simpa using h2)
theorem val_zip_none {κ : Type} [DecidableEq κ] : ∀ {ks : List κ} {vs : List V} {k : κ}, k ∉ ks → valV (ks.zip vs) k = none
  | [], _, _, _ => rfl
  | _ :: _, [], _, _ => by rw [List.zip_nil_right]; rfl
  | a :: ks, b :: vs, k, h => by
    rw [List.zip_cons_cons, valV_neg (fun e => h (by rw [show a = k from e]; exact List.mem_cons_self))]
    exact val_zip_none fun z => h (List.mem_cons_of_mem _ z)
/-- the dict of the things found, each with its row -/
def DictB (K : PySem.W.Frag) (H : Hp) (d : Addr) (L : BL (List Key)) : Prop := ∃ vs, H d = some (.dT ((L.map (·.1)).zip vs)) ∧ DpAll K H vs (L.map fun x => dInts x.2)
theorem DictB.same {K : PySem.W.Frag} {H H' : Hp} {d : Addr} {L : BL (List Key)} (h : DictB K H d L) (s : Same H H') : DictB K H' d L := let ⟨vs, e, dv⟩ := h; ⟨vs, s _ _ e, dv.sm s⟩
theorem DictB.get {K : PySem.W.Frag} {H : Hp} {d a : Addr} {L : BL (List Key)} {i : Nat} {x : List Key × List Int} (h : DictB K H d L) (nd : (L.map (·.1)).Nodup) (hx : L[i]? = some x) (ea : H a = some (.tup (x.1.map kV))) : ∃ v, DGet H d (.ref a) (some v) ∧ Dp K H v (dInts x.2) := by
  obtain ⟨vs, e, dv⟩ := h
  obtain ⟨v, hv, dx⟩ := dv.get i (dInts x.2) (by rw [List.getElem?_map, hx]; rfl)
  refine ⟨v, ?_, dx⟩
  have := DGet.t (k := x.1) e ea
  rwa [val_zip nd (by rw [List.getElem?_map, hx]; rfl) hv] at this
theorem DictB.none {K : PySem.W.Frag} {H : Hp} {d a : Addr} {L : BL (List Key)} {k : List Key} (h : DictB K H d L) (hk : k ∉ L.map (·.1)) (ea : H a = some (.tup (k.map kV))) : DGet H d (.ref a) none := by
  obtain ⟨vs, e, dv⟩ := h
  have := DGet.t (k := k) e ea
  rwa [val_zip_none hk] at this
theorem DictB.some {K : PySem.W.Frag} {H : Hp} {d a : Addr} {L : BL (List Key)} {k : List Key} (h : DictB K H d L) (nd : (L.map (·.1)).Nodup) (hk : k ∈ L.map (·.1)) (ea : H a = some (.tup (k.map kV))) : ∃ v, DGet H d (.ref a) (some v) := by
  obtain ⟨x, hx, rfl⟩ := List.mem_map.mp hk
  obtain ⟨i, hi⟩ := List.getElem?_of_mem hx
  obtain ⟨v, g, _⟩ := h.get nd hi ea
  exact ⟨v, g⟩
end Pr
namespace Pr
open PySem PySem.Spec PyProof.Rows L2
theorem ok_app {a b : Str} (ha : PyData.strOk a = true) (hb : PyData.strOk b = true) : PyData.strOk (a ++ b) = true := by
  unfold PyData.strOk at ha hb ⊢
  show (a.cps ++ b.cps).all _ = true
  rw [Array.all_append, ha, hb]; rfl
theorem ok_join {sep : Str} (hs : PyData.strOk sep = true) : ∀ {ts : List Str}, (∀ t ∈ ts, PyData.strOk t = true) → PyData.strOk (Str.join sep ts) = true
  | [], _ => by show PyData.strOk Str.empty = true; decide +kernel
  | [x], h => h x List.mem_cons_self
  | x :: y :: r, h => by
    show PyData.strOk (x ++ sep ++ Str.join sep (y :: r)) = true
    exact ok_app (ok_app (h x List.mem_cons_self) hs) (ok_join hs fun t ht => h t (List.mem_cons_of_mem _ ht))
end Pr
namespace Pr
open PySem PySem.Spec PyProof.Rows L2
/-- a new tuple -/
def GvU (K : PySem.W.Frag) (t : TE) (σ : L2.St) (H : Hp) (ds : List PyData) : Prop := ∀ H1, Same H H1 → ∀ Q : VK, (∀ a vs H', Same H1 H' → H1 a = none → H' a = some (.tup vs) → DpAll K H' vs ds → Q (.ref a) H') → t σ H1 Q
section
variable {K : PySem.W.Frag} {σ : L2.St} {H : Hp} {t ta tb : TE} {d e : PyData} {ds es : List PyData}
theorem GvU.at (h : GvU K t σ H ds) {Q : VK} (q : ∀ a vs H', Same H H' → H a = none → H' a = some (.tup vs) → DpAll K H' vs ds → Q (.ref a) H') : t σ H Q := h H (Same.refl _) Q q
theorem GvU.gv (h : GvU K t σ H ds) : Gv K t σ H (.tuple ds) := fun H1 s Q q => h H1 s Q fun a vs H' s' _ e dv => q _ H' s' (.tup (.inl (.inl e)) dv)
end
section
variable {X : Cx}
theorem rep_flatA {v : V} : ∀ k : Nat, (List.replicate k [v]).flatten = List.replicate k v
  | 0 => rfl
  | k + 1 => by rw [List.replicate_succ, List.flatten_cons, rep_flatA k]; rfl
def rSortTP (K : PySem.W.Frag) : List V → Hp → VK → Prop := fun vs H Q => ∃ (a : Addr) (ts : List (Addr × List Int)), vs = [V.ref a] ∧ SqL K H a (ts.map fun p => V.ref p.1) ∧ (∀ p ∈ ts, SqT K H p.1 (p.2.map V.int)) ∧ ((∀ p ∈ ts, p.2 ≠ []) ∨ (ts.head?.map (·.2)) = some []) ∧
  ∀ (ts' : List (Addr × List Int)) (p : Addr), ts'.Perm ts → ts'.Pairwise (fun p q => HT.lexLt q.2 p.2 = false) → H p = none → Q (.ref p) (upd H p (.lst (ts'.map fun p => V.ref p.1)))
theorem cr_sortTP (hu : X.A.units + 64 < cLine) : CallR X (.builtin "sorted") (rSortTP X.K) := by
  intro pins s σ H vs us Q I r h
  obtain ⟨a, ts, rfl, hs, hx, h0, q⟩ := h
  have uq : ∀ p ∈ ts, ∀ p' ∈ ts, p.1 = p'.1 → p.2 = p'.2 := fun p hp p' hp' e => by
    have h1 := hx p hp
    have h2 := hx p' hp'
    rw [← e] at h2
    have := I.tuple_inj h1 h2
    exact List.map_inj_right (fun x y h => V.int.inj h) |>.mp this
  have hk : ∀ p ∈ ts, ((ts.find? fun z => decide (z.1 = p.1)).map (·.2)).getD [] = p.2 := fun p hp => by
    cases e : ts.find? fun z => decide (z.1 = p.1) with
    | none => have := List.find?_eq_none.mp e p hp; simp at this
    | some z =>
      have h1 := List.mem_of_find?_eq_some e
      have h2 : z.1 = p.1 := by simpa using List.find?_some e
      exact uq z h1 p hp h2
  have et : (ts.map (·.1)).map (fun t => (t, ((ts.find? fun z => decide (z.1 = t)).map (·.2)).getD [])) = ts := by
    rw [List.map_map]
    conv => rhs; rw [← List.map_id ts]
    exact List.map_congr_left fun p hp => by simp only [Function.comp]; rw [hk p hp]; rfl
  refine cr_sortTup hu pins s σ H _ us Q I r ⟨a, ts.map (·.1), fun t => ((ts.find? fun z => decide (z.1 = t)).map (·.2)).getD [], rfl, by rw [List.map_map]; exact hs, fun t ht => ?_, ?_, fun ts' p hp hu' np => ?_⟩
  · obtain ⟨p, hp, rfl⟩ := List.mem_map.mp ht
    have := hk p hp
    dsimp only
    rw [this]; exact hx p hp
  · rcases h0 with h0 | h0
    · refine .inl fun t ht => ?_
      obtain ⟨p, hp, rfl⟩ := List.mem_map.mp ht
      have := hk p hp
      dsimp only
      rw [this]; exact h0 p hp
    · refine .inr ?_
      cases ts with
      | nil => simp at h0
      | cons p ts =>
        have := hk p List.mem_cons_self
        rw [List.map_cons, List.head?_cons, Option.map_some, this]
        simpa using h0
  · have := q (ts'.map fun t => (t, ((ts.find? fun z => decide (z.1 = t)).map (·.2)).getD [])) p (by have := hp.map (fun t => (t, ((ts.find? fun z => decide (z.1 = t)).map (·.2)).getD [])); rwa [et] at this) (by rw [List.pairwise_map]; exact hu') np
    rw [List.map_map] at this
    exact this
end
theorem pairs_of {K : PySem.W.Frag} {H : Hp} : ∀ {ks : List (List Int)} {vs : List V}, DpAll K H vs (ks.map dInts) → ∃ ts : List (Addr × List Int), vs = ts.map (fun p => V.ref p.1) ∧ ks = ts.map (·.2) ∧ ∀ p ∈ ts, SqT K H p.1 (p.2.map V.int)
  | [], _, h => by cases h; exact ⟨[], rfl, rfl, fun _ h => by cases h⟩
  | k :: ks, _, h => by
    rw [List.map_cons] at h
    cases h with
    | cons x y =>
      obtain ⟨a, rfl, hq⟩ := x.intsI
      obtain ⟨ts, rfl, rfl, hh⟩ := pairs_of y
      refine ⟨(a, k) :: ts, rfl, rfl, fun p hp => ?_⟩
      rcases List.mem_cons.mp hp with rfl | hp
      · exact hq
      · exact hh p hp
theorem gn_sortT {K : PySem.W.Frag} {σ : L2.St} {H : Hp} {t : TE} {ks : List (List Int)} (h : Gv K t σ H (.list (ks.map dInts))) (h0 : (∀ k ∈ ks, k ≠ []) ∨ ks.head? = some []) : GvN K (tCB (rSortTP K) (tCons t tNil)) σ H ((srtT ks).map dInts) := fun H1 s Q q => h H1 s _ fun v H2 s2 d2 => by
  obtain ⟨a, xs, rfl, hq, hr⟩ := d2.lstI
  obtain ⟨ts, rfl, rfl, hh⟩ := pairs_of hr
  refine ⟨a, ts, rfl, hq, hh, ?_, fun ts' p hp hu np => ?_⟩
  · rcases h0 with h0 | h0
    · exact .inl fun p hp => h0 _ (List.mem_map.mpr ⟨p, hp, rfl⟩)
    · exact .inr (by rw [← List.head?_map]; exact h0)
  · have e : srtT (ts.map (·.2)) = ts'.map (·.2) := srtT_eq (hp.map _) (by rw [List.pairwise_map]; exact hu)
    refine q _ _ _ (s2.trans (same_new np)) (s2.free np) upd_same ?_
    rw [e]
    have : ∀ (l : List (Addr × List Int)), (∀ p ∈ l, p ∈ ts) → DpAll K H2 (l.map fun p => V.ref p.1) ((l.map (·.2)).map dInts) := fun l => by
      induction l with
      | nil => intro _; exact .nil
      | cons z l ih => intro hm; exact .cons (dp_ints (hh z (hm z List.mem_cons_self))) (ih fun x hx => hm x (List.mem_cons_of_mem _ hx))
    exact (this ts' fun p hp' => hp.subset hp').sm (same_new np)
end Pr
namespace Pr
open PySem PySem.Spec PyProof.Rows L2
end Pr
namespace L2
end L2
namespace Pr
open PySem PySem.Spec PyProof.Rows L2
def rReprN (K : PySem.W.Frag) : List V → Hp → VK → Prop := fun xs H Q => rRepr K xs H Q ∨ (xs = [.non] ∧ Q (.str (PyData.shown .none)) H)
theorem shq_none : Shq 60 sizeLine .none := ⟨by simp only [PyData.showable], by simp [PyData.depth], by simp only [PyData.shown]; decide⟩
theorem cr_reprN {X : Cx} {k : Nat} (gd : X.A.guards = some []) (hr : Room k X.A) : CallR X (.builtin "repr") (rReprN X.K) := by
  intro pins s σ H xs us Q I rv h
  rcases h with h | ⟨rfl, q⟩
  · exact call_repr gd hr pins s σ H xs us Q I rv h
  · exact call_reprQ gd hr pins s σ H _ us Q I rv ⟨fun _ => False, .non, .none, rfl, .non, shq_none, q⟩
section
variable {K : PySem.W.Frag} {σ : L2.St} {H : Hp} {t ta tb : TE} {d e : PyData}
/-- what repr takes -/
def RepOk (d : PyData) : Prop := d = .none ∨ (Shw 60 sizeLine d ∧ ∃ ds, d = .tuple ds ∨ d = .list ds)
theorem gv_reprN (h : Gv K t σ H d) (hd : RepOk d) : Gv K (tCB (rReprN K) (tCons t tNil)) σ H (.str d.shown) := by
  rcases hd with rfl | ⟨hs, hr⟩
  · exact gv_cb (gva_cons h gva_nil) fun vs H1 Q s hd' q => by
      obtain ⟨v, rfl, hv⟩ := dpAll1 hd'
      cases hv
      exact .inr ⟨rfl, q _ _ (Same.refl _) (.str _)⟩
  · exact gv_cb (gva_cons h gva_nil) fun vs H1 Q s hd' q => by
      obtain ⟨v, rfl, hv⟩ := dpAll1 hd'
      obtain ⟨a, rfl⟩ : ∃ a, v = V.ref a := by
        obtain ⟨ds, rfl | rfl⟩ := hr
        · obtain ⟨a, _, e, _⟩ := hv.tupI; exact ⟨a, e⟩
        · obtain ⟨a, _, e, _⟩ := hv.lstI; exact ⟨a, e⟩
      exact .inl ⟨a, d, rfl, hv, hs.sh, hs.nd, hs.dp, hs.ln, q _ _ (Same.refl _) (.str _)⟩
end
end Pr
namespace Pr
open PySem PySem.Spec PyProof.Rows L2
def Rel (pan : List (List Int)) (st : List Int) (x y : Int) : Prop := x ∈ st ∧ y ∈ st ∧ y ∈ pan.getD x.toNat []
def Pth (pan : List (List Int)) (st : List Int) : Nat → Int → Int → Prop
  | 0, x, y => x = y
  | m + 1, x, y => ∃ z, Rel pan st x z ∧ Pth pan st m z y
section
variable {pan : List (List Int)} {st : List Int}
theorem Pth.join : ∀ {a b : Nat} {x y z : Int}, Pth pan st a x y → Pth pan st b y z → Pth pan st (a + b) x z
  | 0, b, x, y, z, h1, h2 => by rw [Nat.zero_add]; rw [show x = y from h1]; exact h2
  | a + 1, b, x, y, z, ⟨u, r, h1⟩, h2 => by
    rw [show a + 1 + b = (a + b) + 1 by omega]
    exact ⟨u, r, Pth.join h1 h2⟩
theorem Pth.split : ∀ {a b : Nat} {x z : Int}, Pth pan st (a + b) x z → ∃ y, Pth pan st a x y ∧ Pth pan st b y z
  | 0, b, x, z, h => ⟨x, rfl, by rw [Nat.zero_add] at h; exact h⟩
  | a + 1, b, x, z, h => by
    rw [show a + 1 + b = (a + b) + 1 by omega] at h
    obtain ⟨u, r, h⟩ := h
    obtain ⟨y, h1, h2⟩ := Pth.split h
    exact ⟨y, ⟨u, r, h1⟩, h2⟩
theorem Pth.ends : ∀ {m : Nat} {x y : Int}, Pth pan st (m + 1) x y → x ∈ st ∧ y ∈ st
  | 0, x, y, ⟨z, r, h⟩ => ⟨r.1, by rw [← show z = y from h]; exact r.2.1⟩
  | m + 1, x, y, ⟨z, r, h⟩ => ⟨r.1, (Pth.ends h).2⟩
end
def Closed (pan : List (List Int)) (C : List Int) : Prop := ∀ b ∈ C, ∃ c ∈ pan.getD b.toNat [], c ∈ C
structure IsHeld (pan : List (List Int)) (st hs : List Int) : Prop where
  up : hs.Pairwise (· < ·)
  sub : ∀ x ∈ hs, x ∈ st
  closed : Closed pan hs
  most : ∀ C : List Int, Closed pan C → (∀ x ∈ C, x ∈ st) → ∀ x ∈ C, x ∈ hs
theorem IsHeld.uniq {pan : List (List Int)} {st h1 h2 : List Int} (a : IsHeld pan st h1) (b : IsHeld pan st h2) : h1 = h2 :=
  asc_ext a.up b.up fun x => ⟨fun h => b.most h1 a.closed a.sub x h, fun h => a.most h2 b.closed b.sub x h⟩
def relB (pan : List (List Int)) (os : List Int) (b : Int) : Bool := (pan.getD b.toNat []).any fun c => decide (c ∈ os)
theorem relB_iff {pan : List (List Int)} {os : List Int} {b : Int} : relB pan os b = true ↔ ∃ c ∈ pan.getD b.toNat [], c ∈ os := by
  unfold relB
  rw [List.any_eq_true]
  exact ⟨fun ⟨c, h1, h2⟩ => ⟨c, h1, of_decide_eq_true h2⟩, fun ⟨c, h1, h2⟩ => ⟨c, h1, decide_eq_true h2⟩⟩
/-- on the way to the held buttons -/
structure Hold (pan : List (List Int)) (st hs : List Int) : Prop where
  up : hs.Pairwise (· < ·)
  sub : ∀ x ∈ hs, x ∈ st
  most : ∀ C : List Int, Closed pan C → (∀ x ∈ C, x ∈ st) → ∀ x ∈ C, x ∈ hs
theorem Hold.done {pan : List (List Int)} {st hs : List Int} (h : Hold pan st hs) (hl : ¬ (hs.filter (relB pan hs)).length < hs.length) : IsHeld pan st hs := by
  have e : (hs.filter (relB pan hs)).length = hs.length := Nat.le_antisymm (List.length_filter_le _ _) (by omega)
  exact ⟨h.up, h.sub, fun b hb => relB_iff.mp (List.length_filter_eq_length_iff.mp e b hb), h.most⟩
/-- rows[x] holds the ends of ways of at most 2 ^ k links, and ends of ways only -/
structure Rch (pan : List (List Int)) (st : List Int) (k : Nat) (rows : List (List Int)) : Prop where
  len : rows.length = pan.length
  sound : ∀ (x : Nat) (l : List Int) (y : Int), rows[x]? = some l → y ∈ l → ∃ m, 1 ≤ m ∧ Pth pan st m (x : Int) y
  full : ∀ (x : Nat) (l : List Int) (y : Int) (m : Nat), rows[x]? = some l → 1 ≤ m → m ≤ 2 ^ k → Pth pan st m (x : Int) y → y ∈ l
theorem Rch.rng {pan : List (List Int)} {st : List Int} {k : Nat} {rows : List (List Int)} (h : Rch pan st k rows) (hs : ∀ x ∈ st, 0 ≤ x ∧ x < (pan.length : Int)) {x : Nat} {l : List Int} (hl : rows[x]? = some l) {y : Int} (hy : y ∈ l) : 0 ≤ y ∧ y < (pan.length : Int) := by
  obtain ⟨m, hm, p⟩ := h.sound x l y hl hy
  obtain ⟨m, rfl⟩ : ∃ k, m = k + 1 := ⟨m - 1, by omega⟩
  exact hs y (Pth.ends p).2
theorem Rch.next {pan : List (List Int)} {st : List Int} {k : Nat} {rows rows' : List (List Int)} (h : Rch pan st k rows) (hs : ∀ x ∈ st, 0 ≤ x ∧ x < (pan.length : Int)) (hl : rows'.length = rows.length)
    (hm : ∀ (x : Nat) (l l' : List Int), rows[x]? = some l → rows'[x]? = some l' → ∀ y, y ∈ l' ↔ (y ∈ l ∨ ∃ z ∈ l, y ∈ rows.getD z.toNat [])) : Rch pan st (k + 1) rows' := by
  have get : ∀ (x : Nat) (l' : List Int), rows'[x]? = some l' → ∃ l, rows[x]? = some l := fun x l' hx => by
    have := (List.getElem?_eq_some_iff.mp hx).1
    exact ⟨rows[x], List.getElem?_eq_getElem (by omega)⟩
  have nth : ∀ (z : Int), 0 ≤ z → z < (pan.length : Int) → rows[z.toNat]? = some (rows.getD z.toNat []) := fun z h0 h1 => by
    have : z.toNat < rows.length := by have := h.len; omega
    rw [List.getD_eq_getElem?_getD, List.getElem?_eq_getElem this]; rfl
  refine ⟨hl.trans h.len, fun x l' y hx hy => ?_, fun x l' y m hx h1 h2 hp => ?_⟩
  · obtain ⟨l, hl'⟩ := get x l' hx
    rcases (hm x l l' hl' hx y).mp hy with q | ⟨z, hz, q⟩
    · exact h.sound x l y hl' q
    · obtain ⟨a, ha, pa⟩ := h.sound x l z hl' hz
      have zr := h.rng hs hl' hz
      obtain ⟨b, hb, pb⟩ := h.sound z.toNat _ y (nth z zr.1 zr.2) q
      rw [Int.toNat_of_nonneg zr.1] at pb
      exact ⟨a + b, by omega, pa.join pb⟩
  · obtain ⟨l, hl'⟩ := get x l' hx
    refine (hm x l l' hl' hx y).mpr ?_
    by_cases hk : m ≤ 2 ^ k
    · exact .inl (h.full x l y m hl' h1 hk hp)
    · have e2 : 2 ^ (k + 1) = 2 ^ k + 2 ^ k := by rw [Nat.pow_succ]; omega
      have p2 : 1 ≤ 2 ^ k := Nat.one_le_two_pow
      rw [show m = 2 ^ k + (m - 2 ^ k) by omega] at hp
      obtain ⟨z, pa, pb⟩ := Pth.split hp
      have hz := h.full x l z (2 ^ k) hl' p2 (Nat.le_refl _) pa
      have zr := h.rng hs hl' hz
      refine .inr ⟨z, hz, h.full z.toNat _ y (m - 2 ^ k) (nth z zr.1 zr.2) (by omega) (by omega) ?_⟩
      rw [Int.toNat_of_nonneg zr.1]; exact pb
end Pr
namespace Pr
open PySem PySem.Spec PyProof.Rows L2
/-- what b releases -/
abbrev relM (pan : List (List Int)) (b : Int) : List Int := pan.getD b.toNat []
/-- which buttons may be pressed on the way to the goal -/
def PrOk (pan : List (List Int)) (goal hs G : List Int) (b : Int) : Prop := (b ∈ goal ∧ b ∉ hs) ∨ (b ∈ G ∧ ∀ x ∈ relM pan b, x ∉ hs)
section
variable {pan : List (List Int)} {goal hs G : List Int}
/-- a button of the goal that is not held releases no held one -/
theorem free_of (hh : IsHeld pan goal hs) {b : Int} (hb : b ∈ goal) (hn : b ∉ hs) : ∀ x ∈ relM pan b, x ∉ hs := fun x hx hxs => by
  refine hn (hh.most (b :: hs) ?_ ?_ b List.mem_cons_self)
  · intro y hy
    rcases List.mem_cons.mp hy with rfl | hy
    · exact ⟨x, hx, List.mem_cons_of_mem _ hxs⟩
    · obtain ⟨z, h1, h2⟩ := hh.closed y hy
      exact ⟨z, h1, List.mem_cons_of_mem _ h2⟩
  · intro y hy
    rcases List.mem_cons.mp hy with rfl | hy
    · exact hb
    · exact hh.sub y hy
theorem PrOk.free (hh : IsHeld pan goal hs) {b : Int} (h : PrOk pan goal hs G b) : ∀ x ∈ relM pan b, x ∉ hs := by
  rcases h with ⟨h1, h2⟩ | ⟨_, h2⟩
  · exact free_of hh h1 h2
  · exact h2
end
end Pr
namespace Pr
open PySem PySem.Spec PyProof.Rows L2
end Pr
namespace Pr
open PySem PySem.Spec PyProof.Rows L2
/-- the states found after the buttons of `most`, in the order in which they are found -/
def betM (least : List Int) : List Int → List (List Int)
  | [] => [least]
  | b :: r => let s := betM least r; if b ∈ least then s else s ++ s.map fun l => srt (l ++ [b])
theorem srt_mem {l : List Int} {x : Int} : x ∈ srt l ↔ x ∈ l := (srt_perm l).mem_iff
/-- what is found lies between the two -/
theorem betM_sub {least : List Int} : ∀ {most l : List Int}, l ∈ betM least most → (∀ x ∈ least, x ∈ l) ∧ ∀ x ∈ l, x ∈ least ∨ x ∈ most
  | [], l, h => by
    rw [List.mem_singleton.mp h]
    exact ⟨fun _ h => h, fun _ h => .inl h⟩
  | b :: r, l, h => by
    unfold betM at h
    dsimp only at h
    split at h
    · have := betM_sub h
      exact ⟨this.1, fun x hx => (this.2 x hx).imp_right (List.mem_cons_of_mem _)⟩
    · rcases List.mem_append.mp h with h | h
      · have := betM_sub h
        exact ⟨this.1, fun x hx => (this.2 x hx).imp_right (List.mem_cons_of_mem _)⟩
      · obtain ⟨k, hk, rfl⟩ := List.mem_map.mp h
        have := betM_sub hk
        refine ⟨fun x hx => srt_mem.mpr (List.mem_append_left _ (this.1 x hx)), fun x hx => ?_⟩
        rcases List.mem_append.mp (srt_mem.mp hx) with h1 | h1
        · exact (this.2 x h1).imp_right (List.mem_cons_of_mem _)
        · rw [List.mem_singleton.mp h1]; exact .inr List.mem_cons_self
theorem srt_asc {l : List Int} (nd : l.Nodup) : (srt l).Pairwise (· < ·) := by
  have nd' : (srt l).Nodup := (srt_perm l).nodup_iff.mpr nd
  exact (List.Pairwise.and (srt_up l) nd').imp fun {a b} h => by have := h.1; have := h.2; omega
/-- all that lie between the two are found -/
theorem betM_all {least : List Int} (hl : least.Pairwise (· < ·)) : ∀ {most l : List Int}, l.Pairwise (· < ·) → (∀ x ∈ least, x ∈ l) → (∀ x ∈ l, x ∈ least ∨ x ∈ most) → l ∈ betM least most
  | [], l, up, h1, h2 => by
    refine List.mem_singleton.mpr (asc_ext up hl fun x => ⟨fun hx => ?_, h1 x⟩)
    rcases h2 x hx with h | h
    · exact h
    · cases h
  | b :: r, l, up, h1, h2 => by
    have nd : l.Nodup := up.imp fun {a c} (h : a < c) => Int.ne_of_lt h
    unfold betM
    dsimp only
    by_cases hb : b ∈ least
    · rw [if_pos hb]
      refine betM_all hl up h1 fun x hx => ?_
      rcases h2 x hx with h | h
      · exact .inl h
      · rcases List.mem_cons.mp h with rfl | h
        · exact .inl hb
        · exact .inr h
    · rw [if_neg hb]
      by_cases hbl : b ∈ l
      · have e : srt (l.erase b ++ [b]) = l := by
          have nd2 : (l.erase b ++ [b]).Nodup := by
            rw [List.nodup_append]
            refine ⟨nd.erase b, by simp, fun x hx y hy e => ?_⟩
            rw [List.mem_singleton.mp hy] at e
            rw [e] at hx
            exact (nd.not_mem_erase) hx
          refine asc_ext (srt_asc nd2) up fun x => ?_
          rw [srt_mem, List.mem_append, List.mem_singleton]
          by_cases ex : x = b
          · subst ex; exact ⟨fun _ => hbl, fun _ => .inr rfl⟩
          · rw [List.mem_erase_of_ne ex]
            exact ⟨fun h => h.resolve_right ex, .inl⟩
        refine List.mem_append_right _ (List.mem_map.mpr ⟨l.erase b, ?_, e⟩)
        refine betM_all hl (up.sublist List.erase_sublist) (fun x hx => (List.mem_erase_of_ne (fun z : x = b => hb (by rw [← z]; exact hx))).mpr (h1 x hx)) fun x hx => ?_
        rcases h2 x (List.mem_of_mem_erase hx) with h | h
        · exact .inl h
        · rcases List.mem_cons.mp h with rfl | h
          · exact absurd hx nd.not_mem_erase
          · exact .inr h
      · refine List.mem_append_left _ (betM_all hl up h1 fun x hx => ?_)
        rcases h2 x hx with h | h
        · exact .inl h
        · rcases List.mem_cons.mp h with rfl | h
          · exact absurd hx hbl
          · exact .inr h
end Pr
namespace Pr
open PySem PySem.Spec PyProof.Rows L2 PpSet
end Pr
namespace Pr
open PySem PySem.Spec PyProof.Rows L2 PySem.W
end Pr
namespace Pr
open PySem PySem.Spec PyProof.Rows L2 PpSet
/-- a term gives a plain tuple of ints -/
def GvP (t : TE) (σ : L2.St) (H : Hp) (l : List Int) : Prop := ∀ H1, Same H H1 → ∀ Q : VK, (∀ a H', Same H1 H' → H' a = some (.tup (l.map V.int)) → Q (.ref a) H') → t σ H1 Q
theorem GvP.at {t : TE} {σ : L2.St} {H : Hp} {l : List Int} {Q : VK} (h : GvP t σ H l) (q : ∀ a H', Same H H' → H' a = some (.tup (l.map V.int)) → Q (.ref a) H') : t σ H Q := h H (Same.refl _) Q q
end Pr
namespace Pr
open PySem PySem.Spec PyProof.Rows L2
end Pr
namespace Pr
open PySem PySem.Spec PyProof.Rows L2
/-- n items of which P holds -/
def AllP (P : PyData → Prop) (n : Nat) (ds : List PyData) : Prop := ds.length = n ∧ ∀ d ∈ ds, P d
/-- a tuple of at most n items of which P holds -/
def TupP (P : PyData → Prop) (n : Nat) (d : PyData) : Prop := ∃ ds, d = .tuple ds ∧ ds.length ≤ n ∧ ∀ x ∈ ds, P x
theorem AllP.nil {P : PyData → Prop} : AllP P 0 [] := ⟨rfl, fun _ h => by cases h⟩
theorem AllP.cons {P : PyData → Prop} {n : Nat} {d : PyData} {ds : List PyData} (h : P d) (r : AllP P n ds) : AllP P (n + 1) (d :: ds) :=
  ⟨by rw [List.length_cons, r.1], fun x hx => by
    rcases List.mem_cons.mp hx with rfl | hx
    · exact h
    · exact r.2 x hx⟩
theorem AllP.append {P : PyData → Prop} {n m : Nat} {ds es : List PyData} (h : AllP P n ds) (r : AllP P m es) : AllP P (n + m) (ds ++ es) :=
  ⟨by rw [List.length_append, h.1, r.1], fun x hx => (List.mem_append.mp hx).elim (h.2 x) (r.2 x)⟩
theorem AllP.mono {P P' : PyData → Prop} {n : Nat} {ds : List PyData} (h : AllP P n ds) (f : ∀ d, P d → P' d) : AllP P' n ds := ⟨h.1, fun d hd => f d (h.2 d hd)⟩
theorem TupP.mono {P P' : PyData → Prop} {n m : Nat} {d : PyData} (h : TupP P n d) (f : ∀ d, P d → P' d) (hm : n ≤ m) : TupP P' m d :=
  let ⟨ds, e, l, q⟩ := h; ⟨ds, e, Nat.le_trans l hm, fun x hx => f x (q x hx)⟩
end Pr
namespace Pr
open PySem PySem.Spec PyProof.Rows L2
theorem eqv_intsL : ∀ (ns ms : List Int), PyData.eqvAll (ns.map PyData.int) (ms.map PyData.int) = decide (ns = ms)
  | [], [] => by simp [PyData.eqvAll]
  | [], _ :: _ => by simp [PyData.eqvAll]
  | _ :: _, [] => by simp [PyData.eqvAll]
  | x :: r, y :: t => by
    simp only [List.map_cons, PyData.eqvAll, PyData.eqv, eqv_intsL r t]
    by_cases h : x = y <;> by_cases h2 : r = t <;> simp [h, h2]
theorem canLay_ints : ∀ ns : List Int, PyData.canLayAll0 (ns.map PyData.int) = true ∧ PyData.depthAll (ns.map PyData.int) = 0
  | [] => ⟨by simp [PyData.canLayAll0], by simp [PyData.depthAll]⟩
  | x :: r => by
    obtain ⟨h1, h2⟩ := canLay_ints r
    exact ⟨by simp [PyData.canLayAll0, PyData.canLay0, h1], by simp [PyData.depthAll, PyData.depth, h2]⟩
end Pr
namespace Pr
open PySem PySem.Spec PyProof.Rows L2
theorem shp_ints (ns : List Int) : SeqAt.shaped (dInts ns) = true := by
  obtain ⟨h1, h2⟩ := canLay_ints ns
  simp [dInts, SeqAt.shaped, PyData.canLay0, PyData.depth, h1, h2]
theorem eqv_di (ns ms : List Int) : PyData.eqv (dInts ns) (dInts ms) = decide (ns = ms) := by
  unfold dInts
  simp only [PyData.eqv]
  exact eqv_intsL ns ms
theorem lay_rows : ∀ a : List (List Int), PyData.canLayAll0 (a.map dInts) = true ∧ PyData.depthAll (a.map dInts) ≤ 1
  | [] => ⟨by simp [PyData.canLayAll0], by simp [PyData.depthAll]⟩
  | x :: r => by
    obtain ⟨h1, h2⟩ := lay_rows r
    obtain ⟨g1, g2⟩ := canLay_ints x
    refine ⟨by simp [PyData.canLayAll0, dInts, PyData.canLay0, h1, g1], ?_⟩
    simp only [List.map_cons, PyData.depthAll, dInts, PyData.depth, g2]
    omega
theorem shp_rowsL (a : List (List Int)) : SeqAt.shaped (.list (a.map dInts)) = true := by
  obtain ⟨h1, h2⟩ := lay_rows a
  simp only [SeqAt.shaped, PyData.canLay0, PyData.depth, h1, Bool.true_and]
  exact decide_eq_true (by omega)
section
variable {K : PySem.W.Frag} {σ : L2.St} {H : Hp} {t tk ta tb : TE}
theorem gv_neI1 {l m : List Int} (ha : Gv K ta σ H (dInts l)) (hb : Gv K tb σ H (dInts m)) : Gv K (tOp (rNeD K) ta tb) σ H (.bool (!decide (l = m))) := (gv_neD ha hb (shp_ints _) (shp_ints _)).to (by rw [eqv_di])
theorem gv_cat1 {l m : List Int} (ha : Gv K ta σ H (dInts l)) (hb : Gv K tb σ H (dInts m)) (hn : l.length + m.length ≤ 100000) : Gv K (tOp (rCatS K) ta tb) σ H (dInts (l ++ m)) := (gv_catT ha hb (by rw [List.length_map, List.length_map]; exact hn)).to (by unfold dInts; rw [List.map_append])
end
end Pr
namespace Pr
open PySem PySem.Spec PyProof.Rows L2 PpSet PySem.W
end Pr
namespace Pr
open PySem PySem.W PySem.Calls PyProof.Rows PyProof.V PySem.Spec RZ
section
variable {prog : Program} {w : World} {A : Around} {E : Value → Shared → Prop} {s : Shared}
/-- how the zip stands after i turns, S a list besides -/
def ZSt (h : Heap) (z TI TO i1 i2 l1 l2 S : Addr) (i : Nat) : Prop :=
  IsPair h TI (.ref i1) (.ref i2) ∧ h.IsTupleIter i1 l1 i ∧ h.IsTupleIter i2 l2 i ∧
  ((i = 0 ∧ IsZip h z TI TO .none ∧ ∃ a b, IsPair h TO a b) ∨ ∃ T f oT, IsZipHeld h z TI TO T f ∧ h.get? T = some oT ∧ T ≠ S ∧ T ≠ z ∧ T ≠ i1 ∧ T ≠ i2)
structure OffS (S z TI TO i1 i2 l1 l2 : Addr) : Prop where
  z : z ≠ S
  TI : TI ≠ S
  TO : TO ≠ S
  i1 : i1 ≠ S
  i2 : i2 ≠ S
  l1 : l1 ≠ S
  l2 : l2 ≠ S
theorem ZSt.keep {h h' : Heap} {z TI TO i1 i2 l1 l2 S : Addr} {i : Nat} (x : ZSt h z TI TO i1 i2 l1 l2 S i) (F : OffS S z TI TO i1 i2 l1 l2) (hk : ∀ b o, b ≠ S → h.get? b = some o → h'.get? b = some o) : ZSt h' z TI TO i1 i2 l1 l2 S i := by
  obtain ⟨a1, a2, a3, a4⟩ := x
  refine ⟨hk _ _ F.TI a1, a2.at fun o e => hk _ o F.i1 e, a3.at fun o e => hk _ o F.i2 e, ?_⟩
  rcases a4 with ⟨e, b1, a, b, b2⟩ | ⟨T, f, oT, b1, b2, b3⟩
  · exact .inl ⟨e, hk _ _ F.z b1, a, b, hk _ _ F.TO b2⟩
  · exact .inr ⟨T, f, oT, hk _ _ F.z b1, hk _ _ b3.1 b2, b3⟩
end
end Pr
namespace Pr
open PySem PySem.Spec PyProof.Rows L2
def tlen : PyData → Bool
  | .tuple es => decide (es.length ≤ 60)
  | _ => true
def smlB : PyData → Bool
  | .tuple ds => ds.all tlen
  | _ => true
def lowB (d : PyData) : Bool := d.showable && decide (d.depth ≤ 3) && decide (d.shown.length ≤ 60) && tlen d && smlB d
/-- a small thing: at most three deep, at most sixty signs -/
def Low (d : PyData) : Prop := lowB d = true
theorem Low.len {d : PyData} (h : Low d) : tlen d = true := by
  simp only [Low, lowB, Bool.and_eq_true, decide_eq_true_eq] at h
  exact h.1.2
end Pr
namespace Pr
open PySem PySem.Spec PyProof.Rows L2
end Pr
namespace Pr
open PySem PySem.Spec PyProof.Rows L2
section
variable {X : Cx}
theorem pmk_own0 {C : Addr} {bmB : List Value} {B newId initId : String} {x : Str} {p pos : Pos} (F : ExcBaseFacts B newId initId bmB) (q : PySem.W.excIn X.K C bmB newId = true) (gC : X.mg x = some (.ref C)) (kC : PySem.W.keepIn X.K (.ref C) = true) (r : Raises X (.ref C)) (hg : Gl X x)
    (hdb : (x == ("__debug__" : Str)) = false := by decide) : PMk X (.Call (.Name x p) [] [] pos) (fun _ H Q => Q (.ref C) none H) := by
  intro pins s σ H Q I h
  refine wpAny_Call_Name_kw (ld_glob I hg gC ?_ hdb)
  refine PySem.W.callWith_K0 I.kIn kC ?_
  show wpAny _ _ (call (.ref C) []) _ _ _
  obtain ⟨bm, N, nm, qn, bs, hdct, sn, sub, ab, col, dd, k0, k1, k2, k3, k5, mN, hC, hN, hni, T⟩ := exc_obj I.kIn q
  refine wpAny_call_exc_subT F T hC hN hni (fun h' e hm => ?_) (by show 0 ≤ sizeLine; omega)
  exact mk_of I hm r h (I.hok.gone hm.new)
/-- what the top says of such a class -/
structure Ex0 (K : PySem.W.Frag) (mg : Str → Option Value) (nm : Str) (C : Addr) : Prop where
  q : PySem.W.excIn K C [.type "ValueError", .type "Exception", .type "BaseException", .type "object"] "ValueError.__new__" = true
  g : mg nm = some (.ref C)
  k : PySem.W.keepIn K (.ref C) = true
  s : PySem.W.subIn K (.ref C) (.type "BaseException") = some true
  t : PySem.W.typeIn K (.ref C) = some (.type "type")
theorem Ex0.made {nm : Str} {C : Addr} {p pos : Pos} (T : Ex0 X.K X.mg nm C) (hg : Gl X nm) (hdb : (nm == ("__debug__" : Str)) = false := by decide) : PMk X (.Call (.Name nm p) [] [] pos) (fun _ H Q => Q (.ref C) none H) :=
  pmk_own0 PySem.F.excBase_ValueError T.q T.g T.k (raises_own T.s T.t) hg hdb
end
end Pr
namespace Pr
open PySem PySem.Spec PyProof.Rows L2
end Pr
namespace Pr
open PySem PySem.Spec PyProof.Rows L2
section
variable {K : PySem.W.Frag} {H H' : Hp} {pan : List (List Int)}
theorem panT_dp {v : V} (h : Dp K H v (dPan pan)) : ∃ p, v = .ref p ∧ PanT K H p pan := by
  obtain ⟨p, xs, rfl, hq, hr⟩ := h.tupI
  have : ∀ (xs : List V) (pan : List (List Int)), DpAll K H xs (pan.map dInts) → ∃ qs : List Addr, xs = qs.map V.ref ∧ Paired (fun q l => SqT K H q (l.map V.int)) qs pan := by
    intro xs pan
    induction pan generalizing xs with
    | nil => intro h; cases h; exact ⟨[], rfl, .nil⟩
    | cons l pan ih =>
      intro h
      cases h with
      | cons h1 h2 =>
        obtain ⟨q, rfl, hq⟩ := h1.intsI
        obtain ⟨qs, rfl, hqs⟩ := ih _ h2
        exact ⟨q :: qs, rfl, .cons hq hqs⟩
  obtain ⟨qs, rfl, hqs⟩ := this xs pan hr
  exact ⟨p, rfl, qs, hq, hqs⟩
end
/-- all but the object at g stands as before -/
def ButO (g : Addr) (H H' : Hp) : Prop := ∀ b o, b ≠ g → H b = some o → H' b = some o
theorem ButO.refl (g : Addr) (H : Hp) : ButO g H H := fun _ _ _ e => e
theorem ButO.of {g : Addr} {H H' : Hp} (s : Same H H') : ButO g H H' := fun b o _ e => s b o e
theorem ButO.trans {g : Addr} {H H1 H2 : Hp} (x : ButO g H H1) (y : ButO g H1 H2) : ButO g H H2 := fun b o n e => y b o n (x b o n e)
theorem ButO.kp {g C dx : Addr} {fs : List (Str × V)} {H H' : Hp} (h : H g = some (.ins C dx fs)) (b : ButO g H H') : Kp H H' :=
  ⟨fun p xs e => b _ _ (ne_of e h (by intro z; cases z)) e, fun p o u e => b _ _ (ne_of e h (by intro z; cases z)) e⟩
theorem PanT.kp {K : PySem.W.Frag} {H H' : Hp} {p : Addr} {pan : List (List Int)} (k : Kp H H') (h : PanT K H p pan) : PanT K H' p pan := by
  obtain ⟨p', e, h'⟩ := panT_dp (h.dp.kp k (lf_pan _))
  cases e; exact h'
end Pr
namespace Pr
open PySem PySem.Spec PyProof.Rows L2
end Pr
namespace Pr
open PySem PySem.Spec PyProof.Rows L2
def Dk3 (H : Hp) (a c r : Addr) (m : Nat) : Prop :=
  ∃ (cells rests : List Int) (n : Nat), H a = some (.lst [.ref c, .int (n : Int), .ref r]) ∧ H c = some (.lst (cells.map V.int)) ∧ H r = some (.lst (rests.map V.int)) ∧ a ≠ c ∧ a ≠ r ∧ c ≠ r ∧
    1 ≤ cells.length ∧ cells.length ≤ 63 ∧ rests.length = cells.length ∧ n + m ≤ 1000000
theorem Dk3.same {H H' : Hp} {a c r : Addr} {m : Nat} (e : Same H H') (h : Dk3 H a c r m) : Dk3 H' a c r m :=
  let ⟨cs, rs, n, h1, h2, h3, h4⟩ := h; ⟨cs, rs, n, e _ _ h1, e _ _ h2, e _ _ h3, h4⟩
theorem Dk3.less {H : Hp} {a c r : Addr} {m m' : Nat} (h : Dk3 H a c r m) (z : m' ≤ m) : Dk3 H a c r m' :=
  let ⟨cs, rs, n, h1, h2, h3, h4, h5, h6, h7, h8, h9, h10⟩ := h; ⟨cs, rs, n, h1, h2, h3, h4, h5, h6, h7, h8, h9, by omega⟩
theorem Dk3.apart {H : Hp} {a c r : Addr} {m : Nat} (h : Dk3 H a c r m) {b : Addr} {o : HO} (e : H b = some o) (ho : ∀ xs, o ≠ .lst xs) : b ≠ a ∧ b ≠ r := by
  obtain ⟨cs, rs, n, h1, h2, h3, _⟩ := h
  exact ⟨ne_of e h1 (ho _), ne_of e h3 (ho _)⟩
theorem Dk3.fresh {H : Hp} {a c r : Addr} {m : Nat} (h : Dk3 H a c r m) {b : Addr} (e : H b = none) : b ≠ a ∧ b ≠ r ∧ b ≠ c := by
  obtain ⟨cs, rs, n, h1, h2, h3, _⟩ := h
  exact ⟨Ne.symm (ne_of_none h1 e), Ne.symm (ne_of_none h3 e), Ne.symm (ne_of_none h2 e)⟩
theorem But.free {a c : Addr} {H H' : Hp} {b : Addr} (x : But a c H H') (h1 : b ≠ a) (h2 : b ≠ c) (e : H' b = none) : H b = none := by
  cases q : H b with
  | none => rfl
  | some o => have := x b o h1 h2 q; rw [e] at this; cases this
theorem cut_ints (ns : List Int) (lo hi : Option Int) : ∃ ms : List Int, cutV (ns.map V.int) lo hi = ms.map V.int ∧ ms.length ≤ ns.length := by
  refine ⟨(ns.drop (HT.sIx ns.length 0 lo)).take (HT.sIx ns.length ns.length hi - HT.sIx ns.length 0 lo), ?_, ?_⟩
  · unfold cutV
    rw [List.length_map, List.map_take, List.map_drop]
  · rw [List.length_take, List.length_drop]; omega
end Pr
namespace Pr
open PySem PySem.Spec PyProof.Rows L2
/-- kvs holds the last place of each of the first i -/
def LastAt (row : List Int) (i : Nat) (kvs : List (Key × V)) : Prop :=
  ∀ x : Int, x ∈ row.take i → ∃ j : Nat, row[j]? = some x ∧ j < i ∧ (∀ m, j < m → m < i → row[m]? ≠ some x) ∧ valV kvs (Sum.inl x) = some (.int (j : Int))
theorem LastAt.nil (row : List Int) (kvs : List (Key × V)) : LastAt row 0 kvs := fun x h => by simp at h
end Pr
namespace Pr
open PySem PySem.Spec PyProof.Rows L2
theorem foldl_word (pan : List (List Int)) (c : Int) : ∀ (row : List Int) (w : Str), row.foldl (wordM pan c) w = if row.foldl (wordM pan c) wSame = wSame then w else row.foldl (wordM pan c) wSame
  | [], w => by
    show w = if wSame = wSame then w else wSame
    rw [if_pos rfl]
  | b :: r, w => by
    rw [List.foldl_cons, List.foldl_cons]
    unfold wordM
    by_cases h1 : b = c
    · rw [if_pos h1, if_pos h1, if_neg fun z => ?_]
      exact same_ne_on ((words_same r wOn).mp z).1.symm
    · rw [if_neg h1, if_neg h1]
      by_cases h2 : c ∈ pan.getD b.toNat []
      · rw [if_pos h2, if_pos h2, if_neg fun z => ?_]
        exact same_ne_off ((words_same r wOff).mp z).1.symm
      · rw [if_neg h2, if_neg h2]
        exact foldl_word pan c r w
theorem words_app (pan : List (List Int)) (r1 r2 : List Int) (c : Int) : wordsM pan (r1 ++ r2) c = if wordsM pan r2 c = wSame then wordsM pan r1 c else wordsM pan r2 c := by
  unfold wordsM
  rw [List.foldl_append, foldl_word]
theorem eff_app (pan : List (List Int)) (r1 r2 : List Int) : effM pan (r1 ++ r2) = joinM (effM pan r1) (effM pan r2) := by
  unfold joinM effM
  rw [List.zipWith_map, List.zipWith_self]
  exact List.map_congr_left fun c _ => words_app pan r1 r2 c
theorem eff_one {pan : List (List Int)} (g : Good pan) {b : Int} (h0 : 0 ≤ b) (h1 : b < (pan.length : Int)) : effM pan [b] = pressW pan b := by
  unfold effM pressW
  refine List.map_congr_left fun c _ => ?_
  have := wordM_join g h0 h1 c wSame
  show wordM pan (c : Int) wSame b = _
  rw [← this]
  by_cases e : onM (pan.getD b.toNat []) b c = wSame
  · rw [if_pos e, e]
  · rw [if_neg e]
theorem eff_cons {pan : List (List Int)} (g : Good pan) {b : Int} (h0 : 0 ≤ b) (h1 : b < (pan.length : Int)) (r : List Int) : effM pan (b :: r) = joinM (pressW pan b) (effM pan r) := by
  rw [show b :: r = [b] ++ r from rfl, eff_app, eff_one g h0 h1]
theorem words_iff {pan : List (List Int)} {row : List Int} {c : Int} : wordsM pan row c = wSame ↔ ¬ metB pan row c := by
  unfold wordsM
  rw [words_same]
  exact ⟨fun h => h.2, fun h => ⟨rfl, h⟩⟩
def partB (e v : List Str) : Bool := (List.zipWith (fun a b => decide (a = wSame ∨ a = b)) e v).all id
theorem part_iff : ∀ {e v : List Str}, e.length = v.length → (partB e v = true ↔ ∀ (c : Nat) (x y : Str), e[c]? = some x → v[c]? = some y → x = wSame ∨ x = y)
  | [], [], _ => ⟨(fun _ c x y h => by cases h), fun _ => rfl⟩
  | a :: e, b :: v, hl => by
    have ih := part_iff (e := e) (v := v) (by simpa using hl)
    unfold partB at ih ⊢
    rw [List.zipWith_cons_cons, List.all_cons, Bool.and_eq_true, ih]
    constructor
    · rintro ⟨h1, h2⟩ c x y hx hy
      match c, hx, hy with
      | 0, hx, hy => cases hx; cases hy; exact of_decide_eq_true h1
      | c + 1, hx, hy => exact h2 c x y hx hy
    · intro h
      exact ⟨decide_eq_true (h 0 a b rfl rfl), fun c x y hx hy => h (c + 1) x y hx hy⟩
theorem eff_get {pan : List (List Int)} {row : List Int} {c : Nat} (hc : c < pan.length) : (effM pan row)[c]? = some (wordsM pan row (c : Int)) := by
  unfold effM
  rw [List.getElem?_map, List.getElem?_range hc]; rfl
theorem part_eff {pan : List (List Int)} {row : List Int} {v : List Str} (hv : v.length = pan.length) : partB (effM pan row) v = true ↔ ∀ (c : Nat) (y : Str), v[c]? = some y → wordsM pan row (c : Int) = wSame ∨ wordsM pan row (c : Int) = y := by
  rw [part_iff (by rw [effM_len, hv])]
  constructor
  · intro h c y hy
    have hc : c < pan.length := by have := (List.getElem?_eq_some_iff.mp hy).1; omega
    exact h c _ y (eff_get hc) hy
  · intro h c x y hx hy
    have hc : c < pan.length := by have := (List.getElem?_eq_some_iff.mp hy).1; omega
    rw [eff_get hc] at hx
    obtain rfl := Option.some.inj hx
    exact h c y hy
end Pr
namespace Pr
open PySem PySem.Spec PyProof.Rows L2
end Pr
namespace Pr
open PySem PySem.Spec PyProof.Rows L2
theorem wordOne (pan : List (List Int)) (b c : Int) : wordsM pan [b] c = if b = c then wOn else if c ∈ pan.getD b.toNat [] then wOff else wSame := rfl
theorem memRun {pan : List (List Int)} {c : Int} (c0 : 0 ≤ c) (c1 : c < (pan.length : Int)) : ∀ (row st : List Int),
    (c ∈ runM pan st row ↔ wordsM pan row c = wOn ∨ (wordsM pan row c = wSame ∧ c ∈ st))
  | [], st => by
    show c ∈ st ↔ wSame = wOn ∨ (wSame = wSame ∧ c ∈ st)
    constructor
    · exact fun h => .inr ⟨rfl, h⟩
    · rintro (h | h)
      · exact absurd h same_ne_on
      · exact h.2
  | b :: r, st => by
    have ih := memRun c0 c1 r (pressM pan st b)
    have e : wordsM pan (b :: r) c = if wordsM pan r c = wSame then wordsM pan [b] c else wordsM pan r c := words_app pan [b] r c
    show c ∈ runM pan (pressM pan st b) r ↔ _
    rw [ih, e, mem_pressM]
    by_cases hs : wordsM pan r c = wSame
    · rw [if_pos hs, wordOne, hs]
      by_cases hc : b = c
      · subst hc
        simp [c0, c1]
      · rw [if_neg hc]
        by_cases hp : c ∈ pan.getD b.toNat []
        · rw [if_pos hp]
          have n1 : ¬ c = b := fun h => hc h.symm
          simp only [hp, n1, not_true_eq_false, and_false, or_false, false_or, same_ne_on]
          constructor
          · exact fun h => h.elim
          · rintro (h | h)
            · exact on_ne_off h.symm
            · exact same_ne_off h.1.symm
        · rw [if_neg hp]
          have n1 : ¬ c = b := fun h => hc h.symm
          simp only [hp, n1, c0, c1, same_ne_on, not_false_eq_true, and_true, true_and, false_or]
    · rw [if_neg hs]
      simp [hs]
end Pr
namespace Pr
open PySem PySem.Spec PyProof.Rows L2
end Pr
namespace Pr
open PySem PySem.Spec PyProof.Rows L2
def UseF (pan : List (List Int)) (v : List Str) (t : List Int) (x : Nat) : Prop := effM pan ((x : Int) :: t) ≠ effM pan t ∧ partB (effM pan ((x : Int) :: t)) v = true
inductive Gr (pan : List (List Int)) (v : List Str) : List Int → Prop
  | nil : Gr pan v []
  | cons {t : List Int} {b : Nat} (h : Gr pan v t) (ne : effM pan t ≠ v) (u : UseF pan v t b) (f : ∀ y : Nat, y < b → ¬ UseF pan v t y) : Gr pan v ((b : Int) :: t)
section
variable {pan : List (List Int)} {v : List Str}
theorem Gr.suf : ∀ (u : List Int), Gr pan v u → ∀ t, Gr pan v t → t.length ≤ u.length → ∃ s, u = s ++ t
  | [], _, t, _, hl => by
    cases t with
    | nil => exact ⟨[], rfl⟩
    | cons _ _ => exact absurd hl (by simp)
  | c :: u, hu, t, ht, hl => by
    cases hu with
    | cons h ne us f =>
      rcases Nat.lt_or_ge u.length t.length with hlt | hge
      · cases ht with
        | nil => exact absurd hlt (by simp)
        | cons h' ne' us' f' =>
          rename_i t' b' 
          obtain ⟨s, e⟩ := Gr.suf u h t' h' (by simp only [List.length_cons] at hl; omega)
          have hs : s = [] := by
            have := congrArg List.length e
            rw [List.length_append] at this
            simp only [List.length_cons] at hlt hl
            exact List.eq_nil_of_length_eq_zero (by omega)
          subst hs
          rw [List.nil_append] at e
          subst e
          rename_i b
          have : b = b' := by
            rcases Nat.lt_trichotomy b b' with h1 | h1 | h1
            · exact absurd us (f' b h1)
            · exact h1
            · exact absurd us' (f b' h1)
          subst this
          exact ⟨[], rfl⟩
      · obtain ⟨s, e⟩ := Gr.suf u h t ht hge
        subst e
        exact ⟨_ :: s, rfl⟩
theorem Gr.inner : ∀ (s : List Int) (t : List Int), s ≠ [] → Gr pan v (s ++ t) → effM pan t ≠ v
  | [], _, h, _ => absurd rfl h
  | [c], t, _, h => by
    cases h with
    | cons _ ne _ _ => exact ne
  | c :: d :: s, t, _, h => by
    cases h with
    | cons h _ _ _ => exact Gr.inner (d :: s) t (by simp) h
theorem Gr.uniq {t u : List Int} (ht : Gr pan v t) (et : effM pan t = v) (hu : Gr pan v u) (eu : effM pan u = v) : t = u := by
  rcases Nat.le_total t.length u.length with hl | hl
  · obtain ⟨s, e⟩ := Gr.suf u hu t ht hl
    by_cases hs : s = []
    · rw [e, hs]; rfl
    · exact absurd et (Gr.inner s t hs (e ▸ hu))
  · obtain ⟨s, e⟩ := Gr.suf t ht u hu hl
    by_cases hs : s = []
    · rw [e, hs]; rfl
    · exact absurd eu (Gr.inner s u hs (e ▸ ht))
end
end Pr
namespace Pr
open PySem PySem.Spec PyProof.Rows L2
theorem betM_len {least : List Int} : ∀ {most l : List Int}, l ∈ betM least most → l.length ≤ least.length + most.length
  | [], l, h => by rw [List.mem_singleton.mp h]; exact Nat.le_refl _
  | b :: r, l, h => by
    unfold betM at h
    dsimp only at h
    rw [List.length_cons]
    split at h
    · have := betM_len h; omega
    · rcases List.mem_append.mp h with h | h
      · have := betM_len h; omega
      · obtain ⟨k, hk, rfl⟩ := List.mem_map.mp h
        have := betM_len hk
        rw [(srt_perm _).length_eq, List.length_append, List.length_singleton]; omega
theorem betM_count {least : List Int} : ∀ most : List Int, (betM least most).length ≤ 2 ^ most.length
  | [] => Nat.le_refl _
  | b :: r => by
    have := betM_count (least := least) r
    unfold betM
    dsimp only
    rw [List.length_cons, Nat.pow_succ]
    split
    · omega
    · rw [List.length_append, List.length_map]; omega
theorem betM_head {least : List Int} : ∀ most : List Int, (betM least most).head? = some least
  | [] => rfl
  | b :: r => by
    have := betM_head (least := least) r
    unfold betM
    dsimp only
    split
    · exact this
    · rw [List.head?_append, this]; rfl
theorem betM_step {least r : List Int} {b : Int} (hb : b ∉ least) : betM least (b :: r) = betM least r ++ (betM least r).map fun l => srt (l ++ [b]) := by
  show (let s := betM least r; if b ∈ least then s else s ++ s.map fun l => srt (l ++ [b])) = _
  dsimp only
  rw [if_neg hb]
theorem betM_skip {least r : List Int} {b : Int} (hb : b ∈ least) : betM least (b :: r) = betM least r := by
  show (let s := betM least r; if b ∈ least then s else s ++ s.map fun l => srt (l ++ [b])) = _
  dsimp only
  rw [if_pos hb]
theorem betM_sortable (least most : List Int) : (∀ k ∈ betM least most, k ≠ []) ∨ (betM least most).head? = some [] := by
  cases least with
  | nil => exact .inr (betM_head _)
  | cons x r =>
    refine .inl fun k hk e => ?_
    have := (betM_sub hk).1 x List.mem_cons_self
    rw [e] at this; cases this
theorem dpAll_get {K : PySem.W.Frag} {H : Hp} : ∀ {vs : List V} {ds : List PyData} {m : Nat} {v : V}, DpAll K H vs ds → vs[m]? = some v → ∃ d, ds[m]? = some d ∧ Dp K H v d
  | _, _, 0, v, .cons d r, h => by simp at h; subst h; exact ⟨_, rfl, d⟩
  | _, _, m + 1, v, .cons d r, h => by rw [List.getElem?_cons_succ] at h; rw [List.getElem?_cons_succ]; exact dpAll_get r h
  | _, _, m, v, .nil, h => by simp at h
end Pr
namespace Pr
open PySem PySem.Spec PyProof.Rows L2
end Pr
namespace K33
open PySem PySem.Spec PyProof.Rows L2 Pr
theorem gs_seqS {t u : TS} {D : Ends} {σ : L2.St} {H : Hp} (J : L2.St → Hp → Prop) (hk : ∀ σ' H', J σ' H' → u D σ' H') (h : (∀ σ' H', J σ' H' → u D σ' H') → t { D with nx := u D } σ H) : tSeq t u D σ H := h hk
def nBetw : List Str := ["least", "most", "states", "button", "state"]
theorem scBetw : FnScope nBetw ["least", "most"] (defScope sBetw) := ⟨rfl, rfl, rfl, by decide +kernel, rfl, by decide +kernel, by decide +kernel⟩
section
variable {P : Program} {w : World} {K : PySem.W.Frag} {mg : Str → Option Value} {base : Heap}
def spBetw (K : PySem.W.Frag) : Sp := spP K (fun x : List Int × List Int => [dInts x.1, dInts x.2]) (fun x => x.1.length ≤ 10 ∧ x.2.length ≤ 10) (fun x => .tuple ((srtT (betM x.1 x.2.reverse)).map dInts))
theorem gv_Betw {σ : L2.St} {H : Hp} {t : TA} {E : XK} {least : List Int} {most : List Int} (h : GvA K t σ H [dInts least, dInts most]) (hc : least.length ≤ 10 ∧ most.length ≤ 10) : Gv K (tCall (spBetw K) [] E t) σ H (.tuple ((srtT (betM least most.reverse)).map dInts)) := gv_call (K := K) (δ := fun x : List Int × List Int => [dInts x.1, dInts x.2]) (C := fun x => x.1.length ≤ 10 ∧ x.2.length ≤ 10) (f := fun x => .tuple ((srtT (betM x.1 x.2.reverse)).map dInts)) (least, most) h hc
theorem ok_Betw  {f : Addr} {fd : FuncData} {k : Nat} (F : Fun K "states_between" "states_between" sBetw f fd)
    (m_sorted : mg "sorted" = none) (m_tuple : mg "tuple" = none) : FnOk P w K mg base CX0 (k + 1) f fd ["least", "most"] (spBetw K) := by
  refine F.ok scBetw (fun vs H Q E h => ?_) (fun cdv A outer s H vs Q E hr h => ?_)
  · obtain ⟨_, hd, _⟩ := h
    exact hd.length
  · obtain ⟨⟨least, most⟩, hd, hc, q⟩ := h
    obtain ⟨v1, v2, rfl, d1, d2⟩ := dpAll2 hd
    try dsimp only at hc
    try dsimp only at q
    try dsimp only at d1 d2
    refine ⟨_, pss_cons (ps_set (i := 2) scBetw.nd rfl (.inl rfl) (pe_lst (pa_cons (pv 0) pa_nil)))
      (pss_cons (ps_for PassesOwn.never rfl (show PI _ _ _ (iTup K _) from pi_tup (pv 1)) (pg_name (i := 3) scBetw.nd rfl (Or.inr rfl)) (pss_one (ps_if (pt_cmpR (show OpR _ _ (rIn K true) from op_notIn_seq) (pv 3) (pv 0) (by rfl)) (pss_one (ps_set (i := 2) scBetw.nd rfl (.inl rfl) (pe_op op_cat (pv 2) (pe_lc (own := [("state", 4)]) (g := gName 4) (tt := tYes) rfl scBetw.nd (show PI _ _ _ (iList K _) from pi_list (pv 2)) (blkOk_by (own := [("state", 4)]) (N := nBetw) (sc := defScope sBetw) (by decide +kernel)) (fun _ _ _ _ _ => pg_name (i := 4) scBetw.nd rfl (Or.inl rfl)) (fun _ _ _ _ _ => pts_nil) (fun _ _ _ _ _ => pe_callTy (show CallR _ _ (rTupG K) from cr_tupG) (by rfl) m_tuple (by decide +kernel) (pa_cons (pe_callB (show CallR _ _ (rSorted K) from cr_sorted) (by rfl) m_sorted (by decide +kernel) (pa_cons (pe_lst (show PA _ _ (StX.tStar K _ _) from StX.pa_star (pv 4) (pa_cons (pv 3) pa_nil))) pa_nil)) pa_nil)))))) pss_nil)))
      (pss_one (ps_ret (pe_callTy (show CallR _ _ (rTupG K) from cr_tupG) (by rfl) m_tuple (by decide +kernel) (pa_cons (pe_callB (show CallR _ _ (rSortTP K) from cr_sortTP hr.units) (by rfl) m_sorted (by decide +kernel) (pa_cons (pv 2) pa_nil)) pa_nil))))), ?_⟩
    obtain ⟨ll, ml⟩ := hc
    refine gs_setN (K := K) (gn_lst (gva_cons (gv_var (i := 0) rfl d1) gva_nil)) fun S0 vS H1 s1 nS eS dS => ?_
    refine gs_seqS (fun σ Hb => Same H1 Hb ∧ ∃ (S : Addr) (vs : List V) (x3 : Option V), Hb S = some (.lst vs) ∧ DpAll K Hb vs ((betM least most.reverse).map dInts) ∧ σ = [some v1, some v2, some (.ref S), x3, none]) ?rest ?loop
    case loop =>
      intro hk
      refine gs_each (K := K) (δ := PyData.int) (as := most) (gvi_tup (gv_var (i := 1) rfl (d2.sm s1))) (fun Ha k σ Hb => Same Ha Hb ∧ ∃ (S : Addr) (vs : List V) (x3 : Option V), Hb S = some (.lst vs) ∧ DpAll K Hb vs ((betM least (most.take k).reverse).map dInts) ∧ σ = [some v1, some v2, some (.ref S), x3, none])
        (fun Ha sa => ⟨Same.refl _, S0, vS, none, sa _ _ eS, dS.sm sa, rfl⟩) (fun Ha k σ Hb sa hP => hP.1) (fun Ha k x v σ Hb Hc sa hx hP sc' dv => ?_) (fun Ha σ Hb sa hP => ?_)
      · obtain ⟨sb, S, vs, x3, eS, dvs, rfl⟩ := hP
        cases dv
        have sac := (s1.trans sa).trans (sb.trans sc')
        have kl : (most.take k).reverse.length ≤ 10 := by rw [List.length_reverse, List.length_take]; omega
        have tk : (most.take (k + 1)).reverse = x :: (most.take k).reverse := by rw [List.take_add_one, hx]; simp
        rw [tk]
        have cnt := betM_count (least := least) (most.take k).reverse
        have c10 : 2 ^ (most.take k).reverse.length ≤ 2 ^ 10 := Nat.pow_le_pow_right (by decide) kl
        generalize (most.take k).reverse = r at kl dvs cnt c10 ⊢
        have eSc := sc' _ _ eS
        have dvc := dvs.sm sc'
        refine gs_if (gvt_test (K := K) (gv_inT (neg := true) (gv_var (i := 3) rfl (.int x)) (gv_var (i := 0) rfl (d1.sm sac)))) (fun hb H5 s5 => ?_) (fun hb H5 s5 => ?_)
        · have hxl : x ∉ least := by simpa using hb
          have eS5 := s5 _ _ eSc
          have dv5 := dvc.sm s5
          refine (gl_cat (K := K) (gl_var (i := 2) rfl eS5 dv5) (gl_lc (δ := dInts) (as := betM least r) (p := fun _ => true) (f := fun l => dInts (srt (l ++ [x]))) (gvi_list (gv_var (i := 2) rfl (.lst (.inl (.inl eS5)) dv5))) (fun z vz Hz hz sz dz => ⟨gvt_yes, fun _ => (gv_tupL (gv_sortL (l := z ++ [x]) ((gv_lst (gva_starT (gv_var rfl dz) (gva_cons (gv_var (i := 3) rfl (.int x)) gva_nil)) ?_).to (by rw [List.map_append]; rfl)) ?_)).to rfl⟩) (fun _ _ => lf_ints _) (by omega)) ?_).at fun S' vs' H6 s6 eS' dS' => ?_
          · have := betM_len hz
            rw [List.length_append, List.length_map]
            refine Nat.le_of_lt (small1000 ?_)
            show _ + 1 ≤ 1000; omega
          · have := betM_len hz
            rw [List.length_append, List.length_singleton]; omega
          · rw [List.length_map, List.length_map]
            have := List.length_filter_le (fun _ => true) (betM least r)
            omega
          · refine ⟨sb.trans (sc'.trans (s5.trans s6)), S', vs', _, eS', ?_, rfl⟩
            rw [betM_step hxl, List.map_append, List.map_map]
            rw [List.filter_eq_self.mpr (fun _ _ => rfl)] at dS'
            exact dS'
        · have hxl : x ∈ least := by simpa using hb
          refine ⟨sb.trans (sc'.trans s5), S, vs, _, s5 _ _ eSc, ?_, rfl⟩
          rw [betM_skip hxl]
          exact dvc.sm s5
      · obtain ⟨sb, S, vs, x3, eS, dvs, rfl⟩ := hP
        rw [List.take_length] at dvs
        exact hk _ _ ⟨sa.trans sb, S, vs, x3, eS, dvs, rfl⟩
    case rest =>
      rintro σ Hb ⟨sb, S, vs, x3, eS, dvs, rfl⟩
      exact gs_ret (K := K) (gv_tupL (gn_sortT (gv_var (i := 2) rfl (.lst (.inl (.inl eS)) dvs)) (betM_sortable _ _)).gv) fun v H3 s3 dv => q v H3 (s1.trans (sb.trans s3)) dv
end
def nReset : List Str := ["panel", "row"]
theorem scReset : FnScope nReset ["panel", "row"] (defScope sReset) := ⟨rfl, rfl, rfl, by decide +kernel, rfl, by decide +kernel, by decide +kernel⟩
section
variable {P : Program} {w : World} {K : PySem.W.Frag} {mg : Str → Option Value} {base : Heap}
def spReset (K : PySem.W.Frag) : Sp := fun vs H Q _ => ∃ (p r : Addr) (pan : List (List Int)) (row : List Int), vs = [.ref p, .ref r] ∧ PanT K H p pan ∧ Good pan ∧ SqT K H r (row.map V.int) ∧ (∀ x ∈ row, 0 ≤ x ∧ x < (pan.length : Int)) ∧
  ∀ H', Same H H' → Q (.bl (!decide (wSame ∈ effM pan row))) H'
theorem ok_Reset {fNo : Addr} {fdNo : FuncData} {fPressE : Addr} {fdPressE : FuncData} {fJoin : Addr} {fdJoin : FuncData} {fWith : Addr} {fdWith : FuncData} {fEff : Addr} {fdEff : FuncData} {f : Addr} {fd : FuncData} {k : Nat} (F : Fun K "is_reset" "is_reset" sReset f fd)
    (FNo : Fun K "no_effect" "no_effect" sNo fNo fdNo) (bNo : Binds K fdNo ["panel"] []) (gNo : mg "no_effect" = some (.ref fNo))
    (FPressE : Fun K "press_effect" "press_effect" sPressE fPressE fdPressE) (bPressE : Binds K fdPressE ["panel", "button"] []) (gPressE : mg "press_effect" = some (.ref fPressE))
    (FJoin : Fun K "joined_effect" "joined_effect" sJoin fJoin fdJoin) (bJoin : Binds K fdJoin ["first", "second"] []) (gJoin : mg "joined_effect" = some (.ref fJoin))
    (FWith : Fun K "effect_with_press" "effect_with_press" sWith fWith fdWith) (bWith : Binds K fdWith ["panel", "effect", "button"] []) (gWith : mg "effect_with_press" = some (.ref fWith))
    (FEff : Fun K "effect_of" "effect_of" sEff fEff fdEff) (bEff : Binds K fdEff ["panel", "row"] []) (gEff : mg "effect_of" = some (.ref fEff))
    (m_len : mg "len" = none) (m_list : mg "list" = none) (m_tuple : mg "tuple" = none) (m_zip : mg "zip" = none) : FnOk P w K mg base CX0 (k + 5) f fd ["panel", "row"] (spReset K) := by
  have GEff : FnOk P w K mg base CX0 (k + 4) fEff fdEff ["panel", "row"] (spEff K) := ok_eff FEff FNo bNo gNo FPressE bPressE gPressE FJoin bJoin gJoin FWith bWith gWith m_len m_list m_tuple m_zip
  refine F.ok scReset (fun vs H Q E h => ?_) (fun cdv A outer s H vs Q E hr h => ?_)
  · obtain ⟨p, r, pan, row, rfl, _⟩ := h
    rfl
  · obtain ⟨p, r, pan, row, rfl, hp, hg, hrow, hin, q⟩ := h
    refine ⟨_, pss_one (ps_ret (pe_cmpR (show OpR _ _ (rIn K true) from op_notIn_seq) pe_str (pe_call GEff (hr.mono (by omega)) (by rfl) gEff FEff.kp bEff .nil pass0 (pa_cons (pv 0) (pa_cons (pv 1) pa_nil))) (by rfl))), ?_⟩
    refine ⟨.ref p, rfl, .ref r, rfl, p, r, pan, row, rfl, hp, hg, hrow, hin, fun H1 u s1 eu => ⟨u, _, rfl, .inr eu.sq, rfl, flat_strs _, ?_⟩⟩
    rw [if_pos rfl, inV_strs]
    exact q _ s1
end
end K33
namespace Pr
open PySem PySem.Spec PyProof.Rows L2
end Pr
namespace Pr
open PySem PySem.Spec PyProof.Rows L2 LamX
section
variable {P : Program} {w : World} {K : PySem.W.Frag} {mg : Str → Option Value} {base : Heap} {q : Str} {scope : Scope} {f : Addr} {cd : Value} {A : Around} {outer : List Env} {s s1 : Shared} {H : Hp} {E0' : XK} {E : Value → Shared → Prop}
abbrev keyCx (P : Program) (w : World) (K : PySem.W.Frag) (mg : Str → Option Value) (base : Heap) (q : Str) (scope : Scope) (f : Addr) (cd : Value) (A : Around) (outer : List Env) (s : Shared) (H : Hp) (E0' : XK) : Cx := cxOf C8.CX0 P w K mg base ["row"] q scope f cd A outer s H E0'
theorem row_load {r : Addr} {p : Pos} {Q : Value → Shared → Prop} (J : Inv (keyCx P w K mg base q scope f cd A outer s H E0') [] (L2.start ["row"] [.ref r]) H s1) (hv : Vis scope "row") (h : Q (.ref r) s1) :
    wpAny (model P w) (keyCx P w K mg base q scope f cd A outer s H E0').A (eval (.Name "row" p) (keyCx P w K mg base q scope f cd A outer s H E0').env) Q E s1 := by
  obtain ⟨m, hn, hl⟩ := J.loc
  obtain ⟨u, rr, l⟩ := hl 0 "row" (.ref r) rfl rfl hv
  obtain rfl : u = Value.ref r := rr
  rcases l with ⟨hk, hm⟩ | ⟨hk, c, hc, hcell⟩
  · exact wpAny_Name (wpAny_loadName_local J.ok.kind hk hn hm h) (by decide)
  · rcases hk with hk | hk
    · exact wpAny_Name (wpAny_loadName_cell J.ok.kind hk hc hcell h) (by decide)
    · exact wpAny_Name (wpAny_loadName_free J.ok.kind hk hc hcell h (by decide)) (by decide)
/-- the tuple (len(row), row) -/
theorem key_eval {r : Addr} {ns : List Int} {p1 p2 p3 p4 p5 : Pos} {j : Nat} {Q : Value → Shared → Prop} (J : Inv (keyCx P w K mg base q scope f cd A outer s H E0') [] (L2.start ["row"] [.ref r]) H s1) (hv : Vis scope "row") (hg : Gl (keyCx P w K mg base q scope f cd A outer s H E0') "len") (hm : mg "len" = none)
    (hr : SqT K H r (ns.map V.int)) (h : ∀ t tk, Q (.ref s1.heap.objs.size) { s1 with heap := s1.heap.push { cls := .type "tuple", data := .seq #[.int ns.length t, .ref r] }, toks := tk }) :
    wpAny (model P w) (keyCx P w K mg base q scope f cd A outer s H E0').A (eval (.Tuple [.Call (.Name "len" p1) [.Name "row" p2] [] p3, .Name "row" p4] j p5) (keyCx P w K mg base q scope f cd A outer s H E0').env) Q E s1 := by
  refine wpAny_Tuple_spliced (Calls.spliced_cons ?_)
  refine wpAny_Call_Name_kw (ld_blt J hg hm PySem.boot_len ?_ (by decide) (by decide))
  refine PyProof.Rows.callWith_builtin1 (Calls.spliced_cons (row_load J hv (Calls.spliced_nil ?_))) rfl rfl
  obtain ⟨its, r', pl, hz⟩ := J.tuple hr
  have hlen := r'.length
  rw [List.length_map] at hlen hz
  have hn := line63
  have es : its.toArray.size = ns.length := by rw [List.size_toArray, hlen]
  refine len_tuple pl (by simp only [List.size_toArray] <;> omega) ?_
  refine Calls.spliced_cons (row_load (J.tok _) hv (Calls.spliced_nil ⟨by show 2 ≤ sizeLine; decide, ?_⟩))
  have hf := h (s1.toks + 1) (s1.toks + 1 + 1)
  rw [← es] at hf
  exact hf
end
/-- the lambda's body and its names -/
structure KeyLam (params : Arguments) (body : Expr) (scope : Scope) : Prop where
  bd : ∃ p1 p2 p3 p4 j p5, body = .Tuple [.Call (.Name "len" p1) [.Name "row" p2] [] p3, .Name "row" p4] j p5
  S : FnScope ["row"] ["row"] scope
  len : scope.names.lookup ("len" : Str) = some NameKind.globalImplicit
  bind : ∀ (q : Str) (cl : List (Str × Addr)) (pm cv ctv u : Value), bindArgs (PySem.W.kla_fn "<lambda>" q params body scope cl pm cv ctv) ⟨[u], []⟩ = pure [(("row" : Str), u)]
theorem cloFrom_nil {cells : List (Str × Addr)} : ∀ {names : List (Str × NameKind)} {acc : List (Str × Addr)}, (∀ y ∈ names, y.2 ≠ .free) → cloFrom cells names acc = acc
  | [], _, _ => rfl
  | (n, k) :: r, acc, h => by
    have hk : (k == NameKind.free) = false := beq_false_of_ne (h (n, k) List.mem_cons_self)
    unfold cloFrom
    rw [hk]
    exact cloFrom_nil fun y hy => h y (List.mem_cons_of_mem _ hy)
section
variable {X : Cx} {pins : List (Addr × Obj)} {σ : L2.St} {H : Hp} {s : Shared} {A : Around} {params : Arguments} {body : Expr} {scope : Scope} {q : Str} {f c' r : Addr} {pm ctv : Value} {ns : List Int} {k : Nat} {R : Result → Shared → Prop}
theorem key_call (I : Inv X pins σ H s) (hA : A.frames = some X.stack) (hr : Room (k + 1) A) (L : KeyLam params body scope) (hl : X.mg "len" = none)
    (hf : s.heap.get? f = some (PySem.W.kla_obj "<lambda>" q params body scope [] pm c' ctv)) (hco : ∃ (oc : Obj) (vs : Array Value) (t : Tok), s.heap.get? c' = some oc ∧ oc.data = .fields vs ∧ vs[1]? = some (.str q t)) (hrow : SqT X.K H r (ns.map V.int))
    (h : ∀ s' p t, (∀ b o, s.heap.get? b = some o → s'.heap.get? b = some o ∧ b ≠ p) → s'.gens = s.gens → s'.drawn = s.drawn → s'.os = s.os → s'.heap.get? p = some { cls := .type "tuple", data := .seq #[.int ns.length t, .ref r] } → R (.ok (.ret (.ref p))) s') :
    codeAny (model X.prog X.w) A (.call (.ref f) ⟨[.ref r], []⟩) R s := by
  obtain ⟨oc, vs, t, hoc, hdc, hvc⟩ := hco
  obtain ⟨⟨p1, p2, p3, p4, j, p5, rfl⟩, S, hlen, hb⟩ := L
  have e0 : Env0 X.prog X.w X.K X.mg X.base A X.stack s H := { I.env0 with frames := hA }
  have lim : s.heap.NoLimit := e0.mod.nolimit.keeps fun b o e => (e0.bs b o e).1
  refine PySem.W.kla_callFunE hr.depth hf rfl S.co S.gen rfl ⟨c', oc, vs, t, rfl, hoc, hdc, hvc⟩ ?_
  rw [hb]
  have hkind : ∀ y ∈ [(("row" : Str), Value.ref r)], scope.names.lookup y.1 = some .local ∨ (scope.names.lookup y.1 = some .cell ∧ ((cellsFrom (s.heap.objs.size + 1) scope.names []).lookup y.1).isSome = true) := fun y hy => by
    rw [List.mem_singleton.mp hy]
    rcases S.par "row" (by simp) with z | z
    · exact .inl z
    · exact .inr ⟨z, PySem.W.cellsFrom_some _ _ _ (.inl z)⟩
  refine wpAny_pure (wpAny_newFunctionEnv_cells S.kind hkind fun env he s1 x => ?_)
  subst he
  refine ⟨lim.keeps x.toInCall.keep, ?_⟩
  have J : Inv (keyCx X.prog X.w X.K X.mg X.base q scope f (.ref c') A X.stack s H C8.E0) [] (L2.start ["row"] [.ref r]) H s1 := inv_start (us := [.ref r]) S hr.hd e0 rfl (.cons rfl .nil) x
  obtain ⟨h1, tk, e1, hk⟩ := x.done
  refine PySem.W.kla_codeExpr (key_eval J (by rcases S.par "row" (by simp) with z | z; exact .inl z; exact .inr (.inl z)) hlen hl hrow fun t' tk' => ?_)
  subst e1
  refine h _ h1.objs.size t' (fun b o e => ⟨Heap.get?_push_of_some _ (hk b o e), Nat.ne_of_lt (Heap.lt_size (hk b o e))⟩) rfl rfl rfl (Heap.get?_push_size _ rfl)
end
def keyD (ns : List Int) : PyData := .tuple [.int ns.length, dInts ns]
def LtK (a b : List Int) : Prop := a.length < b.length ∨ (a.length = b.length ∧ a < b)
instance (a b : List Int) : Decidable (LtK a b) := inferInstanceAs (Decidable (_ ∨ _))
theorem LtK.irrefl (a : List Int) : ¬ LtK a a := fun h => by
  rcases h with h | ⟨_, h⟩
  · exact Nat.lt_irrefl _ h
  · exact List.lt_irrefl a h
theorem LtK.trans {a b c : List Int} (h : LtK a b) (g : LtK b c) : LtK a c := by
  rcases h with h | ⟨e, h⟩ <;> rcases g with g | ⟨e', g⟩
  · exact .inl (Nat.lt_trans h g)
  · exact .inl (e' ▸ h)
  · exact .inl (e ▸ g)
  · exact .inr ⟨e.trans e', List.lt_trans h g⟩
theorem alike_key (a b : List Int) : PySem.W.alike (keyD a) (keyD b) = true := by
  show PySem.W.alike (.tuple [.int a.length, .tuple (a.map PyData.int)]) (.tuple [.int b.length, .tuple (b.map PyData.int)]) = true
  simp only [PySem.W.alike, PySem.W.alikeAll, PySem.W.alike_ints, Bool.and_self, Bool.or_true]
theorem lt_key (a b : List Int) : PySem.W.dataLt (keyD a) (keyD b) = decide (LtK a b) := by
  have e1 : PyData.eqv (.int (a.length : Int)) (.int (b.length : Int)) = decide ((a.length : Int) = (b.length : Int)) := by simp only [PyData.eqv]; rfl
  have e2 : PyData.eqv (dInts a) (dInts b) = decide (a = b) := by
    unfold dInts
    simp only [PyData.eqv]
    exact eqv_intsL _ _
  have e3 : PySem.W.dataLt (dInts a) (dInts b) = decide (a < b) := by
    unfold dInts
    rw [PySem.W.dataLt_tuple]
    exact PySem.W.dataLt_ints a b
  have al : PySem.W.alike (dInts a) (dInts b) = true := by
    unfold dInts
    simp only [PySem.W.alike]
    exact PySem.W.alike_ints _ _
  have al0 : PySem.W.alike (.int (a.length : Int)) (.int (b.length : Int)) = true := by simp only [PySem.W.alike]
  unfold keyD
  rw [PySem.W.dataLt_pair al0 al, e1, e2, e3, PySem.W.dataLt_int]
  by_cases h : a.length = b.length
  · rw [decide_eq_true (by rw [h]), if_pos rfl]
    by_cases hab : a = b
    · subst hab
      rw [decide_eq_true rfl, if_pos rfl, decide_eq_false (LtK.irrefl a)]
    · rw [decide_eq_false hab, if_neg (by decide)]
      exact decide_eq_decide.mpr ⟨fun z => .inr ⟨h, z⟩, fun z => z.elim (fun y => absurd y (by omega)) fun y => y.2⟩
  · rw [decide_eq_false (fun z => h (by exact_mod_cast z)), if_neg (by decide)]
    exact decide_eq_decide.mpr ⟨fun z => .inl (by omega), fun z => z.elim (fun y => by omega) fun y => absurd y.1 h⟩
theorem argBest_min {bt : Nat → Nat → Bool} (ir : ∀ i, bt i i = false) (tr : ∀ i j k, bt i j = true → bt j k = true → bt i k = true) : ∀ k, argBest bt k ≤ k ∧ ∀ j, j ≤ k → bt j (argBest bt k) = false
  | 0 => ⟨Nat.le_refl _, fun j hj => by rw [Nat.le_zero.mp hj]; exact ir 0⟩
  | k + 1 => by
    obtain ⟨h1, h2⟩ := argBest_min ir tr k
    unfold argBest
    cases hb : bt (k + 1) (argBest bt k) with
    | true =>
      rw [if_pos rfl]
      refine ⟨Nat.le_refl _, fun j hj => ?_⟩
      by_cases e : j = k + 1
      · rw [e]; exact ir _
      · cases z : bt j (k + 1) with
        | false => rfl
        | true => exact absurd (tr _ _ _ z hb) (by rw [h2 j (by omega)]; decide)
    | false =>
      rw [if_neg (by decide)]
      refine ⟨by omega, fun j hj => ?_⟩
      by_cases e : j = k + 1
      · rw [e]; exact hb
      · exact h2 j (by omega)
section
variable {X : Cx} {pins : List (Addr × Obj)} {σ : L2.St} {H : Hp} {s : Shared} {params : Arguments} {body : Expr} {scope : Scope} {q : Str} {f c' l : Addr} {pm ctv : Value} {k : Nat} {ks : List (Addr × List Int)} {E : Value → Shared → Prop} {Q : Value → Shared → Prop}
theorem min_key (I : Inv X pins σ H s) (hA : X.A.frames = some X.stack) (hr : Room (k + 2) X.A) (L : KeyLam params body scope) (hl : X.mg "len" = none)
    (hf : s.heap.get? f = some (PySem.W.kla_obj "<lambda>" q params body scope [] pm c' ctv)) (hco : ∃ (oc : Obj) (vs : Array Value) (t : Tok), s.heap.get? c' = some oc ∧ oc.data = .fields vs ∧ vs[1]? = some (.str q t))
    (hls : SqL X.K H l (ks.map fun p => V.ref p.1)) (hks : ∀ p ∈ ks, SqT X.K H p.1 (p.2.map V.int)) (hne : ks ≠ [])
    (h : ∀ s' p, Inv X pins σ H s' → p ∈ ks → (∀ r ∈ ks, ¬ LtK r.2 p.2) → Q (.ref p.1) s') :
    wpAny (model X.prog X.w) X.A (call (.builtin "min") [.ref l] [(Str.ofString "key", .ref f)]) Q E s := by
  obtain ⟨its, rv, pl, hz⟩ := I.list hls
  have eits : its = ks.map fun p => Value.ref p.1 := by
    clear hks hne h hls pl hz
    induction ks generalizing its with
    | nil => cases rv; rfl
    | cons p r ih =>
      cases rv with
      | cons a b =>
        obtain rfl := (show _ = Value.ref p.1 from a)
        rw [ih _ b]; rfl
  subst eits
  have hlen : (ks.map fun p => Value.ref p.1).toArray.size = ks.length := by rw [List.size_toArray, List.length_map]
  have hIl : s.heap.IsList l (ks.map fun p => Value.ref p.1).toArray := pl.isList
  refine PySem.call_min_walkK (wpAny_pyIter_list hIl ?_)
  have hlI : l ≠ s.heap.objs.size := by
    obtain ⟨o, ho, _⟩ := hIl
    exact Nat.ne_of_lt (Heap.lt_size ho)
  have hh : X.A.in1.handled = none := hr.hd
  have pos : 0 < ks.length := List.length_pos_iff.mpr hne
  have kp2 : ∀ b o, s.heap.get? b = some o → (s.heap.push { cls := .type "list_iterator", data := .fields #[.ref l, .int 0 0] }).get? b = some o := fun b o e => Heap.get?_push_of_some _ e
  have back : ∀ s' : Shared, (∀ b o, s.heap.get? b = some o → s'.heap.get? b = some o) → s'.gens = s.gens → s'.drawn = s.drawn → s'.os = s.os → Inv X pins σ H s' := fun s' kb g d o => by
    obtain ⟨h', g', d', t', o'⟩ := s'
    obtain rfl : g' = s.gens := g
    obtain rfl : d' = s.drawn := d
    obtain rfl : o' = s.os := o
    exact I.kept kb
  have rowAt : ∀ (i : Nat) (v : Value), (ks.map fun p => Value.ref p.1).toArray[i]? = some v → ∃ p : Addr × List Int, ks[i]? = some p ∧ v = Value.ref p.1 := fun i v e => by
    rw [List.getElem?_toArray, List.getElem?_map] at e
    cases hk : ks[i]? with
    | none => rw [hk] at e; cases e
    | some p => rw [hk] at e; cases e; exact ⟨p, rfl, rfl⟩
  have sz2 : (s.heap.push { cls := .type "list_iterator", data := .fields #[.ref l, .int 0 0] }).objs.size = s.heap.objs.size + 1 := Heap.size_push ..
  have W := (Walks.list (prog := X.prog) (w := X.w) (A := X.A.in1) hh s.heap.objs.size l hlI (List.map (fun p : Addr × List Int => Value.ref p.1) ks).toArray).toS
  rw [hlen] at W
  refine ⟨s.heap.objs.size, [s.heap.objs.size, l], [s.heap.objs.size], fun a b => b = a, ks.length, fun i v => (List.map (fun p : Addr × List Int => Value.ref p.1) ks).toArray[i]? = some v, fun i s' => s'.heap.IsListIter s.heap.objs.size l i ∧ s'.heap.IsList l (List.map (fun p : Addr × List Int => Value.ref p.1) ks).toArray,
    fun s' => (∀ b o, s.heap.get? b = some o → s'.heap.get? b = some o) ∧ s'.gens = s.gens ∧ s'.drawn = s.drawn ∧ s'.os = s.os,
    fun i k s' => ∃ (p : Addr) (r : Addr × List Int) (t : Tok), ks[i]? = some r ∧ k = .ref p ∧ p ≠ s.heap.objs.size + 1 ∧ p ≠ s.heap.objs.size ∧ s'.heap.get? p = some { cls := .type "tuple", data := .seq #[.int r.2.length t, .ref r.1] },
    fun i j => decide (LtK (ks.getD i (0, [])).2 (ks.getD j (0, [])).2), rfl, W, ⟨⟨_, Heap.get?_push_size _ rfl, rfl, rfl⟩, hIl.at fun o e => kp2 _ _ e⟩, ?_, pos, ⟨?_, ?_, ?_, ?_⟩, ⟨kp2, rfl, rfl, rfl⟩, ?_⟩
  · intro b hb
    show b < (s.heap.push _).objs.size
    rw [sz2]
    rcases List.mem_cons.mp hb with rfl | hb
    · exact Nat.lt_succ_self _
    · rw [List.mem_singleton.mp hb]
      obtain ⟨o, ho, _⟩ := hIl
      exact Nat.lt_succ_of_lt (Heap.lt_size ho)
  · rintro s1 s2 ⟨j1, j2, j3, j4⟩ m
    refine ⟨fun b o e => m.heap b o (fun z => ?_) (j1 b o e), (show s2.gens = s1.gens from m.gens).trans j2, m.drawn.trans j3, m.os.trans j4⟩
    have lt := Heap.lt_size e
    rcases List.mem_cons.mp z with z | z
    · rw [z] at lt
      have : (s.heap.push _).objs.size < s.heap.objs.size := lt
      rw [sz2] at this; omega
    · rw [List.mem_singleton.mp z] at lt; exact Nat.lt_irrefl _ lt
  · rintro i k s1 s2 ⟨p, r, t, e1, e2, n1, n2, e3⟩ m
    refine ⟨p, r, t, e1, e2, n1, n2, m.heap p _ (fun z => ?_) e3⟩
    rcases List.mem_cons.mp z with z | z
    · exact n1 (z.trans sz2)
    · exact n2 (List.mem_singleton.mp z)
  · rintro i v s1 o Q' E' hi hv ⟨j1, j2, j3, j4⟩ hst hS hQ
    obtain ⟨r, hr1, rfl⟩ := rowAt i v hv
    have I1 := back s1 j1 j2 j3 j4
    obtain ⟨oc, vs, t, co1, co2, co3⟩ := hco
    refine wpAny_call (key_call (k := k) I1 hA hr.in1 L hl (j1 _ _ hf) ⟨oc, vs, t, j1 _ _ co1, co2, co3⟩ (hks r (List.mem_of_getElem? hr1)) fun s2 p t2 kp g d os hp => ?_)
    have kept : ∀ b o, s1.heap.get? b = some o → s2.heap.get? b = some o := fun b o e => (kp b o e).1
    obtain ⟨⟨oi, hoi, hio⟩, hls1⟩ := id hst
    refine hQ (.ref p) s2 ⟨fun b o e => kept _ _ (j1 b o e), g.trans j2, d.trans j3, os.trans j4⟩ ⟨⟨oi, kept _ _ hoi, hio⟩, hls1.at fun o e => kept _ _ e⟩ (kept _ _ hS) ⟨p, r, t2, hr1, rfl, fun z => (kp _ _ hS).2 (by rw [z]; exact sz2), fun z => (kp _ _ hoi).2 z.symm, hp⟩ ?_
    rintro j k' ⟨p', r', t', e1, e2, n1, n2, e3⟩
    exact ⟨p', r', t', e1, e2, n1, n2, kept _ _ e3⟩
  · rintro i j ki kj s1 Q' E' ⟨j1, j2, j3, j4⟩ ⟨p, r, t, e1, rfl, _, _, e3⟩ ⟨p', r', t', f1, rfl, _, _, f3⟩ hq
    have I1 := back s1 j1 j2 j3 j4
    obtain ⟨as, ra⟩ := Dp.reads I1 (dInts r.2) (.ref r.1) (.ref r.1) (dp_ints (hks r (List.mem_of_getElem? e1))) rfl
    obtain ⟨bs, rb⟩ := Dp.reads I1 (dInts r'.2) (.ref r'.1) (.ref r'.1) (dp_ints (hks r' (List.mem_of_getElem? f1))) rfl
    have ka : Reads s1.heap (.ref p) (keyD r.2) _ := .tuple e3 rfl rfl (.cons (.int _ t) (.cons ra .nil))
    have kb : Reads s1.heap (.ref p') (keyD r'.2) _ := .tuple f3 rfl rfl (.cons (.int _ t') (.cons rb .nil))
    show wpAny _ _ (compareOp .Lt _ _) _ _ _
    refine PySem.W.lt_data ka kb (alike_key _ _) (by unfold keyD; intro z; cases z) ?_ ?_
    · have h1 := hr.un
      have : (keyD r.2).depth ≤ 2 := by
        unfold keyD dInts
        simp only [PyData.depth, PyData.depthAll, PySem.W.depth_ints]
        omega
      show X.A.units + 1 + min (keyD r.2).depth (keyD r'.2).depth < cLine
      have := Nat.min_le_left (keyD r.2).depth (keyD r'.2).depth
      omega
    · rw [lt_key]
      rw [List.getD_eq_getElem?_getD, List.getD_eq_getElem?_getD, e1, f1] at hq
      exact hq
  · rintro v s1 hv ⟨j1, j2, j3, j4⟩
    obtain ⟨p, hp, rfl⟩ := rowAt _ v hv
    obtain ⟨b1, b2⟩ := argBest_min (bt := fun i j => decide (LtK (ks.getD i (0, [])).2 (ks.getD j (0, [])).2)) (fun i => decide_eq_false (LtK.irrefl _)) (fun i j k h g => decide_eq_true (LtK.trans (of_decide_eq_true h) (of_decide_eq_true g))) (ks.length - 1)
    refine h s1 p (back s1 j1 j2 j3 j4) (List.mem_of_getElem? hp) fun r hr' => ?_
    obtain ⟨j, hj⟩ := List.getElem?_of_mem hr'
    have hjl := (List.getElem?_eq_some_iff.mp hj).1
    have := of_decide_eq_false (b2 j (by omega))
    rwa [List.getD_eq_getElem?_getD, List.getD_eq_getElem?_getD, hj, hp] at this
end
def tMinK (K : PySem.W.Frag) (T : List (Addr × Str)) (to : TE) : TE := fun σ H Q => to σ H fun x H1 => ∃ (l : Addr) (ks : List (Addr × List Int)), x = V.ref l ∧ SqL K H1 l (ks.map fun p => V.ref p.1) ∧ (∀ p ∈ ks, SqT K H1 p.1 (p.2.map V.int)) ∧ ks ≠ [] ∧ Tabs T H1 ∧
  ∀ H2 p, ExtN H1 H2 → Tabs T H2 → p ∈ ks → (∀ r ∈ ks, ¬ LtK r.2 p.2) → Q (.ref p.1) H2
section
variable {X : Cx} {T : List (Addr × Str)} {c P : Addr} {o : Expr} {to : TE} {params : Arguments} {body : Expr} {scope : Scope} {p pos lpos kpos : Pos} {k : Nat}
theorem sqL_extN {K : PySem.W.Frag} {H H' : Hp} {a : Addr} {xs : List V} (e : ExtN H H') (h : SqL K H a xs) : SqL K H' a xs := by
  rcases h with (h | ⟨o, h⟩) | h
  · exact .inl (.inl (e _ _ h (fun _ z => by cases z)))
  · exact .inl (.inr ⟨o, e _ _ h (fun _ z => by cases z)⟩)
  · exact .inr h
theorem sqT_extN {K : PySem.W.Frag} {H H' : Hp} {a : Addr} {xs : List V} (e : ExtN H H') (h : SqT K H a xs) : SqT K H' a xs := by
  rcases h with (h | ⟨o, h⟩) | h
  · exact .inl (.inl (e _ _ h (fun _ z => by cases z)))
  · exact .inl (.inr ⟨o, e _ _ h (fun _ z => by cases z)⟩)
  · exact .inr h
theorem pe_minK (ho : PE X o to) (hg : Gl X "min") (hm : X.mg "min" = none) (hl : X.mg "len" = none) (hr : Room (k + 2) X.A) (TB : TabB X.base X.mg c P) (hcode : X.env.code = .ref c)
    (hmT : (P, X.env.qual ++ "<lambda>") ∈ T) (hu : ∀ p ∈ T, p.1 = P → p.2 = X.env.qual ++ "<lambda>") (L : KeyLam params body scope) (hdef : defaultsOf params X.env = ([], []))
    (he : backTo pos (starEach [o] X.env) = [(false, eval o X.env)] := by rfl) :
    PE X (.Call (.Name "min" p) [o] [⟨some "key", .Lambda params body scope lpos, kpos⟩] pos) (tMinK X.K T to) := by
  refine ⟨fun pins s σ H Q I h => ?_⟩
  refine wpAny_Call_Name_kw (ld_blt I hg hm (by decide +kernel : bootBuiltins "min" = some (.builtin "min")) ?_ (by decide) (by decide))
  refine PyProof.Rows.callWith_kw ?_ he (by rw [he]; rfl) rfl rfl
  rw [he]
  refine Calls.spliced_cons (thn (ho.run pins s σ H _ I h) fun u s1 ⟨x, H1, I1, r1, l, ks, ex, hls, hks, hne, hT, q⟩ => Calls.spliced_nil ?_)
  subst ex
  obtain rfl : u = Value.ref l := r1
  show wpAny _ _ (evalAll [(do let v ← eval (.Lambda params body scope lpos) X.env; standAt pos; pure v)]) _ _ s1
  refine wpAny_evalAll_cons (wpAny_bind (lam_make2 I1 TB hcode hmT hu hT hdef (fun y hy z => absurd z (L.S.nofree y hy)) fun f c' pm ctv H2 s2 I2 eN T2 hf hfn hfr hco => wpAny_bind (wpAny_standAt (wpAny_pure (wpAny_evalAll_nil ?_)))))
  rw [cloFrom_nil L.S.nofree] at hf
  obtain ⟨oc, vs, t, hoc, hdc, hvc⟩ := (I2.hok _ _ hco).1
  exact min_key I2 I2.ok.frames hr L hl hf ⟨oc, vs, t, hoc, hdc, hvc⟩ (sqL_extN eN hls) (fun p hp => sqT_extN eN (hks p hp)) hne fun s3 p I3 hp hmin => ⟨.ref p.1, H2, I3, rfl, q H2 p eN T2 hp hmin⟩
end
theorem Fun.okC {P : Program} {w : World} {K : PySem.W.Frag} {mg : Str → Option Value} {base : Heap} {x qual : Str} {st : Stmt} {f c : Addr} {fd : FuncData} {N ps : List Str} {k : Nat} {sp : Sp} (F : Fun K x qual st f fd) (S : FnScope N ps (defScope st)) (ecd : fd.code = .ref c) (len : ∀ vs H Q E, sp vs H Q E → vs.length = ps.length)
    (hbody : ∀ (A : Around) (outer : List Env) (s : Shared) (H : Hp) (vs : List V) (Q : VK) (E : XK), Room k (A.deeper (envOfC qual (defScope st) s.heap.objs.size f (.ref c))) → sp vs H Q E →
      ∃ t, PSs (cxOf CX0 P w K mg base N qual (defScope st) f (.ref c) A outer s H E).nox (defBody st) t ∧ t { nx := fun _ H' => Q .non H', rt := Q } (start N vs) H) : FnOk P w K mg base CX0 (k + 1) f fd ps sp := by
  obtain ⟨oc, od, kV, doc, pm, an, cdv, ct, osl, rfl, lk, hcd⟩ := F.ex
  obtain rfl : cdv = Value.ref c := ecd
  refine fn_of lk hcd S len fun A outer s H vs Q E hr hsp => ?_
  obtain ⟨t, h, q⟩ := hbody A outer s H vs Q E hr hsp
  exact ⟨t, h.nox, q⟩
/-- rows of a known list of tuples -/
theorem dpAll_rows {K : PySem.W.Frag} {H : Hp} : ∀ {vs : List V} {ls : List (List Int)}, DpAll K H vs (ls.map dInts) → ∃ ks : List (Addr × List Int), vs = ks.map (fun p => V.ref p.1) ∧ ks.map (·.2) = ls ∧ ∀ p ∈ ks, SqT K H p.1 (p.2.map V.int)
  | [], [], _ => ⟨[], rfl, rfl, fun p h => by cases h⟩
  | v :: vs, l :: ls, h => by
    cases h with
    | cons x y =>
      obtain ⟨ks, h1, h2, h3⟩ := dpAll_rows y
      obtain ⟨a, rfl, ha⟩ := Dp.intsI x
      refine ⟨(a, l) :: ks, by rw [List.map_cons, h1], by rw [List.map_cons, h2], fun p hp => ?_⟩
      rcases List.mem_cons.mp hp with rfl | hp
      · exact ha
      · exact h3 p hp
  | [], _ :: _, h => by cases h
  | _ :: _, [], h => by cases h
theorem extN_same {H H' : Hp} (s : Same H H') : ExtN H H' := .of fun b o e => s b o e
theorem deck_extN {H H' : Hp} {a c : Addr} {m : Nat} (e : ExtN H H') (h : Deck H a c m) : Deck H' a c m := by
  obtain ⟨cs, k, e1, e2, e3⟩ := h
  exact ⟨cs, k, e _ _ e1 (fun _ z => by cases z), e _ _ e2 (fun _ z => by cases z), e3⟩
end Pr
namespace K33
open PySem PySem.Spec PyProof.Rows L2 Pr
/-- a shortest reset, the smallest one -/
structure BestR (pan : List (List Int)) (row : List Int) : Prop where
  asc : Asc pan.length row
  res : wSame ∉ effM pan row
  best : ∀ r, Asc pan.length r → wSame ∉ effM pan r → ¬ LtK r row
theorem ltK_total {a b : List Int} (h : ¬ LtK a b) (g : ¬ LtK b a) : a = b := by
  have hl : a.length = b.length := by
    rcases Nat.lt_trichotomy a.length b.length with e | e | e
    · exact absurd (.inl e) h
    · exact e
    · exact absurd (.inl e) g
  have h1 : ¬ a < b := fun z => h (.inr ⟨hl, z⟩)
  have h2 : ¬ b < a := fun z => g (.inr ⟨hl.symm, z⟩)
  exact List.le_antisymm (List.not_lt.mp h2) (List.not_lt.mp h1)
theorem BestR.uniq {pan : List (List Int)} {r r' : List Int} (h : BestR pan r) (g : BestR pan r') : r = r' := ltK_total (g.best r h.asc h.res) (h.best r' g.asc g.res)
theorem betM_up {least : List Int} (hl : least.Pairwise (· < ·)) : ∀ {most l : List Int}, most.Nodup → l ∈ betM least most → l.Pairwise (· < ·)
  | [], l, _, h => by rw [List.mem_singleton.mp h]; exact hl
  | b :: r, l, nd, h => by
    obtain ⟨hb, nr⟩ := List.nodup_cons.mp nd
    unfold betM at h
    dsimp only at h
    split at h
    · exact betM_up hl nr h
    · rename_i nb
      rcases List.mem_append.mp h with h | h
      · exact betM_up hl nr h
      · obtain ⟨k, hk, rfl⟩ := List.mem_map.mp h
        have up := betM_up hl nr hk
        refine srt_asc (List.nodup_append.mpr ⟨up.imp fun {a c} (h : a < c) => Int.ne_of_lt h, by simp, fun x hx y hy e => ?_⟩)
        rw [List.mem_singleton.mp hy] at e
        subst e
        rcases (betM_sub hk).2 x hx with z | z
        · exact nb z
        · exact hb z
theorem asc_intL (n : Nat) : Asc n (intL n) := ⟨by
  unfold intL
  rw [List.pairwise_map]
  exact List.pairwise_lt_range.imp fun h => by omega, fun x hx => mem_intL.mp hx⟩
theorem intL_nodup (n : Nat) : (intL n).Nodup := (asc_intL n).up.imp fun {a c} (h : a < c) => Int.ne_of_lt h
theorem mem_betw {n : Nat} (hn : n ≤ 10) {l : List Int} : l ∈ srtT (betM [] (intL n).reverse) ↔ Asc n l := by
  rw [(srtT_perm _).mem_iff]
  constructor
  · intro h
    refine ⟨betM_up (by simp) ((List.reverse_perm _).nodup_iff.mpr (intL_nodup n)) h, fun x hx => ?_⟩
    rcases (betM_sub h).2 x hx with z | z
    · cases z
    · exact mem_intL.mp (List.mem_reverse.mp z)
  · intro h
    exact betM_all (by simp) h.up (fun x hx => by cases hx) fun x hx => .inr (List.mem_reverse.mpr (mem_intL.mpr (h.rng x hx)))
end K33
namespace K33
open PySem PySem.Spec PyProof.Rows L2 Pr
open LamX
section
variable {K : PySem.W.Frag} {σ : L2.St} {H : Hp} {ta' : TA} {E : XK} {pan : List (List Int)} {row : List Int}
theorem gv_Reset (h : GvA K ta' σ H [dPan pan, dInts row]) (hg : Good pan) (hin : ∀ x ∈ row, 0 ≤ x ∧ x < (pan.length : Int)) : Gv K (tCall (spReset K) [] E ta') σ H (.bool (!decide (wSame ∈ effM pan row))) := fun H1 s Q q => h H1 s _ fun vs H2 s2 dv => by
  obtain ⟨v, u, rfl, d1, d2⟩ := dpAll2 dv
  obtain ⟨p, rfl, hp⟩ := panT_dp d1
  obtain ⟨r, rfl, hr⟩ := d2.intsI
  exact ⟨p, r, pan, row, rfl, hp, hg, hr, hin, fun H' s3 => q _ H' (s2.trans s3) (.bl _)⟩
end
theorem all_reset (pan : List (List Int)) : wSame ∉ effM pan (intL pan.length) := fun h => by
  unfold effM at h
  obtain ⟨c, hc, e⟩ := List.mem_map.mp h
  have := List.mem_range.mp hc
  exact (words_iff.mp e) (.inl (mem_intL.mpr ⟨by omega, by omega⟩))
abbrev TSR (p : Addr) : List (Addr × Str) := [(p, ("shortest_reset" : Str) ++ ".<locals>." ++ "<lambda>")]
def nSReset : List Str := ["panel", "rows", "resets", "row"]
theorem scSReset : FnScope nSReset ["panel"] (defScope sSReset) := ⟨rfl, rfl, rfl, by decide +kernel, rfl, by decide +kernel, by decide +kernel⟩
section
variable {P : Program} {w : World} {K : PySem.W.Frag} {mg : Str → Option Value} {base : Heap}
def spSReset (K : PySem.W.Frag) (pS : Addr) : Sp := fun vs H Q _ => ∃ (p : Addr) (pan : List (List Int)), vs = [.ref p] ∧ PanT K H p pan ∧ Good pan ∧ Tabs (TSR pS) H ∧
  ∀ (H' : Hp) (a : Addr) (row : List Int), ExtN H H' → Tabs (TSR pS) H' → SqT K H' a (row.map V.int) → BestR pan row → Q (.ref a) H'
theorem ok_SReset {fNo : Addr} {fdNo : FuncData} {fPressE : Addr} {fdPressE : FuncData} {fJoin : Addr} {fdJoin : FuncData} {fWith : Addr} {fdWith : FuncData} {fEff : Addr} {fdEff : FuncData} {fBetw : Addr} {fdBetw : FuncData} {fReset : Addr} {fdReset : FuncData} {f : Addr} {fd : FuncData} {k : Nat} (F : Fun K "shortest_reset" "shortest_reset" sSReset f fd)
    (FNo : Fun K "no_effect" "no_effect" sNo fNo fdNo) (bNo : Binds K fdNo ["panel"] []) (gNo : mg "no_effect" = some (.ref fNo))
    (FPressE : Fun K "press_effect" "press_effect" sPressE fPressE fdPressE) (bPressE : Binds K fdPressE ["panel", "button"] []) (gPressE : mg "press_effect" = some (.ref fPressE))
    (FJoin : Fun K "joined_effect" "joined_effect" sJoin fJoin fdJoin) (bJoin : Binds K fdJoin ["first", "second"] []) (gJoin : mg "joined_effect" = some (.ref fJoin))
    (FWith : Fun K "effect_with_press" "effect_with_press" sWith fWith fdWith) (bWith : Binds K fdWith ["panel", "effect", "button"] []) (gWith : mg "effect_with_press" = some (.ref fWith))
    (FEff : Fun K "effect_of" "effect_of" sEff fEff fdEff) (bEff : Binds K fdEff ["panel", "row"] []) (gEff : mg "effect_of" = some (.ref fEff))
    (FBetw : Fun K "states_between" "states_between" sBetw fBetw fdBetw) (bBetw : Binds K fdBetw ["least", "most"] []) (gBetw : mg "states_between" = some (.ref fBetw))
    (FReset : Fun K "is_reset" "is_reset" sReset fReset fdReset) (bReset : Binds K fdReset ["panel", "row"] []) (gReset : mg "is_reset" = some (.ref fReset))
    (m_len : mg "len" = none) (m_list : mg "list" = none) (m_range : mg "range" = none) (m_sorted : mg "sorted" = none) (m_tuple : mg "tuple" = none) (m_zip : mg "zip" = none) (m_min : mg "min" = none) {cS pS : Addr} (ecd : fd.code = .ref cS) (TBS : TabB base mg cS pS) : FnOk P w K mg base CX0 (k + 6) f fd ["panel"] (spSReset K pS) := by
  have GBetw : FnOk P w K mg base CX0 (k + 1) fBetw fdBetw ["least", "most"] (spBetw K) := ok_Betw FBetw m_sorted m_tuple
  have GReset : FnOk P w K mg base CX0 (k + 5) fReset fdReset ["panel", "row"] (spReset K) := ok_Reset FReset FNo bNo gNo FPressE bPressE gPressE FJoin bJoin gJoin FWith bWith gWith FEff bEff gEff m_len m_list m_tuple m_zip
  refine Fun.okC F scSReset ecd (fun vs H Q E h => ?_) (fun A outer s H vs Q E hr h => ?_)
  · obtain ⟨p, pan, rfl, _⟩ := h
    rfl
  · obtain ⟨p, pan, rfl, hp, hg, hT, q⟩ := h
    refine ⟨_, pss_cons (ps_set (i := 1) scSReset.nd rfl (.inl rfl) (pe_call GBetw (hr.mono (by omega)) (by rfl) gBetw FBetw.kp bBetw .nil pass0 (pa_cons (pe_tup pa_nil) (pa_cons (pe_tupRg rfl (by rfl) m_tuple (prg_1 (by rfl) m_range (pe_callB (show CallR _ _ (rLenG K) from cr_lenG) (by rfl) m_len PySem.boot_len (pa_cons (pv 0) pa_nil)))) pa_nil))))
      (pss_cons (ps_setLc (i := 2) (own := [("row", 3)]) (g := gName 3) rfl scSReset.nd rfl rfl (sw_true rfl rfl rfl (by decide +kernel)) (show PI _ _ _ (iTup K _) from pi_tup (pv 1)) (blkOk_by (own := [("row", 3)]) (N := nSReset) (sc := defScope sSReset) (by decide +kernel)) (fun _ _ _ _ _ => pg_name (i := 3) scSReset.nd rfl (Or.inl rfl)) (fun _ _ _ _ _ => pts_one (pt_val (pe_call GReset (hr.mono (by omega)) (by rfl) gReset FReset.kp bReset .nil pass0 (pa_cons (pv 0) (pa_cons (pv 3) pa_nil))))) (fun _ _ _ _ _ => pv 3))
      (pss_one (ps_ret (pe_minK (k := k) (pv 2) (by rfl) m_min m_len (hr.mono (by omega)) TBS rfl (List.mem_singleton.mpr rfl) (fun p hp _ => by rw [List.mem_singleton.mp hp]) ⟨⟨_, _, _, _, _, _, rfl⟩, ⟨rfl, rfl, rfl, by decide +kernel, rfl, by decide +kernel, by decide +kernel⟩, rfl, fun _ _ _ _ _ _ => rfl⟩ rfl)))), ?_⟩
    have few := hg.few
    have hlp : (pan.map dInts).length = pan.length := List.length_map _
    have dp : Dp K H (.ref p) (dPan pan) := hp.dp
    have cnt := betM_count (least := []) (intL pan.length).reverse
    have c10 : 2 ^ (intL pan.length).reverse.length ≤ 2 ^ 10 := Nat.pow_le_pow_right (by decide) (by rw [List.length_reverse, intL_len]; exact few)
    have ml : (srtT (betM [] (intL pan.length).reverse)).length ≤ 1024 := by rw [(srtT_perm _).length_eq]; omega
    refine gs_set1 (K := K) (gv_Betw (least := []) (most := intL pan.length) (gva_cons (gv_tup gva_nil) (gva_cons ((gv_tupRg ((gv_lenT (gv_var (i := 0) rfl dp)).to (by rw [hlp])) (by omega)).to (by unfold intL; rfl)) gva_nil)) ⟨by decide, by rw [intL_len]; exact few⟩) fun vr H1 s1 dr => ?_
    refine gs_setN (K := K) (gn_lc (δ := dInts) (as := srtT (betM [] (intL pan.length).reverse)) (p := fun r => !decide (wSame ∈ effM pan r)) (f := dInts) (gvi_tup (gv_var (i := 1) rfl dr)) (fun r v Hz hr sz dz => ⟨gvt_b (gv_Reset (gva_cons (gv_var (i := 0) rfl (dp.sm (s1.trans sz))) (gva_cons (gv_var rfl dz) gva_nil)) hg (fun x hx => ((mem_betw few).mp hr).rng x hx)), fun _ => gv_var rfl dz⟩) (fun _ _ => lf_ints _) (by omega)) fun R vs H2 s2 nR eR dR => ?_
    obtain ⟨ks, rfl, hks, hk⟩ := dpAll_rows dR
    have mem : ∀ r, r ∈ ks.map (·.2) ↔ Asc pan.length r ∧ wSame ∉ effM pan r := fun r => by
      rw [hks, List.mem_filter, mem_betw few]
      simp
    refine ⟨.ref R, rfl, R, ks, rfl, .inl (.inl eR), hk, fun z => ?_, hT.ext (fun b o e => s2 _ _ (s1 _ _ e)), fun H3 x eN hT3 hx hmin => ?_⟩
    · subst z
      have := (mem (intL pan.length)).mpr ⟨asc_intL _, all_reset pan⟩
      cases this
    · obtain ⟨h1, h2⟩ := (mem x.2).mp (List.mem_map.mpr ⟨x, hx, rfl⟩)
      refine q H3 x.1 x.2 ((extN_same (s1.trans s2)).trans eN) hT3 (sqT_extN eN (hk x hx)) ⟨h1, h2, fun r a1 a2 => ?_⟩
      obtain ⟨y, hy, rfl⟩ := List.mem_map.mp ((mem r).mpr ⟨a1, a2⟩)
      exact hmin y hy
end
end K33
namespace K33
open PySem PySem.Spec PyProof.Rows L2 Pr
theorem press_perm {pan : List (List Int)} {st : List Int} {b : Int} (hs : Asc pan.length st) (h0 : 0 ≤ b) (h1 : b < (pan.length : Int)) : (st.filter (fun x => decide (x ≠ b ∧ x ∉ pan.getD b.toNat [])) ++ [b]).Perm (pressM pan st b) := by
  rw [← press_sorted hs h0 h1 (srt_perm _) (srt_up _)]
  exact (srt_perm _).symm
def nAfter : List Str := ["_law_panel_here", "_law_state", "_law_row", "_law_down", "_law_button", "_law_one"]
theorem scAfter : FnScope nAfter ["_law_panel_here", "_law_state", "_law_row"] (defScope sAfter) := ⟨rfl, rfl, rfl, by decide +kernel, rfl, by decide +kernel, by decide +kernel⟩
section
variable {P : Program} {w : World} {K : PySem.W.Frag} {mg : Str → Option Value} {base : Heap}
def spAfter (K : PySem.W.Frag) : Sp := spP K (fun x : List (List Int) × List Int × List Int => [dPan x.1, dInts x.2.1, dInts x.2.2]) (fun x => x.1.length ≤ 10 ∧ Asc x.1.length x.2.1 ∧ (∀ y ∈ x.2.2, 0 ≤ y ∧ y < (x.1.length : Int))) (fun x => dInts (runM x.1 x.2.1 x.2.2))
theorem gv_After {σ : L2.St} {H : Hp} {t : TA} {E : XK} {pan : List (List Int)} {st : List Int} {row : List Int} (h : GvA K t σ H [dPan pan, dInts st, dInts row]) (hc : pan.length ≤ 10 ∧ Asc pan.length st ∧ (∀ y ∈ row, 0 ≤ y ∧ y < (pan.length : Int))) : Gv K (tCall (spAfter K) [] E t) σ H (dInts (runM pan st row)) := gv_call (K := K) (δ := fun x : List (List Int) × List Int × List Int => [dPan x.1, dInts x.2.1, dInts x.2.2]) (C := fun x => x.1.length ≤ 10 ∧ Asc x.1.length x.2.1 ∧ (∀ y ∈ x.2.2, 0 ≤ y ∧ y < (x.1.length : Int))) (f := fun x => dInts (runM x.1 x.2.1 x.2.2)) (pan, st, row) h hc
theorem ok_After  {f : Addr} {fd : FuncData} {k : Nat} (F : Fun K "_law_after" "_law_after" sAfter f fd)
    (m_list : mg "list" = none) (m_sorted : mg "sorted" = none) (m_tuple : mg "tuple" = none) : FnOk P w K mg base CX0 (k + 1) f fd ["_law_panel_here", "_law_state", "_law_row"] (spAfter K) := by
  refine F.ok scAfter (fun vs H Q E h => ?_) (fun cdv A outer s H vs Q E hr h => ?_)
  · obtain ⟨_, hd, _⟩ := h
    exact hd.length
  · obtain ⟨⟨pan, st, row⟩, hd, hc, q⟩ := h
    obtain ⟨v1, v2, v3, rfl, d1, d2, d3⟩ := dpAll3 hd
    try dsimp only at hc
    try dsimp only at q
    try dsimp only at d1 d2 d3
    refine ⟨_, pss_cons (ps_set (i := 3) scAfter.nd rfl (.inl rfl) (pe_callTy (show CallR _ _ (rListG K) from call_listG) (by rfl) m_list (by decide +kernel) (pa_cons (pv 1) pa_nil)))
      (pss_cons (ps_for PassesOwn.never rfl (show PI _ _ _ (iTup K _) from pi_tup (pv 2)) (pg_name (i := 4) scAfter.nd rfl (Or.inr rfl)) (pss_one (ps_set (i := 3) scAfter.nd rfl (.inl rfl) (pe_op op_cat (pe_lc (own := [("_law_one", 5)]) (g := gName 5) rfl scAfter.nd (show PI _ _ _ (iList K _) from pi_list (pv 3)) (blkOk_by (own := [("_law_one", 5)]) (N := nAfter) (sc := defScope sAfter) (by decide +kernel)) (fun _ _ _ _ _ => pg_name (i := 5) scAfter.nd rfl (Or.inl rfl)) (fun _ _ _ _ _ => pts_one (PW.pt (pw_and (pt_cmpR (show OpR _ _ (rIn K true) from op_notIn_seq) (pv 5) (pe_ix (show IxR _ (rIxT K) from ix_tup) (pv 0) (pv 4) (fun _ _ => rfl)) (by rfl)) (pw_and1 (pt_cmpR op_ne (pv 5) (pv 4) (nomark _)))))) (fun _ _ _ _ _ => pv 5)) (pe_lst (pa_cons (pv 4) pa_nil))))))
      (pss_one (ps_ret (pe_callTy (show CallR _ _ (rTupG K) from cr_tupG) (by rfl) m_tuple (by decide +kernel) (pa_cons (pe_callB (show CallR _ _ (rSorted K) from cr_sorted) (by rfl) m_sorted (by decide +kernel) (pa_cons (pv 3) pa_nil)) pa_nil))))), ?_⟩
    obtain ⟨few, hst, hin⟩ := hc
    refine gs_setN (K := K) (gn_lstT (gv_var (i := 1) rfl d2)) fun D vD H1 s1 nD eD dD => ?_
    rw [dpAll_intsV dD] at eD
    refine gs_seqS (fun σ Hb => Same H1 Hb ∧ ∃ (D : Addr) (l : List Int) (x4 : Option V), Hb D = some (.lst (l.map V.int)) ∧ l.Perm (runM pan st row) ∧ σ = [some v1, some v2, some v3, some (.ref D), x4, none]) ?rest ?loop
    case loop =>
      intro hk
      refine gs_each (K := K) (δ := PyData.int) (as := row) (gvi_tup (gv_var (i := 2) rfl (d3.sm s1))) (fun Ha k σ Hb => Same Ha Hb ∧ ∃ (D : Addr) (l : List Int) (x4 : Option V), Hb D = some (.lst (l.map V.int)) ∧ l.Perm (runM pan st (row.take k)) ∧ σ = [some v1, some v2, some v3, some (.ref D), x4, none])
        (fun Ha sa => ⟨Same.refl _, D, st, none, sa _ _ eD, List.Perm.refl _, rfl⟩) (fun Ha k σ Hb sa hP => hP.1) (fun Ha k x v σ Hb Hc sa hx hP sc' dv => ?_) (fun Ha σ Hb sa hP => ?_)
      · obtain ⟨sb, D', l, x4, eD', pm, rfl⟩ := hP
        cases dv
        have hrg := hin x (List.mem_of_getElem? hx)
        have sac := (s1.trans sa).trans (sb.trans sc')
        have hl : l.length ≤ 10 := by
          rw [pm.length_eq]
          have := (runM_asc (row := row.take k) hst).len
          omega
        refine (gl_cat (K := K) (gl_lc (p := fun z => decide (z ≠ x ∧ z ∉ pan.getD x.toNat [])) (f := PyData.int) (as := l) (δ := PyData.int) (gvi_list (gv_var (i := 3) rfl (.lst (.inl (.inl (sc' _ _ eD'))) (dpAll_ints l)))) (fun z vz Hz hz sz dz => ⟨(gvt_and (gvt_test (gv_inT (neg := true) (gv_var rfl dz) (gv_pan (gv_var (i := 0) rfl ((d1.sm sac).sm sz)) (gv_var (i := 4) rfl (.int x)) hrg.1 hrg.2))) (fun Hy sy _ => gvt_test (gv_neI (gv_var rfl (dz.sm sy)) (gv_var (i := 4) rfl (.int x))))).to (by by_cases e1 : z = x <;> by_cases e2 : z ∈ pan.getD x.toNat [] <;> simp [e1, e2]), fun _ => gv_var rfl dz⟩) (fun _ _ => rfl) (by omega)) (gl_lst (gva_cons (gv_var (i := 4) rfl (.int x)) gva_nil)) ?_).at fun D2 vD2 Hd sd eD2 dD2 => ?_
        · rw [List.length_map]
          have := List.length_filter_le (fun z => decide (z ≠ x ∧ z ∉ pan.getD x.toNat [])) l
          show _ + 1 ≤ _; omega
        · rw [show (List.filter (fun z => decide (z ≠ x ∧ z ∉ pan.getD x.toNat [])) l).map PyData.int ++ [PyData.int x] = (List.filter (fun z => decide (z ≠ x ∧ z ∉ pan.getD x.toNat [])) l ++ [x]).map PyData.int from by rw [List.map_append]; rfl] at dD2
          rw [dpAll_intsV dD2] at eD2
          refine ⟨sb.trans (sc'.trans sd), D2, _, _, eD2, ?_, rfl⟩
          rw [runM_take hx]
          exact ((pm.filter _).append_right _).trans (press_perm (runM_asc hst) hrg.1 hrg.2)
      · obtain ⟨sb, D', l, x4, eD', pm, rfl⟩ := hP
        rw [List.take_length] at pm
        exact hk _ _ ⟨sa.trans sb, D', l, x4, eD', pm, rfl⟩
    case rest =>
      rintro σ Hb ⟨sb, D', l, x4, eD', pm, rfl⟩
      have hl : l.length ≤ 10 := by
        rw [pm.length_eq]
        have := (runM_asc (row := row) hst).len
        omega
      exact gs_ret (K := K) ((gv_tupL (gv_sortL (l := l) (gv_var (i := 3) rfl (.lst (.inl (.inl eD')) (dpAll_ints l))) (by omega))).to (by rw [srt_eq pm.symm ((runM_asc hst).up.imp fun h => by omega)]; rfl)) fun v H3 s3 dv => q v H3 (s1.trans (sb.trans s3)) dv
end
def intOf : V → Int
  | .int n => n
  | _ => 0
def rdT (H : Hp) (t : Addr) : List Int := match H t with
  | some (.tup vs) => vs.map intOf
  | _ => []
theorem rdT_of {H : Hp} {t : Addr} {l : List Int} (h : H t = some (.tup (l.map V.int))) : rdT H t = l := by
  unfold rdT
  rw [h]
  simp only [List.map_map]
  exact (List.map_congr_left fun _ _ => rfl).trans (List.map_id l)
def TL (H : Hp) (ts : List Addr) : Prop := ∀ t ∈ ts, ∃ l : List Int, H t = some (.tup (l.map V.int))
theorem TL.same {H H' : Hp} {ts : List Addr} (e : Same H H') (h : TL H ts) : TL H' ts := fun t ht => let ⟨l, hl⟩ := h t ht; ⟨l, e _ _ hl⟩
theorem TL.rd {H H' : Hp} {ts : List Addr} (e : Same H H') (h : TL H ts) : ts.map (rdT H') = ts.map (rdT H) := List.map_congr_left fun t ht => by
  obtain ⟨l, hl⟩ := h t ht
  rw [rdT_of hl, rdT_of (e _ _ hl)]
theorem TL.updL {H : Hp} {ts : List Addr} {D : Addr} {l : List V} {o : HO} (hD : H D = some (.lst l)) (h : TL H ts) : TL (upd H D o) ts ∧ ts.map (rdT (upd H D o)) = ts.map (rdT H) := by
  have k : ∀ t ∈ ts, ∃ l : List Int, H t = some (.tup (l.map V.int)) ∧ (upd H D o) t = some (.tup (l.map V.int)) := fun t ht => by
    obtain ⟨m, hm⟩ := h t ht
    exact ⟨m, hm, by rw [upd_ne (ne_of hm hD (by intro z; cases z))]; exact hm⟩
  exact ⟨fun t ht => let ⟨m, _, h2⟩ := k t ht; ⟨m, h2⟩, List.map_congr_left fun t ht => by
    obtain ⟨m, h1, h2⟩ := k t ht
    rw [rdT_of h1, rdT_of h2]⟩
def allS : Nat → List (List Int)
  | 0 => [[]]
  | n + 1 => allS n ++ (allS n).map fun l => l ++ [(n : Int)]
theorem allS_len : ∀ n, (allS n).length = 2 ^ n
  | 0 => rfl
  | n + 1 => by
    show (allS n ++ _).length = _
    rw [List.length_append, List.length_map, allS_len n, Nat.pow_succ]; omega
theorem allS_head : ∀ n, (allS n).head? = some []
  | 0 => rfl
  | n + 1 => by
    show (allS n ++ _).head? = _
    rw [List.head?_append, allS_head n]; rfl
theorem allS_mem : ∀ (n : Nat) (l : List Int), l ∈ allS n ↔ Asc n l
  | 0, l => by
    constructor
    · intro h
      obtain rfl := List.mem_singleton.mp h
      exact Asc.nil 0
    · intro h
      cases l with
      | nil => exact List.mem_singleton.mpr rfl
      | cons x r => have := h.rng x List.mem_cons_self; omega
  | n + 1, l => by
    have e : allS (n + 1) = allS n ++ (allS n).map fun l => l ++ [(n : Int)] := rfl
    rw [e, List.mem_append, List.mem_map]
    constructor
    · rintro (h | ⟨k, h, rfl⟩)
      · have := (allS_mem n l).mp h
        exact ⟨this.up, fun x hx => by have := this.rng x hx; omega⟩
      · have := (allS_mem n k).mp h
        refine ⟨List.pairwise_append.mpr ⟨this.up, by simp, fun x hx y hy => ?_⟩, fun x hx => ?_⟩
        · obtain rfl := List.mem_singleton.mp hy
          exact (this.rng x hx).2
        · rcases List.mem_append.mp hx with h' | h'
          · have := this.rng x h'; omega
          · obtain rfl := List.mem_singleton.mp h'; omega
    · intro h
      by_cases hn : (n : Int) ∈ l
      · right
        refine ⟨(intL n).filter (fun x => decide (x ∈ l)), (allS_mem n _).mpr (Asc.filter _ _), ?_⟩
        rw [← h.eq, intL_succ, List.filter_append, List.filter_cons_of_pos (by simpa using hn)]
        have : (List.filter (fun x => decide (x ∈ List.filter (fun x => decide (x ∈ l)) (intL n) ++ (n : Int) :: List.filter (fun x => decide (x ∈ l)) [])) (intL n)) = List.filter (fun x => decide (x ∈ l)) (intL n) := by
          refine List.filter_congr fun x hx => ?_
          have := mem_intL.mp hx
          simp only [List.filter_nil, List.mem_append, List.mem_filter, List.mem_singleton, decide_eq_true_eq]
          by_cases hxl : x ∈ l
          · simp [hxl, hx]
          · have : x ≠ (n : Int) := by omega
            simp [hxl, this]
        rw [this]; rfl
      · left
        refine (allS_mem n l).mpr ⟨h.up, fun x hx => ?_⟩
        have := h.rng x hx
        have : x ≠ (n : Int) := fun e => hn (e ▸ hx)
        omega
def nStates : List Str := ["_law_n", "_law_found", "_law_button", "_law_state"]
theorem scStates : FnScope nStates ["_law_n"] (defScope sStates) := ⟨rfl, rfl, rfl, by decide +kernel, rfl, by decide +kernel, by decide +kernel⟩
section
variable {P : Program} {w : World} {K : PySem.W.Frag} {mg : Str → Option Value} {base : Heap}
def spStates : Sp := fun vs H Q _ => ∃ (n : Nat), vs = [.int (n : Int)] ∧ n ≤ 10 ∧
  ∀ H' p ts, Same H H' → H' p = some (.lst (ts.map V.ref)) → TL H' ts → (ts.map (rdT H')).Perm (allS n) → (ts.map (rdT H')).Pairwise (fun p q => HT.lexLt q p = false) → Q (.ref p) H'
theorem ok_states {f : Addr} {fd : FuncData} {k : Nat} (F : Fun K "_law_all" "_law_all" sStates f fd) (mr : mg "range" = none) (ms : mg "sorted" = none) : FnOk P w K mg base CX0 (k + 1) f fd ["_law_n"] spStates := by
  refine F.ok scStates (fun vs H Q E h => ?_) (fun cdv A outer s H vs Q E hr h => ?_)
  · obtain ⟨n, rfl, _⟩ := h
    rfl
  · obtain ⟨n, rfl, hn, q⟩ := h
    refine ⟨_, pss_cons (ps_set (i := 1) scStates.nd rfl (.inl rfl) (pe_lst (pa_cons (pe_tup pa_nil) pa_nil)))
      (pss_cons (ps_for PassesOwn.never rfl (pi_range1 (by rfl) mr (pa_cons (pv 0) pa_nil)) (pg_name (i := 2) scStates.nd rfl (.inr rfl))
        (pss_one (ps_set (i := 1) scStates.nd rfl (.inl rfl) (pe_op op_cat (pv 1) (pe_lc (own := [("_law_state", 3)]) (g := gName 3) (tt := tYes) rfl scStates.nd (pi_list (pv 1))
          (blkOk_by (own := [("_law_state", 3)]) (N := nStates) (sc := defScope sStates) (by decide +kernel)) (fun _ _ _ _ _ => pg_name (i := 3) scStates.nd rfl (Or.inl rfl)) (fun _ _ _ _ _ => pts_nil)
          (fun _ _ _ _ _ => pe_op (show OpR _ _ (rCatA K) from op_catA) (pv 3) (pe_tup (pa_cons (pv 2) pa_nil))))))))
      (pss_one (ps_ret (pe_callB (cr_sortedTI hr.units) (by rfl) ms (by decide +kernel) (pa_cons (pv 1) pa_nil))))), ?_⟩
    refine ⟨Nat.zero_le _, fun T nT => ⟨by show 1 ≤ sizeLine; decide, fun R nR => ?_⟩⟩
    have s0 : Same H (upd (upd H T (.tup [])) R (.lst [.ref T])) := (same_new nT).trans (same_new nR)
    have eT : (upd (upd H T (.tup [])) R (.lst [.ref T])) T = some (.tup (([] : List Int).map V.int)) := (same_new nR) _ _ upd_same
    refine ⟨.int (n : Int), rfl, n, rfl, by omega, by omega, ?_⟩
    refine for_range (n := n) (fun i σ H5 => Same H H5 ∧ ∃ R ts x2 x3, H5 R = some (.lst (ts.map V.ref)) ∧ TL H5 ts ∧ ts.map (rdT H5) = allS i ∧ σ = [some (.int (n : Int)), some (.ref R), x2, x3])
      ⟨s0, R, [T], _, _, upd_same, fun t ht => by obtain rfl := List.mem_singleton.mp ht; exact ⟨[], eT⟩, by rw [List.map_cons, rdT_of eT]; rfl, rfl⟩ (fun i σ H5 hi hP => ?_) (fun σ H5 hP => ?_)
    · obtain ⟨s5, R, ts, x2, x3, eR, tl, el, rfl⟩ := hP
      have ln : ts.length = 2 ^ i := by rw [← List.length_map (f := rdT H5), el, allS_len]
      have lb : (2 : Nat) ^ i ≤ 2 ^ 9 := Nat.pow_le_pow_right (by decide) (by omega)
      rw [Int.zero_add]
      refine ⟨.ref R, rfl, .ref R, rfl, R, rfl, ⟨_, .inl (.inl eR)⟩, fun D nD => ?_⟩
      refine lc_list (K := K) (a := R) (xs := ts.map V.ref) (fun j H6 => Same H5 H6 ∧ ∃ us : List Addr, H6 D = some (.lst (us.map V.ref)) ∧ us.length = j ∧ TL H6 us ∧ us.map (rdT H6) = ((allS i).take j).map fun l => l ++ [(i : Int)])
        ⟨same_new nD, [], upd_same, rfl, (fun t ht => by cases ht), rfl⟩ (fun j H6 _ hP => .inl (.inl (hP.1 _ _ eR))) (fun j x H6 hx hP => ?_) (fun H6 hP => ?_)
      · obtain ⟨s6, us, eD, ul, tu, eu⟩ := hP
        obtain ⟨t, ht, rfl⟩ : ∃ t, ts[j]? = some t ∧ x = V.ref t := by
          rw [List.getElem?_map] at hx
          cases e : ts[j]? with
          | none => rw [e] at hx; cases hx
          | some t => rw [e] at hx; exact ⟨t, rfl, (Option.some.inj hx).symm⟩
        obtain ⟨l, hl⟩ := tl t (List.mem_of_getElem? ht)
        have al : (allS i)[j]? = some l := by rw [← el, List.getElem?_map, ht, Option.map_some, rdT_of hl]
        have lj : j < ts.length := (List.getElem?_eq_some_iff.mp ht).1
        have la := (allS_mem i l).mp (List.mem_of_getElem? al)
        have ll := la.len
        have fin : ∀ (H4 : Hp) (v : Addr), Same H6 H4 → H4 v = some (.tup ((l ++ [(i : Int)]).map V.int)) → ∃ acc, H4 D = some (.lst acc) ∧ acc.length < sizeLine ∧ Same H5 (upd H4 D (.lst (acc ++ [.ref v]))) ∧
            ∃ us : List Addr, (upd H4 D (.lst (acc ++ [.ref v]))) D = some (.lst (us.map V.ref)) ∧ us.length = j + 1 ∧ TL (upd H4 D (.lst (acc ++ [.ref v]))) us ∧ us.map (rdT (upd H4 D (.lst (acc ++ [.ref v])))) = ((allS i).take (j + 1)).map fun l => l ++ [(i : Int)] := by
          intro H4 v s4 hv
          have e4 := s4 _ _ eD
          have t4 : TL H4 (us ++ [v]) := fun t ht => by
            rcases List.mem_append.mp ht with h | h
            · exact (tu.same s4) t h
            · obtain rfl := List.mem_singleton.mp h
              exact ⟨_, hv⟩
          have tq := TL.updL (o := .lst (us.map V.ref ++ [.ref v])) e4 t4
          refine ⟨_, e4, by rw [List.length_map]; exact small1000 (by omega), ?_, us ++ [v], by rw [upd_same, List.map_append]; rfl, by rw [List.length_append, ul]; rfl, tq.1, ?_⟩
          · intro b o e
            rw [upd_ne (ne_of_none e nD)]
            exact s4 _ _ (s6 _ _ e)
          · rw [tq.2, List.map_append, tu.rd s4, eu, List.take_add_one, al, List.map_append, List.map_cons, rdT_of hv]; rfl
        refine ⟨rfl, tyes (iteT ⟨.ref t, rfl, .int (i : Int), rfl, by show 1 ≤ sizeLine; decide, fun B nB => ?_⟩)⟩
        have sB : Same H6 (upd H6 B (.tup [.int (i : Int)])) := same_new nB
        refine ⟨t, B, l.map V.int, [.int (i : Int)], rfl, rfl, .inl (.inl (sB _ _ (s6 _ _ hl))), .inl (.inl upd_same), ?_, fun e => ?_, (fun _ e => by cases e), fun _ _ p np => ?_⟩
        · rw [List.length_map]; show _ + 1 ≤ sizeLine; exact Nat.le_of_lt (small1000 (by omega))
        · have : l = [] := by simpa using e
          subst this
          exact fin _ B sB upd_same
        · exact fin _ p (sB.trans (same_new np)) (by rw [upd_same, List.map_append]; rfl)
      · obtain ⟨s6, us, eD, ul, tu, eu⟩ := hP
        rw [List.length_map] at ul
        refine ⟨R, D, _, _, rfl, rfl, s6 _ _ eR, eD, ?_, fun C nC => ?_⟩
        · rw [List.length_map, List.length_map]; exact Nat.le_trans (show _ ≤ 2 ^ 9 + 2 ^ 9 by omega) (by decide)
        · have sC : Same H6 (upd H6 C (.lst (ts.map V.ref ++ us.map V.ref))) := same_new nC
          refine ⟨(s5.trans s6).trans sC, C, ts ++ us, _, _, by rw [upd_same, List.map_append], ?_, ?_, rfl⟩
          · intro t ht
            rcases List.mem_append.mp ht with h | h
            · exact (tl.same (s6.trans sC)) t h
            · exact (tu.same sC) t h
          · rw [List.map_append, tl.rd (s6.trans sC), tu.rd sC, el, eu, List.length_map, List.take_of_length_le (by rw [allS_len, ln]; exact Nat.le_refl _)]; rfl
    · obtain ⟨s5, R, ts, x2, x3, eR, tl, el, rfl⟩ := hP
      refine ⟨.ref R, rfl, R, ts, rdT H5, rfl, .inl (.inl eR), fun t ht => ?_, ?_, fun ts' p pm pw np => ?_⟩
      · obtain ⟨l, hl⟩ := tl t ht
        rw [rdT_of hl]
        exact .inl (.inl hl)
      · rw [← List.head?_map, el, allS_head]
      · have sp : Same H5 (upd H5 p (.lst (ts'.map V.ref))) := same_new np
        have tl' : TL H5 ts' := fun t ht => tl t (pm.mem_iff.mp ht)
        refine q _ p ts' (s5.trans sp) upd_same (tl'.same sp) ?_ ?_
        · rw [tl'.rd sp, ← el]; exact pm.map _
        · rw [tl'.rd sp]; exact List.pairwise_map.mpr pw
end
end K33
namespace K33
open PySem PySem.Spec PyProof.Rows L2 Pr
theorem scMet : FnScope ["_law_panel_here", "_law_row", "_law_found", "_law_button"] ["_law_panel_here", "_law_row"] (defScope sMet) := ⟨rfl, rfl, rfl, by decide +kernel, rfl, by decide +kernel, by decide +kernel⟩
section
variable {P : Program} {w : World} {K : PySem.W.Frag} {mg : Str → Option Value} {base : Heap}
def spMet (K : PySem.W.Frag) : Sp := fun vs H Q _ => ∃ (p r : Addr) (pan : List (List Int)) (row : List Int), vs = [.ref p, .ref r] ∧ PanT K H p pan ∧ Good pan ∧ SqT K H r (row.map V.int) ∧ row.length ≤ 60 ∧ (∀ x ∈ row, 0 ≤ x ∧ x < (pan.length : Int)) ∧
  ∀ (H' : Hp) (t : Addr) (ms : List Int), Same H H' → H' t = some (.lst (ms.map V.int)) → Asc pan.length ms → (∀ c, c ∈ ms ↔ metB pan row c) → Q (.ref t) H'
theorem ok_met {f : Addr} {fd : FuncData} {k : Nat} (F : Fun K "_law_met" "_law_met" sMet f fd) (mli : mg "list" = none) (mse : mg "set" = none) (mso : mg "sorted" = none) : FnOk P w K mg base CX0 (k + 1) f fd ["_law_panel_here", "_law_row"] (spMet K) := by
  refine F.ok scMet (fun vs H Q E h => ?_) (fun cdv A outer s H vs Q E hr h => ?_)
  · obtain ⟨p, r, pan, row, rfl, _⟩ := h
    rfl
  · obtain ⟨p, r, pan, row, rfl, hp, hg, hrow, hrl, hin, q⟩ := h
    refine ⟨_, pss_cons (ps_set (i := 2) scMet.nd rfl (.inl rfl) (pe_callTy call_list_of (by rfl) mli (by decide +kernel) (pa_cons (pv 1) pa_nil)))
      (pss_cons (ps_for PassesOwn.never rfl (pi_tup (pv 1)) (pg_name (i := 3) scMet.nd rfl (.inl rfl))
        (pss_one (ps_set (i := 2) scMet.nd rfl (.inl rfl) (pe_op op_cat (pv 2) (pe_callTy call_list_of (by rfl) mli (by decide +kernel) (pa_cons (pe_ix ix_tup (pv 0) (pv 3) (fun _ _ => rfl)) pa_nil))))))
      (pss_one (ps_ret (pe_callB (cr_sortedSet rfl) (by rfl) mso (by decide +kernel) (pa_cons (pe_callTy (cr_setL rfl) (by rfl) mse (by decide +kernel) (pa_cons (pv 2) pa_nil)) pa_nil))))), ?_⟩
    refine ⟨.ref r, rfl, r, _, rfl, .inr hrow, fun L nL => ?_⟩
    have few := hg.few
    refine ⟨.ref r, rfl, r, rfl, ⟨_, same_sqT (same_new nL) hrow⟩, ?_⟩
    refine for_tup (xs := row.map V.int) (fun i σ H2 => Same H H2 ∧ ∃ (W : Addr) (l : List Int) (x3 : Option V), H2 W = some (.lst (l.map V.int)) ∧ l.length ≤ row.length + 10 * i ∧ (∀ c, c ∈ l ↔ (c ∈ row ∨ ∃ b ∈ row.take i, c ∈ pan.getD b.toNat [])) ∧ σ = [some (.ref p), some (.ref r), some (.ref W), x3])
      ⟨same_new nL, L, row, none, upd_same, by omega, fun c => ⟨.inl, fun h => h.elim id fun ⟨b, hb, _⟩ => by simp at hb⟩, rfl⟩ (fun i σ H2 _ hP => same_sqT hP.1 hrow) (fun i x σ H2 hx hP => ?_) (fun σ H2 hP => ?_)
    · obtain ⟨s2, W, l, x3, eW, ll, lm, rfl⟩ := hP
      obtain ⟨b, hb, rfl⟩ := int_get hx
      have hi : i < row.length := (List.getElem?_eq_some_iff.mp hb).1
      have hbr := hin b (List.mem_of_getElem? hb)
      obtain ⟨qs, q', hq, ha, hr', _⟩ := panT_at (hp.same s2) hbr.1 hbr.2
      generalize hl0 : pan.getD b.toNat [] = l0 at hr'
      have hl0l : l0.length ≤ 10 := by
        have hbn : b.toNat < pan.length := by omega
        have hm : l0 ∈ pan := by
          rw [← hl0, List.getD_eq_getElem?_getD, List.getElem?_eq_getElem hbn]
          exact List.getElem_mem hbn
        refine pw_length (n := 10) (lo := 0) (hg.up l0 hm) fun x hx => ?_
        have := hg.rng l0 hm x hx
        omega
      refine ⟨.ref W, rfl, .ref p, rfl, .int b, rfl, p, _, _, .ref q', rfl, rfl, hq, ha, q', _, rfl, .inr hr', fun M nM => ?_⟩
      have sM : Same H2 (upd H2 M (.lst (l0.map V.int))) := same_new nM
      refine ⟨W, M, _, _, rfl, rfl, sM _ _ eW, upd_same, ?_, fun W2 nW2 => ⟨(s2.trans sM).trans (same_new nW2), W2, l ++ l0, _, ?_, ?_, ?_, rfl⟩⟩
      · rw [List.length_map, List.length_map]; exact Nat.le_of_lt (small1000 (by omega))
      · rw [upd_same, List.map_append]
      · rw [List.length_append]; omega
      · intro c
        rw [List.mem_append, lm c, List.take_add_one, hb]
        constructor
        · rintro ((h | ⟨d, h1, h2⟩) | h)
          · exact .inl h
          · exact .inr ⟨d, List.mem_append_left _ h1, h2⟩
          · exact .inr ⟨b, List.mem_append_right _ (by simp), by rw [hl0]; exact h⟩
        · rintro (h | ⟨d, h1, h2⟩)
          · exact .inl (.inl h)
          · rcases List.mem_append.mp h1 with h3 | h3
            · exact .inl (.inr ⟨d, h3, h2⟩)
            · have : d = b := by simpa using h3
              rw [this, hl0] at h2
              exact .inr h2
    · obtain ⟨s2, W, l, x3, eW, ll, lm, rfl⟩ := hP
      rw [List.length_map] at ll
      rw [List.length_map, List.take_length] at lm
      have lr : ∀ x ∈ l, 0 ≤ x ∧ x < (pan.length : Int) := fun x hx => by
        rcases (lm x).mp hx with h | ⟨b, _, h⟩
        · exact hin x h
        · exact hg.rng' h
      refine ⟨.ref W, rfl, sortSet_of (w := w) (K := K) (vs := [.ref W]) (H := H2) (Q := Q) ⟨W, l, pan.length, rfl, .inl (.inl eW), by omega, by omega, lr, fun ms t H3 s3 e3 up mm _ => ?_⟩⟩
      refine q H3 t ms (s2.trans s3) e3 ⟨up, fun x hx => lr x ((mm x).mp hx)⟩ fun c => ?_
      rw [mm c, lm c]
      exact Iff.rfl
end
theorem met_full {pan : List (List Int)} {row ms : List Int} (asc : Asc pan.length ms) (mem : ∀ c, c ∈ ms ↔ metB pan row c) : (!decide (wSame ∈ effM pan row)) = decide (ms.length = pan.length) := by
  by_cases h : ms.length = pan.length
  · rw [decide_eq_true h, decide_eq_false fun z => ?_]
    · rfl
    · obtain ⟨c, hc, hn⟩ := same_mem_eff.mp z
      exact hn ((mem c).mp ((asc_full asc).mp h c hc))
  · rw [decide_eq_false h, decide_eq_true ?_]
    · rfl
    · refine Classical.byContradiction fun hn => h ((asc_full asc).mpr fun c hc => Classical.byContradiction fun hc2 => hn (same_mem_eff.mpr ⟨c, hc, fun hm => hc2 ((mem c).mpr hm)⟩))
end K33
namespace Pr
open PySem PySem.Spec PyProof.Rows L2
def kStr (l : List Str) : List Key := l.map Sum.inr
theorem kStr_inj {a b : List Str} (h : kStr a = kStr b) : a = b := by
  unfold kStr at h
  exact List.map_inj_right (fun x y e => Sum.inr.inj e) |>.mp h
def InRow (pan : List (List Int)) (row : List Int) : Prop := ∀ y ∈ row, 0 ≤ y ∧ y < (pan.length : Int)
abbrev keysB (L : BL (List Key)) : List (List Key) := L.map (·.1)
/-- an entry: the effect of its row -/
structure Ent (pan : List (List Int)) (n : Nat) (x : List Key × List Int) : Prop where
  key : x.1 = kStr (effM pan x.2)
  inr : InRow pan x.2
  len : x.2.length ≤ n
structure SInv (pan : List (List Int)) (W : List Str) (i : Nat) (L : BL (List Key)) (ts : List (List Int)) : Prop where
  nd : (keysB L).Nodup
  ent : ∀ x ∈ L, Ent pan i x
  lev : ∀ t ∈ ts, InRow pan t ∧ kStr (effM pan t) ∈ keysB L
  clo : ∀ x ∈ L, (∃ t ∈ ts, effM pan t = effM pan x.2) ∨ ∀ b : Nat, b < pan.length → partB (effM pan ((b : Int) :: x.2)) W = true → kStr (effM pan ((b : Int) :: x.2)) ∈ keysB L
  com : ∀ r, InRow pan r → r.length ≤ i → partB (effM pan r) W = true → kStr (effM pan r) ∈ keysB L
/-- amid a turn: the buttons below b are done, of button b the first j -/
structure SMid (pan : List (List Int)) (W : List Str) (i : Nat) (L : BL (List Key)) (ts : List (List Int)) (b j : Nat) (L' : BL (List Key)) (us : List (List Int)) : Prop where
  nd : (keysB L').Nodup
  ent : ∀ x ∈ L', Ent pan (i + 1) x
  sub : ∀ x ∈ L, x ∈ L'
  new : ∀ x ∈ L', x ∈ L ∨ ∃ u ∈ us, effM pan u = effM pan x.2
  lev : ∀ u ∈ us, InRow pan u ∧ kStr (effM pan u) ∈ keysB L'
  few : us.length ≤ L'.length
  don : ∀ (b' k : Nat) (t : List Int), ts[k]? = some t → (b' < b ∨ (b' = b ∧ k < j)) → partB (effM pan ((b' : Int) :: t)) W = true → kStr (effM pan ((b' : Int) :: t)) ∈ keysB L'
variable {pan : List (List Int)} {W : List Str} {i : Nat} {L L' : BL (List Key)} {ts us : List (List Int)}
theorem SInv.start (g : Good pan) : SInv pan W 0 [(kStr (effM pan []), [])] [[]] := by
  refine ⟨by simp, fun x hx => ?_, fun t ht => ?_, fun x hx => ?_, fun r hr hl _ => ?_⟩
  · rw [List.mem_singleton.mp hx]; exact ⟨rfl, (fun _ h => by cases h), Nat.le_refl _⟩
  · rw [List.mem_singleton.mp ht]; exact ⟨(fun _ h => by cases h), by simp⟩
  · rw [List.mem_singleton.mp hx]; exact .inl ⟨[], List.mem_cons_self, rfl⟩
  · have : r = [] := List.length_eq_zero_iff.mp (by omega)
    subst this; simp
theorem SMid.next (h : SMid pan W i L ts b ts.length L' us) : SMid pan W i L ts (b + 1) 0 L' us :=
  ⟨h.nd, h.ent, h.sub, h.new, h.lev, h.few, fun b' k t hk hb => h.don b' k t hk (by
    have := (List.getElem?_eq_some_iff.mp hk).1
    rcases hb with hb | ⟨_, hb⟩
    · rcases Nat.lt_or_ge b' b with h | h
      · exact .inl h
      · exact .inr ⟨by omega, this⟩
    · omega)⟩
theorem key_mem {x : List Key × List Int} {L : BL (List Key)} (h : x ∈ L) : x.1 ∈ keysB L := List.mem_map.mpr ⟨x, h, rfl⟩
theorem eff_cong (g : Good pan) {b : Nat} (hb : b < pan.length) {r t : List Int} (e : effM pan r = effM pan t) : effM pan ((b : Int) :: r) = effM pan ((b : Int) :: t) := by
  rw [eff_cons g (by omega) (by omega), eff_cons g (by omega) (by omega), e]
/-- the row of a thing that is there -/
theorem ent_of (h : ∀ x ∈ L', Ent pan n x) {t : List Int} (hk : kStr (effM pan t) ∈ keysB L') : ∃ (m : Nat) (x : List Key × List Int), L'[m]? = some x ∧ x.1 = kStr (effM pan t) ∧ effM pan x.2 = effM pan t ∧ InRow pan x.2 := by
  obtain ⟨x, hx, e⟩ := List.mem_map.mp hk
  obtain ⟨m, hm⟩ := List.mem_iff_getElem?.mp hx
  have := h x hx
  exact ⟨m, x, hm, e, kStr_inj (this.key.symm.trans e), this.inr⟩
theorem part_tail (hW : W.length = pan.length) {b : Int} {r : List Int} (h : partB (effM pan (b :: r)) W = true) : partB (effM pan r) W = true := by
  rw [part_eff hW] at h ⊢
  intro c y hy
  have := h c y hy
  have e : wordsM pan (b :: r) (c : Int) = if wordsM pan r (c : Int) = wSame then wordsM pan [b] (c : Int) else wordsM pan r (c : Int) := words_app pan [b] r c
  by_cases hs : wordsM pan r (c : Int) = wSame
  · exact .inl hs
  · rw [e, if_neg hs] at this; exact this
theorem SMid.done (g : Good pan) (hW : W.length = pan.length) (h0 : SInv pan W i L ts) (h : SMid pan W i L ts pan.length 0 L' us) : SInv pan W (i + 1) L' us := by
  have sub : ∀ k, k ∈ keysB L → k ∈ keysB L' := fun k hk => by
    obtain ⟨x, hx, rfl⟩ := List.mem_map.mp hk
    exact key_mem (h.sub x hx)
  have ext : ∀ x ∈ L, ∀ b : Nat, b < pan.length → partB (effM pan ((b : Int) :: x.2)) W = true → kStr (effM pan ((b : Int) :: x.2)) ∈ keysB L' := fun x hx b hb hp => by
    rcases h0.clo x hx with ⟨t, ht, e⟩ | hc
    · obtain ⟨k, hk⟩ := List.mem_iff_getElem?.mp ht
      have ec := eff_cong g hb e
      rw [← ec] at hp ⊢
      exact h.don b k t hk (.inl hb) hp
    · exact sub _ (hc b hb hp)
  refine ⟨h.nd, h.ent, h.lev, fun x hx => ?_, fun r hr hl hp => ?_⟩
  · rcases h.new x hx with hx | ⟨u, hu, e⟩
    · exact .inr (ext x hx)
    · exact .inl ⟨u, hu, e⟩
  · cases r with
    | nil => exact sub _ (h0.com [] hr (Nat.zero_le _) hp)
    | cons y r =>
      have hy := hr y List.mem_cons_self
      have hr' : InRow pan r := fun z hz => hr z (List.mem_cons_of_mem _ hz)
      have hk := h0.com r hr' (by rw [List.length_cons] at hl; omega) (part_tail hW hp)
      obtain ⟨m, x, hm, _, e, _⟩ := ent_of h0.ent hk
      obtain ⟨b, rfl⟩ : ∃ b : Nat, y = (b : Int) := ⟨y.toNat, (Int.toNat_of_nonneg hy.1).symm⟩
      have hb : b < pan.length := by omega
      have ec := eff_cong g hb e
      rw [← ec] at hp ⊢
      exact ext x (List.mem_of_getElem? hm) b hb hp
end Pr
namespace Pr
open PySem PySem.Spec PyProof.Rows L2
/-- no row of the same effect is shorter, none of the same length stands ahead -/
structure Best (pan : List (List Int)) (r : List Int) : Prop where
  inr : InRow pan r
  min : ∀ r', InRow pan r' → effM pan r' = effM pan r → r.length ≤ r'.length ∧ (r'.length = r.length → HT.lexLt r' r = false)
theorem lexLt_irr (r : List Int) : HT.lexLt r r = false := by rw [lexLt_lt, decide_eq_false_iff_not]; exact List.lt_irrefl r
theorem Best.uniq {pan : List (List Int)} {r s : List Int} (a : Best pan r) (b : Best pan s) (e : effM pan r = effM pan s) : r = s := by
  have h1 := a.min s b.inr e.symm
  have h2 := b.min r a.inr e
  have hl : r.length = s.length := by omega
  exact lex_anti (h1.2 hl.symm) (h2.2 hl)
abbrev entK (pan : List (List Int)) (u : List Int) : List Key × List Int := (kStr (effM pan u), u)
structure XInv (pan : List (List Int)) (i : Nat) (L : BL (List Key)) (ts : List (List Int)) : Prop where
  bes : ∀ x ∈ L, Best pan x.2
  lvl : ∀ t ∈ ts, t.length = i ∧ entK pan t ∈ L
  all : ∀ x ∈ L, x.2.length = i → x.2 ∈ ts
  srt : ts.Pairwise fun a b => HT.lexLt a b = true
structure XMid (pan : List (List Int)) (i : Nat) (L : BL (List Key)) (ts : List (List Int)) (b j : Nat) (L' : BL (List Key)) (us : List (List Int)) : Prop where
  eq : L' = L ++ us.map (entK pan)
  bes : ∀ u ∈ us, Best pan u
  frm : ∀ u ∈ us, ∃ (b' k : Nat) (t : List Int), ts[k]? = some t ∧ u = (b' : Int) :: t ∧ (b' < b ∨ (b' = b ∧ k < j))
  srt : us.Pairwise fun a b => HT.lexLt a b = true
variable {pan : List (List Int)} {W : List Str} {i : Nat} {L L' : BL (List Key)} {ts us : List (List Int)}
theorem XInv.start : XInv pan 0 [(kStr (effM pan []), [])] [[]] := by
  refine ⟨fun x hx => ?_, fun t ht => ?_, fun x hx _ => ?_, List.pairwise_singleton _ _⟩
  · rw [List.mem_singleton.mp hx]
    exact ⟨(fun _ h => by cases h), fun r' _ _ => ⟨Nat.zero_le _, fun hl => by rw [List.eq_nil_of_length_eq_zero hl]; exact lexLt_irr []⟩⟩
  · rw [List.mem_singleton.mp ht]; exact ⟨rfl, List.mem_singleton.mpr rfl⟩
  · rw [List.mem_singleton.mp hx]; exact List.mem_singleton.mpr rfl
theorem XMid.next {b : Nat} (h : XMid pan i L ts b ts.length L' us) : XMid pan i L ts (b + 1) 0 L' us :=
  ⟨h.eq, h.bes, fun u hu => by
    obtain ⟨b', k, t, h1, h2, h3⟩ := h.frm u hu
    refine ⟨b', k, t, h1, h2, .inl ?_⟩
    rcases h3 with h3 | ⟨h3, _⟩ <;> omega, h.srt⟩
theorem XMid.done {b : Nat} (s0 : SInv pan W i L ts) (h0 : XInv pan i L ts) (h : XMid pan i L ts b 0 L' us) : XInv pan (i + 1) L' us := by
  have ul : ∀ u ∈ us, u.length = i + 1 := fun u hu => by
    obtain ⟨b', k, t, h1, rfl, _⟩ := h.frm u hu
    rw [List.length_cons, (h0.lvl t (List.mem_of_getElem? h1)).1]
  refine ⟨fun x hx => ?_, fun u hu => ⟨ul u hu, ?_⟩, fun x hx hl => ?_, h.srt⟩
  · rw [h.eq] at hx
    rcases List.mem_append.mp hx with hx | hx
    · exact h0.bes x hx
    · obtain ⟨u, hu, rfl⟩ := List.mem_map.mp hx
      exact h.bes u hu
  · rw [h.eq]
    exact List.mem_append_right _ (List.mem_map.mpr ⟨u, hu, rfl⟩)
  · rw [h.eq] at hx
    rcases List.mem_append.mp hx with hx | hx
    · have := (s0.ent x hx).len
      omega
    · obtain ⟨u, hu, rfl⟩ := List.mem_map.mp hx
      exact hu
structure SI2 (pan : List (List Int)) (W : List Str) (i : Nat) (L : BL (List Key)) (ts : List (List Int)) : Prop where
  s : SInv pan W i L ts
  x : XInv pan i L ts
structure SM2 (pan : List (List Int)) (W : List Str) (i : Nat) (L : BL (List Key)) (ts : List (List Int)) (b j : Nat) (L' : BL (List Key)) (us : List (List Int)) : Prop where
  s : SMid pan W i L ts b j L' us
  x : XMid pan i L ts b j L' us
theorem SI2.start (g : Good pan) : SI2 pan W 0 [(kStr (effM pan []), [])] [[]] := ⟨.start g, .start⟩
theorem SM2.next {b : Nat} (h : SM2 pan W i L ts b ts.length L' us) : SM2 pan W i L ts (b + 1) 0 L' us := ⟨h.s.next, h.x.next⟩
theorem SM2.done (g : Good pan) (hW : W.length = pan.length) (h0 : SI2 pan W i L ts) (h : SM2 pan W i L ts pan.length 0 L' us) : SI2 pan W (i + 1) L' us := ⟨h.s.done g hW h0.s, h.x.done h0.s h0.x⟩
end Pr
namespace Pr
open PySem PySem.Spec PyProof.Rows L2 PySem.W
end Pr
namespace Pr
open PySem PySem.Spec PyProof.Rows L2
end Pr
namespace Pr
open PySem PySem.Spec PyProof.Rows L2
end Pr
namespace Pr
open PySem PySem.Spec PyProof.Rows L2
def stN (l : List Int) : Nat := match l.getLast? with
  | none => 0
  | some x => x.toNat + 1
def extC (n : Nat) (l : List Int) : List (List Int) := (List.range (n - stN l)).map fun i : Nat => l ++ [((stN l + i : Nat) : Int)]
def choM (n : Nat) : Nat → List (List Int)
  | 0 => [[]]
  | k + 1 => (choM n k).flatMap (extC n)
theorem stN_nil : stN [] = 0 := rfl
theorem stN_snoc (l : List Int) (x : Int) : stN (l ++ [x]) = x.toNat + 1 := by
  unfold stN
  rw [List.getLast?_append, List.getLast?_singleton]; rfl
theorem asc_snoc {n : Nat} {l : List Int} {x : Int} : Asc n (l ++ [x]) ↔ Asc n l ∧ (stN l : Int) ≤ x ∧ x < (n : Int) := by
  constructor
  · intro h
    obtain ⟨h1, h2, h3⟩ := List.pairwise_append.mp h.up
    have hx := h.rng x (List.mem_append_right _ (List.mem_singleton_self _))
    refine ⟨⟨h1, fun y hy => h.rng y (List.mem_append_left _ hy)⟩, ?_, hx.2⟩
    rcases List.eq_nil_or_concat l with rfl | ⟨m, y, rfl⟩
    · rw [stN_nil]; exact hx.1
    · rw [List.concat_eq_append, stN_snoc]
      have := h3 y (by simp) x (List.mem_singleton_self _)
      have hy := h.rng y (by simp)
      omega
  · rintro ⟨h, h1, h2⟩
    have lt : ∀ y ∈ l, y < x := by
      rcases List.eq_nil_or_concat l with rfl | ⟨m, y, rfl⟩
      · intro y hy; cases hy
      · rw [List.concat_eq_append] at h h1 ⊢
        rw [stN_snoc] at h1
        intro z hz
        have hy := h.rng y (by simp)
        rcases List.mem_append.mp hz with hz | hz
        · have := (List.pairwise_append.mp h.up).2.2 z hz y (List.mem_singleton_self _)
          omega
        · rw [List.mem_singleton.mp hz]; omega
    refine ⟨List.pairwise_append.mpr ⟨h.up, List.pairwise_singleton _ _, fun y hy z hz => by rw [List.mem_singleton.mp hz]; exact lt y hy⟩, fun y hy => ?_⟩
    rcases List.mem_append.mp hy with hy | hy
    · exact h.rng y hy
    · rw [List.mem_singleton.mp hy]; omega
theorem mem_choM {n : Nat} : ∀ {k : Nat} {l : List Int}, l ∈ choM n k ↔ Asc n l ∧ l.length = k
  | 0, l => by
    constructor
    · intro h; rw [List.mem_singleton.mp h]; exact ⟨Asc.nil n, rfl⟩
    · rintro ⟨_, h⟩; rw [List.eq_nil_of_length_eq_zero h]; exact List.mem_singleton.mpr rfl
  | k + 1, l => by
    show l ∈ (choM n k).flatMap _ ↔ _
    rw [List.mem_flatMap]
    constructor
    · rintro ⟨r, hr, hl⟩
      obtain ⟨h1, h2⟩ := mem_choM.mp hr
      unfold extC at hl
      obtain ⟨i, hi, rfl⟩ := List.mem_map.mp hl
      have := List.mem_range.mp hi
      exact ⟨asc_snoc.mpr ⟨h1, by omega, by omega⟩, by rw [List.length_append, h2]; rfl⟩
    · rintro ⟨h, hl⟩
      rcases List.eq_nil_or_concat l with rfl | ⟨m, x, rfl⟩
      · cases hl
      · rw [List.concat_eq_append] at h hl ⊢
        obtain ⟨h1, h2, h3⟩ := asc_snoc.mp h
        rw [List.length_append] at hl
        refine ⟨m, mem_choM.mpr ⟨h1, by simpa using hl⟩, ?_⟩
        unfold extC
        refine List.mem_map.mpr ⟨x.toNat - stN m, List.mem_range.mpr (by omega), ?_⟩
        rw [show ((stN m + (x.toNat - stN m) : Nat) : Int) = x by omega]
theorem lt_app : ∀ {a b : List Int} (x y : List Int), a.length = b.length → a < b → a ++ x < b ++ y
  | [], [], _, _, _, h => absurd h (List.lt_irrefl _)
  | p :: a, q :: b, x, y, hl, h => by
    rw [List.cons_append, List.cons_append]
    rcases List.cons_lt_cons_iff.mp h with h1 | ⟨h1, h2⟩
    · exact List.cons_lt_cons_iff.mpr (.inl h1)
    · exact List.cons_lt_cons_iff.mpr (.inr ⟨h1, lt_app x y (by simpa using hl) h2⟩)
  | [], _ :: _, _, _, hl, _ => by cases hl
  | _ :: _, [], _, _, hl, _ => by cases hl
theorem lt_snoc : ∀ (l : List Int) {x y : Int}, x < y → l ++ [x] < l ++ [y]
  | [], x, y, h => List.cons_lt_cons_iff.mpr (.inl h)
  | p :: l, x, y, h => List.cons_lt_cons_iff.mpr (.inr ⟨rfl, lt_snoc l h⟩)
theorem choM_up {n : Nat} : ∀ k, (choM n k).Pairwise (· < ·)
  | 0 => List.pairwise_singleton _ _
  | k + 1 => by
    show ((choM n k).flatMap _).Pairwise _
    rw [List.pairwise_flatMap]
    refine ⟨fun l _ => ?_, (choM_up k).imp_of_mem fun {a b} ha hb h x hx y hy => ?_⟩
    · unfold extC
      rw [List.pairwise_map]
      exact List.pairwise_lt_range.imp fun h => lt_snoc l (by omega)
    · unfold extC at hx hy
      obtain ⟨i, _, rfl⟩ := List.mem_map.mp hx
      obtain ⟨j, _, rfl⟩ := List.mem_map.mp hy
      exact lt_app _ _ ((mem_choM.mp ha).2.trans (mem_choM.mp hb).2.symm) h
theorem choM_nodup (n k : Nat) : (choM n k).Nodup := List.Pairwise.imp (S := fun a b => a ≠ b) (fun {a b} (h : a < b) (e : a = b) => by subst e; exact List.lt_irrefl _ h) (choM_up k)
/-- 2 ^ n lists that hold all -/
def allC : Nat → List (List Int)
  | 0 => [[]]
  | n + 1 => allC n ++ (allC n).map fun l => l ++ [(n : Int)]
theorem allC_len : ∀ n, (allC n).length = 2 ^ n
  | 0 => rfl
  | n + 1 => by
    show (allC n ++ _).length = _
    rw [List.length_append, List.length_map, allC_len n, Nat.pow_succ]; omega
theorem sub_len {α : Type} [DecidableEq α] : ∀ {a b : List α}, a.Nodup → (∀ x ∈ a, x ∈ b) → a.length ≤ b.length
  | [], _, _, _ => Nat.zero_le _
  | x :: a, b, nd, h => by
    obtain ⟨hx, nd'⟩ := List.nodup_cons.mp nd
    have hb := h x List.mem_cons_self
    have := sub_len (b := b.erase x) nd' fun y hy => (List.mem_erase_of_ne (fun e : y = x => hx (by rw [← e]; exact hy))).mpr (h y (List.mem_cons_of_mem _ hy))
    rw [List.length_erase_of_mem hb] at this
    have pos := List.length_pos_of_mem hb
    rw [List.length_cons]; omega
theorem mem_allC : ∀ {n : Nat} {l : List Int}, Asc n l → l ∈ allC n
  | 0, l, h => by
    cases l with
    | nil => exact List.mem_singleton.mpr rfl
    | cons x r => have := h.rng x List.mem_cons_self; omega
  | n + 1, l, h => by
    show l ∈ allC n ++ _
    rw [List.mem_append]
    by_cases hn : (n : Int) ∈ l
    · rcases List.eq_nil_or_concat l with rfl | ⟨m, x, rfl⟩
      · cases hn
      · rw [List.concat_eq_append] at h hn ⊢
        have hx := h.rng x (by simp)
        have e : x = (n : Int) := by
          rcases List.mem_append.mp hn with z | z
          · have := (List.pairwise_append.mp h.up).2.2 _ z x (List.mem_singleton_self _)
            omega
          · exact (List.mem_singleton.mp z).symm
        subst e
        refine .inr (List.mem_map.mpr ⟨m, mem_allC ⟨(List.pairwise_append.mp h.up).1, fun y hy => ?_⟩, rfl⟩)
        have h1 := h.rng y (List.mem_append_left _ hy)
        have h2 := (List.pairwise_append.mp h.up).2.2 y hy (n : Int) (List.mem_singleton_self _)
        omega
    · refine .inl (mem_allC ⟨h.up, fun y hy => ?_⟩)
      have h1 := h.rng y hy
      have : y ≠ (n : Int) := fun e => hn (e ▸ hy)
      omega
theorem choM_len {n : Nat} (hn : n ≤ 10) (k : Nat) : (choM n k).length ≤ 1024 := by
  have h1 := sub_len (choM_nodup n k) (b := allC n) fun l hl => mem_allC (mem_choM.mp hl).1
  rw [allC_len] at h1
  have : 2 ^ n ≤ 2 ^ 10 := Nat.pow_le_pow_right (by decide) hn
  omega
theorem take_flat_len {n : Nat} (hn : n ≤ 10) (k j : Nat) : (((choM n k).take j).flatMap (extC n)).length ≤ 1024 := by
  have h : (((choM n k).take j).flatMap (extC n)).length ≤ (choM n (k + 1)).length := by
    show _ ≤ ((choM n k).flatMap (extC n)).length
    conv => rhs; rw [← List.take_append_drop j (choM n k), List.flatMap_append, List.length_append]
    exact Nat.le_add_right _ _
  exact Nat.le_trans h (choM_len hn (k + 1))
/-- before the first one of its size that is met no smaller one is -/
theorem choi_best {p : List Int → Prop} {n k j : Nat} {l : List Int} (hj : (choM n k)[j]? = some l) (small : ∀ r, Asc n r → r.length < k → ¬ p r) (before : ∀ r ∈ (choM n k).take j, ¬ p r) : ∀ r, Asc n r → p r → ¬ LtK r l := fun r ar pr h => by
  obtain ⟨al, ll⟩ := mem_choM.mp (List.mem_of_getElem? hj)
  rcases h with h | ⟨h1, h2⟩
  · exact small r ar (by omega) pr
  · obtain ⟨i, hi⟩ := List.getElem?_of_mem (mem_choM.mpr ⟨ar, h1.trans ll⟩)
    obtain ⟨il, ei⟩ := List.getElem?_eq_some_iff.mp hi
    obtain ⟨jl, ej⟩ := List.getElem?_eq_some_iff.mp hj
    rcases Nat.lt_trichotomy i j with e | e | e
    · exact before r (List.mem_of_getElem? (by rw [List.getElem?_take, if_pos e]; exact hi)) pr
    · subst e
      rw [ei] at ej
      exact List.lt_irrefl l (ej ▸ h2)
    · have := List.pairwise_iff_getElem.mp (choM_up (n := n) k) j i jl il e
      rw [ei, ej] at this
      exact List.lt_irrefl _ (List.lt_trans this h2)
end Pr
namespace K33
open PySem PySem.Spec PyProof.Rows L2 Pr
theorem gs_setQS2 {σ : L2.St} {H : Hp} {t : TE} {i : Nat} {u : TS} {D : Ends} (h : t σ H fun v H' => u D (σ.set i (some v)) H') : tSeq (tAsg t (gName i)) u D σ H := h
theorem dpAll_get2 {K : PySem.W.Frag} {H : Hp} {vs : List V} {ls : List (List Int)} {m : Nat} {v : V} (h : DpAll K H vs (ls.map dInts)) (hv : vs[m]? = some v) : ∃ l, ls[m]? = some l ∧ Dp K H v (dInts l) := by
  obtain ⟨d, hd, dv⟩ := dpAll_get h hv
  rw [List.getElem?_map] at hd
  cases e : ls[m]? with
  | none => rw [e] at hd; cases hd
  | some t => rw [e] at hd; cases hd; exact ⟨t, rfl, dv⟩
theorem lf_rowsR (l : List (List Int)) : lfAll (l.map dInts) = true := lfAll_of fun d hd => by
  obtain ⟨x, _, rfl⟩ := List.mem_map.mp hd
  exact lf_ints x
theorem stN_le {n : Nat} {r : List Int} (h : Asc n r) : stN r ≤ n := by
  rcases List.eq_nil_or_concat r with rfl | ⟨m, x, rfl⟩
  · exact Nat.zero_le _
  · rw [List.concat_eq_append] at h ⊢
    have hx := h.rng x (by simp)
    rw [stN_snoc]; omega
theorem gv_lastI {K : PySem.W.Frag} {σ : L2.St} {H : Hp} {ta tb : TE} {l : List Int} {x : Int} (ha : Gv K ta σ H (dInts (l ++ [x]))) (hb : Gv K tb σ H (.int (-1))) : Gv K (tOp (rIxT K) ta tb) σ H (.int x) := gv_op2 ha hb fun a b H1 Q s hx hy q => by
  cases hy
  obtain ⟨p, rfl, hp⟩ := hx.intsI
  exact ⟨p, _, -1, .int x, rfl, rfl, hp, by rw [List.map_append]; exact atI_last _ _, q _ H1 (Same.refl _) (.int x)⟩
theorem gv_start {K : PySem.W.Frag} {σ : L2.St} {H : Hp} {t : TE} {n : Nat} {r : List Int} (h : Gv K t σ H (dInts r)) (ar : Asc n r) : Gv K (tIf (tTest (tOp (rNeD K) t (tTup tNil))) (tOp (rI0 fun i j => V.int (i + j)) (tOp (rIxT K) t (tUn (rU fun i => .int (-i)) (tC (.int 1)))) (tC (.int 1))) (tC (.int 0))) σ H (.int (stN r : Nat)) := by
  rcases List.eq_nil_or_concat r with rfl | ⟨m, x, rfl⟩
  · exact (gv_if (b := false) (d := .int 0) (e := .int 0) ((gvt_test (K := K) (gv_neI1 (m := []) h (gv_tup gva_nil))).to rfl) (fun z => by cases z) (fun _ => gv_int)).to rfl
  · rw [List.concat_eq_append] at h ar ⊢
    have hx := ar.rng x (by simp)
    refine (gv_if (b := true) (d := .int (x + 1)) (e := .int 0) ((gvt_test (K := K) (gv_neI1 (m := []) h (gv_tup gva_nil))).to (by simp)) (fun _ => gv_add (gv_lastI h (gv_neg gv_int)) gv_int) (fun z => by cases z)).to ?_
    rw [stN_snoc]
    show PyData.int (x + 1) = PyData.int ((x.toNat + 1 : Nat) : Int)
    congr 1; omega
def nChoi : List Str := ["_law_n", "_law_size", "_law_found", "_law_turn", "_law_longer", "_law_some", "_law_start", "_law_button"]
theorem scChoi : FnScope nChoi ["_law_n", "_law_size"] (defScope sChoi) := ⟨rfl, rfl, rfl, by decide +kernel, rfl, by decide +kernel, by decide +kernel⟩
section
variable {P : Program} {w : World} {K : PySem.W.Frag} {mg : Str → Option Value} {base : Heap}
def spChoi (K : PySem.W.Frag) : Sp := spP K (fun x : Nat × Nat => [.int (x.1 : Int), .int (x.2 : Int)]) (fun x => x.1 ≤ 10 ∧ x.2 ≤ 10) (fun x => .list ((choM x.1 x.2).map dInts))
theorem gv_Choi {σ : L2.St} {H : Hp} {t : TA} {E : XK} {n : Nat} {kk : Nat} (h : GvA K t σ H [.int (n : Int), .int (kk : Int)]) (hc : n ≤ 10 ∧ kk ≤ 10) : Gv K (tCall (spChoi K) [] E t) σ H (.list ((choM n kk).map dInts)) := gv_call (K := K) (δ := fun x : Nat × Nat => [.int (x.1 : Int), .int (x.2 : Int)]) (C := fun x => x.1 ≤ 10 ∧ x.2 ≤ 10) (f := fun x => .list ((choM x.1 x.2).map dInts)) (n, kk) h hc
theorem ok_Choi  {f : Addr} {fd : FuncData} {k : Nat} (F : Fun K "_law_choices" "_law_choices" sChoi f fd)
    (m_range : mg "range" = none) : FnOk P w K mg base CX0 (k + 1) f fd ["_law_n", "_law_size"] (spChoi K) := by
  refine F.ok scChoi (fun vs H Q E h => ?_) (fun cdv A outer s H vs Q E hr h => ?_)
  · obtain ⟨_, hd, _⟩ := h
    exact hd.length
  · obtain ⟨⟨n, kk⟩, hd, hc, q⟩ := h
    obtain ⟨v1, v2, rfl, d1, d2⟩ := dpAll2 hd
    try dsimp only at hc
    try dsimp only at q
    try dsimp only at d1 d2
    refine ⟨_, pss_cons (ps_set (i := 2) scChoi.nd rfl (.inl rfl) (pe_lst (pa_cons (pe_tup pa_nil) pa_nil)))
      (pss_cons (ps_for PassesOwn.never rfl (pi_range1 (by rfl) m_range (pa_cons (pv 1) pa_nil)) (pg_name (i := 3) scChoi.nd rfl (Or.inl rfl)) (pss_cons (ps_set (i := 4) scChoi.nd rfl (.inl rfl) (pe_lst pa_nil))
      (pss_cons (ps_for PassesOwn.never rfl (show PI _ _ _ (iList K _) from pi_list (pv 2)) (pg_name (i := 5) scChoi.nd rfl (Or.inr rfl)) (pss_cons (ps_set (i := 6) scChoi.nd rfl (.inl rfl) (pe_ifExp (pt_cmpR (show OpR _ _ (rNeD K) from op_neD hr.units) (pv 5) (pe_tup pa_nil) (nomark _)) (pe_op op_add (pe_ix (show IxR _ (rIxT K) from ix_tup) (pv 5) (pe_un un_neg pe_int) (fun _ _ => rfl)) pe_int) pe_int))
      (pss_one (ps_expr (show PE _ _ (tBM K "list" rExtend _ _) from pe_bm PySem.F.plainAttrs_list PySem.F.slot_list_extend PySem.F.type_list_extend mt_extend (pv 4) (pa_cons (pe_lc (own := [("_law_button", 7)]) (g := gName 7) (tt := tYes) rfl scChoi.nd (pi_range2 (by rfl) m_range (pa_cons (pv 6) (pa_cons (pv 0) pa_nil))) (blkOk_by (own := [("_law_button", 7)]) (N := nChoi) (sc := defScope sChoi) (by decide +kernel)) (fun _ _ _ _ _ => pg_name (i := 7) scChoi.nd rfl (Or.inl rfl)) (fun _ _ _ _ _ => pts_nil) (fun _ _ _ _ _ => pe_op (show OpR _ _ (rCatS K) from op_catS) (pv 5) (pe_tup (pa_cons (pv 7) pa_nil)))) pa_nil))))))
      (pss_one (ps_set (i := 2) scChoi.nd rfl (.inl rfl) (pv 4))))))
      (pss_one (ps_ret (pv 2)))), ?_⟩
    cases d1
    cases d2
    obtain ⟨hn, hk10⟩ := hc
    refine gs_setN (K := K) (gn_lst (gva_cons (gv_tup gva_nil) gva_nil)) fun R0 vR0 H1 s1 nR0 eR0 dR0 => ?_
    refine gs_seqS (fun σ H5 => Same H H5 ∧ ∃ (R : Addr) (us : List V) (x3 x4 x5 x6 : Option V), H5 R = some (.lst us) ∧ DpAll K H5 us ((choM n kk).map dInts) ∧ σ = [some (.int (n : Int)), some (.int (kk : Int)), some (.ref R), x3, x4, x5, x6, none]) ?rest0 ?loop0
    case loop0 =>
      intro hk0
      refine ⟨.int (kk : Int), rfl, (kk : Int), rfl, by omega, by omega, ?_⟩
      refine for_range (n := kk) (fun k σ H5 => Same H H5 ∧ ∃ (R : Addr) (us : List V) (x3 x4 x5 x6 : Option V), H5 R = some (.lst us) ∧ DpAll K H5 us ((choM n k).map dInts) ∧ σ = [some (.int (n : Int)), some (.int (kk : Int)), some (.ref R), x3, x4, x5, x6, none])
        ⟨s1, R0, vR0, none, none, none, none, eR0, dR0, rfl⟩ (fun k σ H5 hk hP => ?_) (fun σ H5 hP => hk0 _ _ hP)
      obtain ⟨s5, R, us, x3, x4, x5, x6, eR, dus, rfl⟩ := hP
      refine gs_setN (K := K) (gn_lst gva_nil) fun lo vlo H6 s6 nlo elo dlo => ?_
      cases dlo
      have eR6 := s6 _ _ eR
      have Rlo : R ≠ lo := ne_of_none eR nlo
      have ul : us.length = (choM n k).length := by have := dus.length; rwa [List.length_map] at this
      have dus6 := dus.sm s6
      refine gs_seqS (fun σ H' => (∀ b o, b ≠ lo → H6 b = some o → H' b = some o) ∧ ∃ (ws : List V) (x5 x6 : Option V), H' lo = some (.lst ws) ∧ DpAll K H' ws ((choM n (k + 1)).map dInts) ∧ σ = [some (.int (n : Int)), some (.int (kk : Int)), some (.ref R), some (.int (0 + (k : Int))), some (.ref lo), x5, x6, none]) ?rest ?loop
      case loop =>
        intro hk2
        refine ⟨.ref R, rfl, R, rfl, ⟨_, .inl (.inl eR6)⟩, ?_⟩
        refine for_list (xs := us) (fun j σ H' => (∀ b o, b ≠ lo → H6 b = some o → H' b = some o) ∧ ∃ (ws : List V) (x5 x6 : Option V), H' lo = some (.lst ws) ∧ DpAll K H' ws ((((choM n k).take j).flatMap (extC n)).map dInts) ∧ σ = [some (.int (n : Int)), some (.int (kk : Int)), some (.ref R), some (.int (0 + (k : Int))), some (.ref lo), x5, x6, none])
          ⟨fun _ _ _ e => e, [], _, _, elo, .nil, rfl⟩ (fun j σ H' _ hP => .inl (.inl (hP.1 _ _ Rlo eR6))) (fun j x σ H' hx hP => ?_) (fun σ H' hP => ?_)
        · obtain ⟨b7, ws, x5', x6', elo7, dws, rfl⟩ := hP
          obtain ⟨r, hr, dx⟩ := dpAll_get2 dus6 hx
          have jl : j < us.length := (List.getElem?_eq_some_iff.mp hx).1
          have k67 : Kp H6 H' := ⟨fun c ys e => b7 c _ (ne_of e elo (by intro z; cases z)) e, fun c o u e => b7 c _ (ne_of e elo (by intro z; cases z)) e⟩
          have dx7 : Dp K H' x (dInts r) := dx.kp k67 (lf_ints _)
          obtain ⟨ar, rl⟩ := mem_choM.mp (List.mem_of_getElem? hr)
          have rl10 := ar.len
          have wl : ws.length ≤ 1024 := by
            have := dws.length
            rw [List.length_map] at this
            rw [this]; exact take_flat_len hn k j
          refine gs_set1 (K := K) (gv_start (gv_var (i := 5) rfl dx7) ar) fun vs8 H8 s8 d8 => ?_
          cases d8
          have dx8 := dx7.sm s8
          refine ⟨.ref lo, rfl, .inl ⟨rfl, _, .inl (.inl (s8 _ _ elo7))⟩, (gn_lc (K := K) (δ := fun z : Nat => PyData.int ((stN r + z : Nat) : Int)) (as := List.range (n - stN r)) (p := fun _ => true) (f := fun z : Nat => dInts (r ++ [((stN r + z : Nat) : Int)])) (gvi_range2 (gv_var (i := 6) rfl (.int _)) (gv_var (i := 0) rfl (.int (n : Int))) (by have := stN_le ar; omega) (by omega)) (fun z vz Hz hz sz dz => ⟨gvt_yes, fun _ => gv_cat1 (l := r) (m := [((stN r + z : Nat) : Int)]) (gv_var (i := 5) rfl (dx8.sm sz)) (gv_tup (gva_cons (gv_var rfl dz) gva_nil) (by show 1 ≤ sizeLine; decide)) (by show r.length + 1 ≤ 100000; omega)⟩) (fun _ _ => lf_ints _) (by rw [List.length_range]; omega)).at fun B vB H9 s9 nB eB dB => ?_⟩
          rw [List.filter_eq_self.mpr (fun _ _ => rfl)] at dB
          have eB' : (List.range (n - stN r)).map (fun z : Nat => dInts (r ++ [((stN r + z : Nat) : Int)])) = (extC n r).map dInts := by unfold extC; rw [List.map_map]; rfl
          rw [eB'] at dB
          have bl : vB.length ≤ n := by have := dB.length; rw [List.length_map] at this; rw [this]; unfold extC; rw [List.length_map, List.length_range]; omega
          have elo9 := s9 _ _ (s8 _ _ elo7)
          have s89 := s8.trans s9
          refine ⟨lo, B, _, _, rfl, rfl, elo9, eB, Nat.le_of_lt (small5 (by omega)), ?_⟩
          have kU := Kp.upd (o := .lst (ws ++ vB)) elo9
          refine ⟨fun b o hb e => by rw [upd_ne hb]; exact s89 _ _ (b7 b o hb e), ws ++ vB, _, _, upd_same, ?_, rfl⟩
          rw [List.take_add_one, hr, List.flatMap_append, List.map_append]
          refine DpAll.append (dpAll_kp ((Kp.of s89).trans kU) _ _ (lf_rowsR _) dws) (dpAll_kp kU _ _ (lf_rowsR _) ?_)
          have e1 : ([r].flatMap (extC n)) = extC n r := by simp
          rw [show (some r).toList = [r] from rfl, e1]
          exact dB
        · obtain ⟨b7, ws, x5', x6', elo7, dws, rfl⟩ := hP
          refine hk2 _ _ ⟨b7, ws, _, _, elo7, ?_, rfl⟩
          rw [ul, List.take_of_length_le (Nat.le_refl _)] at dws
          exact dws
      case rest =>
        rintro σ H7 ⟨b7, ws, x5', x6', elo7, dws, rfl⟩
        have s57 : Same H5 H7 := fun b o e => b7 b o (ne_of_none e nlo) (s6 _ _ e)
        exact ⟨.ref lo, rfl, s5.trans s57, lo, ws, _, _, _, _, elo7, dws, rfl⟩
    case rest0 =>
      rintro σ H5 ⟨s5, R, us, x3, x4, x5, x6, eR, dus, rfl⟩
      exact gs_ret (K := K) (gv_var (i := 2) rfl (.lst (.inl (.inl eR)) dus)) fun v H6 s6 dv => q v H6 (s5.trans s6) dv
end
end K33
namespace K33
open PySem PySem.Spec PyProof.Rows L2 Pr
open LamX
section
variable {K : PySem.W.Frag} {σ : L2.St} {H : Hp} {i j : Nat} {p a : Addr} {pan : List (List Int)} {row : List Int} {E E2 : XK}
theorem gvt_met (hi : σ[i]? = some (some (.ref p))) (hj : σ[j]? = some (some (.ref a))) (hp : PanT K H p pan) (hg : Good pan) (ha : SqT K H a (row.map V.int)) (hl : row.length ≤ 60) (hin : ∀ x ∈ row, 0 ≤ x ∧ x < (pan.length : Int)) :
    GvT (tTest (tOp rEq (tCB (rLenG K) (tCons (tCall (spMet K) [] E (tCons (tVar i) (tCons (tVar j) tNil))) tNil)) (tCB (rLenG K) (tCons (tVar i) tNil)))) σ H (!decide (wSame ∈ effM pan row)) := fun H1 s Q q => by
  refine ⟨.ref p, hi, .ref a, hj, p, a, pan, row, rfl, hp.same s, hg, same_sqT s ha, hl, hin, fun H2 t ms s2 et asc mem => ⟨t, _, rfl, .inl (.inl (.inl et)), ?_⟩⟩
  refine (gv_lenT (K := K) (ds := pan.map dInts) (gv_var hi (hp.same (s.trans s2)).dp)).at fun v H3 s3 dv => ?_
  cases dv
  refine ⟨rfl, _, rfl, ?_⟩
  rw [List.length_map, List.length_map]
  have e : decide (V.int (ms.length : Int) = V.int (pan.length : Int)) = decide (ms.length = pan.length) := decide_eq_decide.mpr ⟨fun z => by injection z with z; omega, fun z => by rw [z]⟩
  rw [e, ← met_full asc mem]
  exact q H3 (s2.trans s3)
end
theorem nil_same {pan : List (List Int)} (hg : Good pan) : wSame ∈ effM pan [] := by
  have pos := hg.pos
  rw [effM_nil]
  exact List.mem_replicate.mpr ⟨by omega, rfl⟩
def nLeast : List Str := ["_law_panel_here", "_law_size", "_law_some"]
theorem scLeast : FnScope nLeast ["_law_panel_here"] (defScope sLeast) := ⟨rfl, rfl, rfl, by decide +kernel, rfl, by decide +kernel, by decide +kernel⟩
section
variable {P : Program} {w : World} {K : PySem.W.Frag} {mg : Str → Option Value} {base : Heap}
def spLeast (K : PySem.W.Frag) : Sp := fun vs H Q _ => ∃ (p : Addr) (pan : List (List Int)), vs = [.ref p] ∧ PanT K H p pan ∧ Good pan ∧
  ∀ (H' : Hp) (a : Addr) (row : List Int), Same H H' → SqT K H' a (row.map V.int) → BestR pan row → Q (.ref a) H'
theorem ok_Least {fMet : Addr} {fdMet : FuncData} {fChoi : Addr} {fdChoi : FuncData} {f : Addr} {fd : FuncData} {k : Nat} (F : Fun K "_law_least" "_law_least" sLeast f fd)
    (FMet : Fun K "_law_met" "_law_met" sMet fMet fdMet) (bMet : Binds K fdMet ["_law_panel_here", "_law_row"] []) (gMet : mg "_law_met" = some (.ref fMet))
    (FChoi : Fun K "_law_choices" "_law_choices" sChoi fChoi fdChoi) (bChoi : Binds K fdChoi ["_law_n", "_law_size"] []) (gChoi : mg "_law_choices" = some (.ref fChoi))
    (m_len : mg "len" = none) (m_list : mg "list" = none) (m_range : mg "range" = none) (m_set : mg "set" = none) (m_sorted : mg "sorted" = none) : FnOk P w K mg base CX0 (k + 2) f fd ["_law_panel_here"] (spLeast K) := by
  have GChoi : FnOk P w K mg base CX0 (k + 1) fChoi fdChoi ["_law_n", "_law_size"] (spChoi K) := ok_Choi FChoi m_range
  have GMet : FnOk P w K mg base CX0 (k + 1) fMet fdMet ["_law_panel_here", "_law_row"] (spMet K) := ok_met FMet m_list m_set m_sorted
  refine F.ok scLeast (fun vs H Q E h => ?_) (fun cdv A outer s H vs Q E hr h => ?_)
  · obtain ⟨p, pan, rfl, _⟩ := h
    rfl
  · obtain ⟨p, pan, rfl, hp, hg, q⟩ := h
    refine ⟨_, pss_cons (ps_for PassesOwn.never rfl (pi_range2 (by rfl) m_range (pa_cons pe_int (pa_cons (pe_op op_add (pe_callB (show CallR _ _ (rLenG K) from cr_lenG) (by rfl) m_len PySem.boot_len (pa_cons (pv 0) pa_nil)) pe_int) pa_nil))) (pg_name (i := 1) scLeast.nd rfl (Or.inl rfl)) (pss_one (ps_for PassesOwn.never rfl (show PI _ _ _ (iList K _) from pi_list (pe_call GChoi (hr.mono (by omega)) (by rfl) gChoi FChoi.kp bChoi .nil pass0 (pa_cons (pe_callB (show CallR _ _ (rLenG K) from cr_lenG) (by rfl) m_len PySem.boot_len (pa_cons (pv 0) pa_nil)) (pa_cons (pv 1) pa_nil)))) (pg_name (i := 2) scLeast.nd rfl (Or.inl rfl)) (pss_one (ps_if (pt_cmpR op_eq (pe_callB (show CallR _ _ (rLenG K) from cr_lenG) (by rfl) m_len PySem.boot_len (pa_cons (pe_call GMet (hr.mono (by omega)) (by rfl) gMet FMet.kp bMet .nil pass0 (pa_cons (pv 0) (pa_cons (pv 2) pa_nil))) pa_nil)) (pe_callB (show CallR _ _ (rLenG K) from cr_lenG) (by rfl) m_len PySem.boot_len (pa_cons (pv 0) pa_nil)) (nomark _)) (pss_one (ps_ret (pv 2))) pss_nil)))))
      (pss_one (ps_ret (pe_tup pa_nil))), ?_⟩
    have few := hg.few
    have hlp : (pan.map dInts).length = pan.length := List.length_map _
    have dp : Dp K H (.ref p) (dPan pan) := hp.dp
    refine gs_seqS (fun σ H' => Same H H' ∧ ∀ r, Asc pan.length r → r.length < pan.length + 1 → wSame ∈ effM pan r) ?rest ?loop
    case loop =>
      intro hk0
      refine gs_each (K := K) (δ := fun z : Nat => PyData.int ((1 + z : Nat) : Int)) (as := List.range (pan.length + 1 - 1)) (gvi_range2 (n := pan.length + 1) (gv_int (i := ((1 : Nat) : Int))) ((gv_add ((gv_lenT (gv_var (i := 0) rfl dp)).to (by rw [hlp])) (gv_int (i := 1))).to rfl) (by decide) (by omega)) (fun Ha k σ Hb => Same Ha Hb ∧ (∀ r, Asc pan.length r → r.length < k + 1 → wSame ∈ effM pan r) ∧ ∃ x1 x2, σ = [some (.ref p), x1, x2])
        (fun Ha sa => ⟨Same.refl _, fun r ar hr => ?_, none, none, rfl⟩) (fun Ha k σ Hb sa hP => hP.1) (fun Ha k x v σ Hb Hc sa hx hP sc' dv => ?_) (fun Ha σ Hb sa hP => ?_)
      · rw [List.eq_nil_of_length_eq_zero (show r.length = 0 by omega)]; exact nil_same hg
      · obtain ⟨sb, small, x1, x2, rfl⟩ := hP
        have hkx : k < pan.length ∧ x = k := by
          obtain ⟨h1, h2⟩ := List.getElem?_eq_some_iff.mp hx
          rw [List.length_range] at h1
          rw [List.getElem_range] at h2
          exact ⟨by omega, h2.symm⟩
        obtain ⟨hkn, rfl⟩ := hkx
        cases dv
        have sac := sa.trans (sb.trans sc')
        refine gs_each (K := K) (δ := dInts) (as := choM pan.length (1 + x)) (gvi_list (gv_Choi (n := pan.length) (kk := 1 + x) (gva_cons ((gv_lenT (gv_var (i := 0) rfl (dp.sm sac))).to (by rw [hlp])) (gva_cons (gv_var (i := 1) rfl (.int ((1 + x : Nat) : Int))) gva_nil)) ⟨few, by omega⟩)) (fun Hd j σ He => Same Hd He ∧ (∀ r ∈ (choM pan.length (1 + x)).take j, wSame ∈ effM pan r) ∧ ∃ x2, σ = [some (.ref p), some (.int ((1 + x : Nat) : Int)), x2])
          (fun Hd sd => ⟨Same.refl _, fun r hr => by simp at hr, _, rfl⟩) (fun Hd j σ He sd hP => hP.1) (fun Hd j r v σ He Hf sd hr hP sf dv => ?_) (fun Hd σ He sd hP => ?_)
        · obtain ⟨se, none_, y2, rfl⟩ := hP
          obtain ⟨a, rfl, ha⟩ := dv.intsI
          obtain ⟨ar, rl⟩ := mem_choM.mp (List.mem_of_getElem? hr)
          have rlen := ar.len
          have s0f := sac.trans (sd.trans (se.trans sf))
          refine gs_if (gvt_met (K := K) (i := 0) (j := 2) rfl rfl (hp.same s0f) hg ha (by omega) (fun y hy => ar.rng y hy)) (fun hb Hg sg => ?_) (fun hb Hg sg => ?_)
          · have hres : wSame ∉ effM pan r := by simpa using hb
            refine ⟨.ref a, rfl, q Hg a r (s0f.trans sg) (same_sqT sg ha) ⟨ar, hres, fun r' ar' hr' => ?_⟩⟩
            exact choi_best (p := fun r => wSame ∉ effM pan r) hr (fun r2 a2 l2 h2 => h2 (small r2 a2 (by omega))) (fun r2 m2 h2 => h2 (none_ r2 m2)) r' ar' hr'
          · have hres : wSame ∈ effM pan r := by simpa using hb
            refine ⟨se.trans (sf.trans sg), fun r2 m2 => ?_, _, rfl⟩
            rw [List.take_add_one, hr] at m2
            rcases List.mem_append.mp m2 with m2 | m2
            · exact none_ r2 m2
            · rw [show r2 = r by simpa using m2]; exact hres
        · obtain ⟨se, none_, y2, rfl⟩ := hP
          rw [List.take_length] at none_
          refine ⟨sb.trans (sc'.trans (sd.trans se)), fun r2 a2 l2 => ?_, _, _, rfl⟩
          by_cases e : r2.length < x + 1
          · exact small r2 a2 e
          · exact none_ r2 (mem_choM.mpr ⟨a2, by omega⟩)
      · obtain ⟨sb, small, x1, x2, rfl⟩ := hP
        rw [List.length_range] at small
        exact hk0 [some (.ref p), x1, x2] Hb ⟨sa.trans sb, fun r ar hr => small r ar (by omega)⟩
    case rest =>
      rintro σ H' ⟨s', all⟩
      have := all (intL pan.length) (asc_intL _) (by rw [intL_len]; omega)
      exact absurd this (all_reset pan)
end
end K33
namespace Pr
open PySem PySem.Spec PyProof.Rows L2
theorem hideD {t : TS} {D : Ends} {σ : L2.St} {H : Hp} (h : ∀ D' : Ends, (∀ σ H, D.nx σ H → D'.nx σ H) → t D' σ H) : t D σ H := h D fun _ _ z => z
end Pr
namespace K33
open PySem PySem.Spec PyProof.Rows L2 Pr
open LamX
theorem tabs_but {H H' : Hp} {a c : Addr} {m : Nat} {T : List (Addr × Str)} (D : Deck H a c m) (b : But a c H H') (h : Tabs T H) : Tabs T H' := fun p hp => by
  obtain ⟨ps, h1, h2, h3⟩ := h p hp
  have q := D.apart h1 (fun _ => by intro z; cases z)
  refine ⟨ps, b _ _ q.1 q.2 h1, h2, fun pos cv hc => ?_⟩
  obtain ⟨cc, e1, e2⟩ := h3 pos cv hc
  have q2 := D.apart e2 (fun _ => by unfold CodeO; intro z; cases z)
  exact ⟨cc, e1, b _ _ q2.1 q2.2 e2⟩
theorem gv_repL {K : PySem.W.Frag} {σ : L2.St} {H : Hp} {ta tb : TE} {d : PyData} {k : Nat} (ha : GvL K ta σ H [d]) (hb : Gv K tb σ H (.int (k : Int))) (hk : k ≤ 1000) : Gv K (tOp rRep ta tb) σ H (.list (List.replicate k d)) := fun H1 s Q q =>
  ha H1 s _ fun a vs H2 s2 e dv => hb H2 (s.trans s2) _ fun y H3 s3 dy => by
    cases dy
    obtain ⟨v, rfl, dv1⟩ := dpAll1 dv
    refine ⟨a, (k : Int), _, rfl, rfl, s3 _ _ e, by omega, by omega, ?_, fun p np => ?_⟩
    · rw [Int.toNat_natCast]; exact Nat.le_of_lt (small1000 (by show 1 * k ≤ _; omega))
    · rw [Int.toNat_natCast, rep_flatA]
      refine q _ _ ((s2.trans s3).trans (same_new np)) (.lst (.inl (.inl upd_same)) ?_)
      have : ∀ m, DpAll K (upd H3 p (.lst (List.replicate k v))) (List.replicate m v) (List.replicate m d) := fun m => by
        induction m with
        | zero => exact .nil
        | succ m ih => exact .cons ((dv1.sm s3).sm (same_new np)) ih
      exact this k
section
variable {K : PySem.W.Frag} {σ : L2.St} {H : Hp} {t : TE} {E : XK}
theorem dpAll_TL {H : Hp} : ∀ {ts : List Addr}, TL H ts → DpAll K H (ts.map V.ref) ((ts.map (rdT H)).map dInts)
  | [], _ => .nil
  | t :: ts, h => by
    obtain ⟨l, hl⟩ := h t List.mem_cons_self
    refine .cons ?_ (dpAll_TL fun u hu => h u (List.mem_cons_of_mem _ hu))
    rw [rdT_of hl]
    exact dp_ints (.inl (.inl hl))
theorem gv_States {n : Nat} (h : Gv K t σ H (.int (n : Int))) (hn : n ≤ 10) : Gv K (tCall spStates [] E (tCons t tNil)) σ H (.list ((srtT (allS n)).map dInts)) := fun H1 s Q q => h H1 s _ fun v H2 s2 dv => by
  cases dv
  refine ⟨n, rfl, hn, fun H' p ts s3 e tl pm pw => q _ H' (s2.trans s3) (.lst (.inl (.inl e)) ?_)⟩
  rw [srtT_eq pm pw]
  exact dpAll_TL tl
theorem gn_headL {ds : List PyData} (h : Gv K t σ H (.list ds)) : GvN K (tSl (rSlL K) t tNoPart (tPart (tC (.int 1)))) σ H (ds.take 1) := fun H1 s Q q => h H1 s _ fun v H2 s2 dv => by
  obtain ⟨a, xs, rfl, ha, hr⟩ := dv.lstI
  refine ⟨1, rfl, a, xs, rfl, ha, fun p np => ?_⟩
  have e : cutV xs none (some 1) = xs.take 1 := by
    unfold cutV
    cases xs with
    | nil => rfl
    | cons x r => cases r <;> rfl
  rw [e]
  have hd : DpAll K H2 (xs.take 1) (ds.take 1) := by
    cases hr with
    | nil => exact .nil
    | cons x y => exact .cons x .nil
  exact q p _ _ (s2.trans (same_new np)) (s2.free np) upd_same (hd.sm (same_new np))
end
theorem run_reset2 {pan : List (List Int)} {row st : List Int} (h : wSame ∉ effM pan row) (hst : Asc pan.length st) : runM pan st row = runM pan [] row := by
  refine asc_ext (runM_asc hst).up (runM_asc (Asc.nil _)).up fun x => ?_
  by_cases hx : 0 ≤ x ∧ x < (pan.length : Int)
  · obtain ⟨c, rfl⟩ : ∃ c : Nat, x = (c : Int) := ⟨x.toNat, (Int.toNat_of_nonneg hx.1).symm⟩
    have hw : wordsM pan row (c : Int) ≠ wSame := fun e => h (List.mem_of_getElem? ((eff_get (by omega)).trans (congrArg some e)))
    rw [memRun hx.1 hx.2, memRun hx.1 hx.2]
    exact ⟨fun z => z.elim .inl fun z => absurd z.1 hw, fun z => z.elim .inl fun z => absurd z.1 hw⟩
  · exact ⟨fun z => absurd ((runM_asc hst).rng x z) hx, fun z => absurd ((runM_asc (Asc.nil _)).rng x z) hx⟩
theorem eqv_self_rows : ∀ (n : Nat) (g : List Int), PyData.eqv (.list (List.replicate n (dInts g))) (.list (List.replicate n (dInts g))) = true := fun n g => by
  simp only [PyData.eqv]
  induction n with
  | zero => rfl
  | succ n ih =>
    rw [List.replicate_succ]
    simp only [PyData.eqvAll, ih, Bool.and_true]
    unfold dInts
    simp only [PyData.eqv]
    rw [eqv_intsL]; exact decide_eq_true rfl
theorem rep_rows {row : List Int} {n : Nat} (hn : n ≤ 10) (h : Asc n row) : RepOk (.list [dInts row, dInts row]) := by
  have hl := h.len
  have s0 : Shw 1 33 (dInts row) := shw_ints (m := 10) (by omega) fun x hx => by have := h.rng x hx; omega
  exact .inr ⟨(Shw.list (m := 2) (n := 33) (dep := 1) (ds := [dInts row, dInts row]) (fun d hd => by rcases (show d = dInts row ∨ d = dInts row by simpa using hd) with rfl | rfl <;> exact s0) (Nat.le_refl 2)).mono (by decide) (by decide), _, .inr rfl⟩
theorem rep_pan {pan : List (List Int)} (g : Good pan) : RepOk (dPan pan) := .inr ⟨g.shw.mono (by decide) (by decide), _, .inl rfl⟩
theorem seq_par33 {σ : L2.St} {H : Hp} {i j : Nat} {t : TE} {tr : TA} {u : TS} {D : Ends} (h : t σ H fun x H1 => tr σ H1 fun xs H2 => ∃ v w, x :: xs = [v, w] ∧ u D ((σ.set i (some v)).set j (some w)) H2) : tSeq (tPar i j (tCons t tr)) u D σ H := h
theorem pat_extN {H H' : Hp} {p : Addr} {pan : List (List Int)} (e : ExtN H H') (h : PanAt H p pan) : PanAt H' p pan := by
  obtain ⟨qs, h1, h2⟩ := h
  have ft : ∀ {a : Addr} {xs : List V}, FT H a xs → FT H' a xs := fun {a xs} ⟨o, q, z⟩ => ⟨o, e _ _ q (fun _ y => by cases y), z⟩
  exact ⟨qs, ft h1, h2.mono fun _ _ x => ft x⟩
def nLaw : List Str := ["_law_script", "_law_deck_here", "_law_most", "_law_panel_here", "_law_shown", "_law_due", "_law_found", "_law_ends", "_law_state"]
theorem scLaw : FnScope nLaw ["_law_script"] (defScope sLaw) := ⟨rfl, rfl, rfl, by decide +kernel, rfl, by decide +kernel, by decide +kernel⟩
section
variable {P : Program} {w : World} {K : PySem.W.Frag} {mg : Str → Option Value} {base : Heap}
def spLaw (K : PySem.W.Frag) (pS : Addr) : Sp := fun vs H Q _ => ∃ (s : Addr) (ns : List Int), vs = [.ref s] ∧ SqL K H s (ns.map V.int) ∧ ns.length ≤ 63 ∧ Tabs (TSR pS) H ∧ ∀ H', Q (.bl true) H'
theorem ok_law {fNo : Addr} {fdNo : FuncData} {fPressE : Addr} {fdPressE : FuncData} {fJoin : Addr} {fdJoin : FuncData} {fWith : Addr} {fdWith : FuncData} {fEff : Addr} {fdEff : FuncData} {fBetw : Addr} {fdBetw : FuncData} {fReset : Addr} {fdReset : FuncData} {fSReset : Addr} {fdSReset : FuncData} {fDeck : Addr} {fdDeck : FuncData} {fDraw : Addr} {fdDraw : FuncData} {fPanel : Addr} {fdPanel : FuncData} {fAfter : Addr} {fdAfter : FuncData} {fStates : Addr} {fdStates : FuncData} {fMet : Addr} {fdMet : FuncData} {fChoi : Addr} {fdChoi : FuncData} {fLeast : Addr} {fdLeast : FuncData} {f : Addr} {fd : FuncData} (F : Fun K "law" "law" sLaw f fd)
    (FNo : Fun K "no_effect" "no_effect" sNo fNo fdNo) (bNo : Binds K fdNo ["panel"] []) (gNo : mg "no_effect" = some (.ref fNo))
    (FPressE : Fun K "press_effect" "press_effect" sPressE fPressE fdPressE) (bPressE : Binds K fdPressE ["panel", "button"] []) (gPressE : mg "press_effect" = some (.ref fPressE))
    (FJoin : Fun K "joined_effect" "joined_effect" sJoin fJoin fdJoin) (bJoin : Binds K fdJoin ["first", "second"] []) (gJoin : mg "joined_effect" = some (.ref fJoin))
    (FWith : Fun K "effect_with_press" "effect_with_press" sWith fWith fdWith) (bWith : Binds K fdWith ["panel", "effect", "button"] []) (gWith : mg "effect_with_press" = some (.ref fWith))
    (FEff : Fun K "effect_of" "effect_of" sEff fEff fdEff) (bEff : Binds K fdEff ["panel", "row"] []) (gEff : mg "effect_of" = some (.ref fEff))
    (FBetw : Fun K "states_between" "states_between" sBetw fBetw fdBetw) (bBetw : Binds K fdBetw ["least", "most"] []) (gBetw : mg "states_between" = some (.ref fBetw))
    (FReset : Fun K "is_reset" "is_reset" sReset fReset fdReset) (bReset : Binds K fdReset ["panel", "row"] []) (gReset : mg "is_reset" = some (.ref fReset))
    (FSReset : Fun K "shortest_reset" "shortest_reset" sSReset fSReset fdSReset) (bSReset : Binds K fdSReset ["panel"] []) (gSReset : mg "shortest_reset" = some (.ref fSReset))
    (FDeck : Fun K "_law_deck" "_law_deck" sDeck fDeck fdDeck) (bDeck : Binds K fdDeck ["_law_script"] []) (gDeck : mg "_law_deck" = some (.ref fDeck))
    (FDraw : Fun K "_law_draw" "_law_draw" sDraw fDraw fdDraw) (bDraw : Binds K fdDraw ["_law_deck_here", "_law_bound"] []) (gDraw : mg "_law_draw" = some (.ref fDraw))
    (FPanel : Fun K "_law_panel" "_law_panel" sPanel fPanel fdPanel) (bPanel : Binds K fdPanel ["_law_deck_here", "_law_most"] []) (gPanel : mg "_law_panel" = some (.ref fPanel))
    (FAfter : Fun K "_law_after" "_law_after" sAfter fAfter fdAfter) (bAfter : Binds K fdAfter ["_law_panel_here", "_law_state", "_law_row"] []) (gAfter : mg "_law_after" = some (.ref fAfter))
    (FStates : Fun K "_law_all" "_law_all" sStates fStates fdStates) (bStates : Binds K fdStates ["_law_n"] []) (gStates : mg "_law_all" = some (.ref fStates))
    (FMet : Fun K "_law_met" "_law_met" sMet fMet fdMet) (bMet : Binds K fdMet ["_law_panel_here", "_law_row"] []) (gMet : mg "_law_met" = some (.ref fMet))
    (FChoi : Fun K "_law_choices" "_law_choices" sChoi fChoi fdChoi) (bChoi : Binds K fdChoi ["_law_n", "_law_size"] []) (gChoi : mg "_law_choices" = some (.ref fChoi))
    (FLeast : Fun K "_law_least" "_law_least" sLeast fLeast fdLeast) (bLeast : Binds K fdLeast ["_law_panel_here"] []) (gLeast : mg "_law_least" = some (.ref fLeast))
    (m_abs : mg "abs" = none) (m_int : mg "int" = none) (m_len : mg "len" = none) (m_list : mg "list" = none) (m_max : mg "max" = none) (m_min : mg "min" = none) (m_range : mg "range" = none) (m_repr : mg "repr" = none) (m_set : mg "set" = none) (m_sorted : mg "sorted" = none) (m_tuple : mg "tuple" = none) (m_zip : mg "zip" = none) {cS pS : Addr} (ecS : fdSReset.code = .ref cS) (TBS : TabB base mg cS pS) : FnG P w K mg base (7) f fd ["_law_script"] (spLaw K pS) := by
  have GDeck : FnOk P w K mg base CX0 (1) fDeck fdDeck ["_law_script"] (spDeck K) := ok_deck FDeck m_abs
  have GPanel : FnOk P w K mg base CX0 (2) fPanel fdPanel ["_law_deck_here", "_law_most"] spPanel := ok_panel FPanel FDraw bDraw gDraw m_len m_range m_tuple m_int m_max m_set m_sorted
  have GLeast : FnOk P w K mg base CX0 (2) fLeast fdLeast ["_law_panel_here"] (spLeast K) := ok_Least FLeast FMet bMet gMet FChoi bChoi gChoi m_len m_list m_range m_set m_sorted
  have GSReset : FnOk P w K mg base CX0 (6) fSReset fdSReset ["panel"] (spSReset K pS) := ok_SReset FSReset FNo bNo gNo FPressE bPressE gPressE FJoin bJoin gJoin FWith bWith gWith FEff bEff gEff FBetw bBetw gBetw FReset bReset gReset m_len m_list m_range m_sorted m_tuple m_zip m_min ecS TBS
  have GStates : FnOk P w K mg base CX0 (1) fStates fdStates ["_law_n"] spStates := ok_states FStates m_range m_sorted
  have GAfter : FnOk P w K mg base CX0 (1) fAfter fdAfter ["_law_panel_here", "_law_state", "_law_row"] (spAfter K) := ok_After FAfter m_list m_sorted m_tuple
  refine okG F scLaw (fun vs H Q E h => ?_) (fun cdv A outer s H vs Q E gd hr h => ?_)
  · obtain ⟨s, ns, rfl, _⟩ := h
    rfl
  · obtain ⟨sc, ns, rfl, hS, hlen, hT0, q⟩ := h
    refine ⟨_, pss_cons (ps_set (i := 1) scLaw.nd rfl (.inl rfl) (pe_call GDeck (hr.mono (by omega)) (by rfl) gDeck FDeck.kp bDeck .nil pass0 (pa_cons (pv 0) pa_nil)))
      (pss_cons (ps_for PassesOwn.never rfl (show PI _ _ _ (iList K _) from pi_list (pe_lst (pa_cons pe_int (pa_cons pe_int (pa_cons pe_int (pa_cons pe_int (pa_cons pe_int (pa_cons pe_int (pa_cons pe_int pa_nil))))))))) (pg_name (i := 2) scLaw.nd rfl (Or.inl rfl)) (pss_cons (ps_set (i := 3) scLaw.nd rfl (.inr rfl) (pe_call GPanel (hr.mono (by omega)) (by rfl) gPanel FPanel.kp bPanel .nil pass0 (pa_cons (pv 1) (pa_cons (pv 2) pa_nil))))
      (pss_cons (ps_par (i := 4) (j := 5) rfl scLaw.nd rfl rfl (by decide) rfl rfl (pa_cons (pe_callB (show CallR _ _ (rReprN K) from cr_reprN gd hr) (by rfl) m_repr (by decide +kernel) (pa_cons (pv 3) pa_nil)) (pa_cons (pe_call GLeast (hr.mono (by omega)) (by rfl) gLeast FLeast.kp bLeast .nil pass0 (pa_cons (pv 3) pa_nil)) pa_nil)) (by rfl))
      (pss_cons (ps_set (i := 6) scLaw.nd rfl (.inr rfl) (pe_call GSReset (hr.mono (by omega)) (by rfl) gSReset FSReset.kp bSReset .nil pass0 (pa_cons (pv 3) pa_nil)))
      (pss_cons (ps_if (PW.pt (pw_or (pt_cmpR op_ne (pe_callB (show CallR _ _ (rReprN K) from cr_reprN gd hr) (by rfl) m_repr (by decide +kernel) (pa_cons (pe_lst (pa_cons (pv 6) (pa_cons (pe_call GSReset (hr.mono (by omega)) (by rfl) gSReset FSReset.kp bSReset .nil pass0 (pa_cons (pv 3) pa_nil)) pa_nil))) pa_nil)) (pe_callB (show CallR _ _ (rReprN K) from cr_reprN gd hr) (by rfl) m_repr (by decide +kernel) (pa_cons (pe_lst (pa_cons (pv 5) (pa_cons (pv 5) pa_nil))) pa_nil)) (nomark _)) (pw_or1 (pt_cmpR op_ne (pe_callB (show CallR _ _ (rReprN K) from cr_reprN gd hr) (by rfl) m_repr (by decide +kernel) (pa_cons (pv 3) pa_nil)) (pv 4) (nomark _))))) (pss_one (ps_ret pe_bl)) pss_nil)
      (pss_one (ps_if (pt_cmpR op_lt (pe_callB (show CallR _ _ (rLenG K) from cr_lenG) (by rfl) m_len PySem.boot_len (pa_cons (pv 3) pa_nil)) pe_int (nomark _)) (pss_cons (ps_setLc (i := 7) (own := [("_law_state", 8)]) (g := gName 8) (tt := tYes) rfl scLaw.nd rfl rfl (sw_true rfl rfl rfl (by decide +kernel)) (show PI _ _ _ (iList K _) from pi_list (pe_call GStates (hr.mono (by omega)) (by rfl) gStates FStates.kp bStates .nil pass0 (pa_cons (pe_callB (show CallR _ _ (rLenG K) from cr_lenG) (by rfl) m_len PySem.boot_len (pa_cons (pv 3) pa_nil)) pa_nil))) (blkOk_by (own := [("_law_state", 8)]) (N := nLaw) (sc := defScope sLaw) (by decide +kernel)) (fun _ _ _ _ _ => pg_name (i := 8) scLaw.nd rfl (Or.inl rfl)) (fun _ _ _ _ _ => pts_nil) (fun _ _ _ _ _ => pe_call GAfter (hr.mono (by omega)) (by rfl) gAfter FAfter.kp bAfter .nil pass0 (pa_cons (pv 3) (pa_cons (pv 8) (pa_cons (pv 6) pa_nil)))))
      (pss_one (ps_if (pt_cmpR (show OpR _ _ (rNeD K) from op_neD hr.units) (pv 7) (pe_op op_rep (pe_slice (show SlR _ (rSlL K) from sl_list) (pv 7) po_none (po_some pe_int)) (pe_callB (show CallR _ _ (rLenG K) from cr_lenG) (by rfl) m_len PySem.boot_len (pa_cons (pv 7) pa_nil))) (nomark _)) (pss_one (ps_ret pe_bl)) pss_nil))) pss_nil)))))))
      (pss_one (ps_ret pe_bl))), ?_⟩
    refine ⟨.ref sc, rfl, sc, ns, rfl, hS, hlen, fun H1 a c s1 D1 => ?_⟩
    refine ⟨by show 7 ≤ sizeLine; decide, fun W nW => ⟨W, rfl, ⟨_, .inl (.inl upd_same)⟩, ?_⟩⟩
    have s2 := same_new (o := HO.lst [.int 10, .int 10, .int 7, .int 6, .int 6, .int 4, .int 3]) nW
    have oW := D1.fresh nW
    refine for_list (K := K) (a := W) (xs := [.int 10, .int 10, .int 7, .int 6, .int 6, .int 4, .int 3]) (g := gName 2) (fun i σ H' => Deck H' a c (8000 - 1000 * i) ∧ H' W = some (.lst [.int 10, .int 10, .int 7, .int 6, .int 6, .int 4, .int 3]) ∧ Tabs (TSR pS) H' ∧ ∃ x2 x3 x4 x5 x6 x7, σ = [some (.ref sc), some (.ref a), x2, x3, x4, x5, x6, x7, none])
      ⟨(D1.same s2).less (by decide), upd_same, (hT0.ext fun b o e => s1 b o e).ext fun b o e => s2 b o e, _, _, _, _, _, _, rfl⟩ (fun i σ H' _ hP => .inl (.inl hP.2.1)) (fun i mv σ H2 hmv hP => ?step) (fun σ H2 hP => ?done)
    case done =>
      dsimp only
      exact gs_ret (K := K) gv_bl fun v H3 s3 dv => by cases dv; exact q H3
    refine hideD fun D0 hn0 => ?_
    obtain ⟨most, rfl, m1, m10⟩ : ∃ most : Int, mv = .int most ∧ 1 ≤ most ∧ most ≤ 10 := by
      have hm := List.mem_of_getElem? hmv
      simp only [List.mem_cons, List.not_mem_nil, or_false] at hm
      rcases hm with rfl | rfl | rfl | rfl | rfl | rfl | rfl <;> exact ⟨_, rfl, by decide, by decide⟩
    have hi : i < 7 := (List.getElem?_eq_some_iff.mp hmv).1
    obtain ⟨D2, eW, hT, x2, x3, x4, x5, x6, x7, rfl⟩ := hP
    obtain ⟨m, hm, hm1⟩ : ∃ m : Nat, 8000 - 1000 * i = m + 1000 ∧ 8000 - 1000 * (i + 1) = m := ⟨7000 - 1000 * i, by omega, by omega⟩
    rw [hm] at D2
    refine ⟨.ref a, rfl, .int most, rfl, a, c, m + 100, most, rfl, D2.less (by omega), m1, m10, fun H3 p pan b3 D3 hp hg hml => ?_⟩
    have eW3 := b3 _ _ oW.1 oW.2 eW
    have hT3 : Tabs (TSR pS) H3 := tabs_but D2 b3 hT
    have few := hg.few
    have hlp : (pan.map dInts).length = pan.length := List.length_map _
    refine seq_par33 ((gv_reprN (K := K) (gv_var (i := 3) rfl hp.dp) (rep_pan hg)).at fun vs4 H4 s4 d4 => ?_)
    cases d4
    refine ⟨.ref p, rfl, p, pan, rfl, (hp.same s4).t, hg, fun H5 b row s5 hb5 best => ⟨_, _, rfl, ?_⟩⟩
    have s35 := s4.trans s5
    refine gs_setQS2 ⟨.ref p, rfl, p, pan, rfl, (hp.same s35).t, hg, hT3.ext (fun x o e => s35 x o e), fun H6 f row6 eN6 hT6 hf6 best6 => ?_⟩
    obtain rfl := best.uniq best6
    have eN36 := (extN_same s35).trans eN6
    have hp6 := pat_extN eN36 hp
    have hb6 := sqT_extN eN6 hb5
    have D6 := deck_extN eN36 D3
    have eW6 := eN36 _ _ eW3 (fun _ z => by cases z)
    have rr := rep_rows few best.asc
    refine gs_seqS (fun σ H' => ExtN H6 H' ∧ Tabs (TSR pS) H' ∧ σ = [some (.ref sc), some (.ref a), some (.int most), some (.ref p), some (.str (dPan pan).shown), some (.ref b), some (.ref f), x7, none]) ?rest ?first
    case first =>
      intro hk
      refine ⟨.ref f, rfl, .ref p, rfl, p, pan, rfl, hp6.t, hg, hT6, fun H7 g row7 eN7 hT7 hg7 best7 => ⟨by show 2 ≤ sizeLine; decide, fun L nL => ?_⟩⟩
      obtain rfl := best.uniq best7
      have sL := same_new (o := HO.lst [.ref f, .ref g]) nL
      have dL : Dp K (upd H7 L (.lst [.ref f, .ref g])) (.ref L) (.list [dInts row, dInts row]) := .lst (.inl (.inl upd_same)) (.cons (dp_ints (same_sqT sL (sqT_extN eN7 hf6))) (.cons (dp_ints (same_sqT sL hg7)) .nil))
      obtain ⟨hsw, hds⟩ := rr.resolve_left (fun z => by cases z)
      refine .inl ⟨L, _, rfl, dL, hsw.sh, hsw.nd, hsw.dp, hsw.ln, ?_⟩
      have db7 : Dp K (upd H7 L (.lst [.ref f, .ref g])) (.ref b) (dInts row) := dp_ints (same_sqT sL (sqT_extN eN7 hb6))
      refine (gv_reprN (K := K) (gv_lst (gva_cons (gv_var (i := 5) rfl db7) (gva_cons (gv_var (i := 5) rfl db7) gva_nil))) rr).at fun v8 H8 s8 d8 => ?_
      cases d8
      refine ⟨rfl, _, rfl, ite2 (fun z => absurd z (by simp)) (fun _ => ?_)⟩
      have eN68 := (eN7.trans (extN_same sL)).trans (extN_same s8)
      have hp8 := pat_extN eN68 hp6
      refine (gvt_test (K := K) ((gv_neS (gv_reprN (gv_var (i := 3) rfl hp8.dp) (rep_pan hg)) (gv_var (i := 4) rfl (.str _))).to (e := .bool false) (by simp))).at fun H9 s9 => ?_
      exact hk _ _ ⟨eN68.trans (extN_same s9), (hT7.ext fun x o e => sL x o e).ext (fun x o e => s9 x o (s8 x o e)), rfl⟩
    case rest =>
      rintro σ H7 ⟨eN7, hT7, rfl⟩
      have hp7 := pat_extN eN7 hp6
      have hf7 := sqT_extN eN7 hf6
      have D7 := deck_extN eN7 D6
      have eW7 := eN7 _ _ eW6 (fun _ z => by cases z)
      have dp7 := hp7.dp (K := K)
      have df7 : Dp K H7 (.ref f) (dInts row) := dp_ints hf7
      have fin : ∀ H', Same H7 H' → ∀ x7, D0.nx [some (.ref sc), some (.ref a), some (.int most), some (.ref p), some (.str (dPan pan).shown), some (.ref b), some (.ref f), x7, none] H' := fun H' s' y7 => hn0 _ _ ⟨(D7.same s').less (by omega), s' _ _ eW7, hT7.ext (fun x o e => s' x o e), _, _, _, _, _, _, rfl⟩
      refine gs_if (gvt_test (K := K) (gv_I0 (f := .bool (decide ((pan.length : Int) < 7))) ((gv_lenT (gv_var (i := 3) rfl dp7)).to (by rw [hlp])) gv_int fun _ => .bl _)) (fun hb H8 s8 => ?_) (fun _ H8 s8 => fin H8 s8 _)
      have l7 : pan.length < 7 := by have := of_decide_eq_true hb; omega
      have al := allS_len pan.length
      have a128 : 2 ^ pan.length ≤ 2 ^ 6 := Nat.pow_le_pow_right (by decide) (by omega)
      have pos2 : 0 < 2 ^ pan.length := Nat.pow_pos (by decide)
      have sl : (srtT (allS pan.length)).length = 2 ^ pan.length := by rw [(srtT_perm _).length_eq, al]
      refine gs_setN (K := K) (gn_lc (δ := dInts) (as := srtT (allS pan.length)) (p := fun _ => true) (f := fun st => dInts (runM pan st row)) (gvi_list (gv_States ((gv_lenT (gv_var (i := 3) rfl (dp7.sm s8))).to (by rw [hlp])) (by omega))) (fun st v Hz hst sz dz => ⟨gvt_yes, fun _ => gv_After (pan := pan) (st := st) (row := row) (gva_cons (gv_var (i := 3) rfl (dp7.sm (s8.trans sz))) (gva_cons (gv_var rfl dz) (gva_cons (gv_var (i := 6) rfl (df7.sm (s8.trans sz))) gva_nil))) ⟨few, (allS_mem _ _).mp ((srtT_perm _).mem_iff.mp hst), fun y hy => best.asc.rng y hy⟩⟩) (fun _ _ => lf_ints _) (by rw [sl]; omega)) fun EE vE H9 s9 nE eE dE => ?_
      rw [List.filter_eq_self.mpr (fun _ _ => rfl)] at dE
      have all_g : (srtT (allS pan.length)).map (fun st => dInts (runM pan st row)) = List.replicate (2 ^ pan.length) (dInts (runM pan [] row)) := by
        rw [List.eq_replicate_iff]
        refine ⟨by rw [List.length_map, sl], fun d hd => ?_⟩
        obtain ⟨st, hst, rfl⟩ := List.mem_map.mp hd
        rw [run_reset2 best.res ((allS_mem _ _).mp ((srtT_perm _).mem_iff.mp hst))]
      rw [all_g] at dE
      have dEE : Dp K H9 (.ref EE) (.list (List.replicate (2 ^ pan.length) (dInts (runM pan [] row)))) := .lst (.inl (.inl eE)) dE
      have tk : (List.replicate (2 ^ pan.length) (dInts (runM pan [] row))).take 1 = [dInts (runM pan [] row)] := by
        rw [List.take_replicate, Nat.min_eq_left pos2]; rfl
      have sh : SeqAt.shaped (.list (List.replicate (2 ^ pan.length) (dInts (runM pan [] row)))) = true := by
        have := shp_rowsL (List.replicate (2 ^ pan.length) (runM pan [] row))
        rwa [List.map_replicate] at this
      refine gs_noN (b := false) ((gvt_test (K := K) (gv_neD (gv_var (i := 7) rfl dEE) (gv_repL (k := 2 ^ pan.length) ((gn_headL (gv_var (i := 7) rfl dEE)).to tk).gl ((gv_lenL (gv_var (i := 7) rfl dEE)).to (by rw [List.length_replicate])) (by omega)) sh sh)).to (by rw [eqv_self_rows]; rfl)) rfl fun H10 s10 => fin H10 (s8.trans (s9.trans s10)) _
end
end K33
namespace Pr
open PySem PySem.Spec PyProof.Rows L2
end Pr
namespace Pr
open PySem PySem.Spec PyProof.Rows L2 LamX
/-- nothing is tracked but the script and empty tables -/
def OnlyT (ts : List Addr) (H : Hp) : Prop := ∀ b, H b = none ∨ (b ∈ ts ∧ H b = some (.tbl #[])) ∨ ∃ o xs, H b = some (.frz o (.lst xs))
abbrev tab0 : Obj := { cls := .none, data := .fields #[] }
theorem lawGT {P : Program} {w : World} {K : PySem.W.Frag} {mg mb : Str → Option Value} {k : Nat} {fa a : Addr} {fd : FuncData} {x : Str} {sp : Sp} {s1 : Shared} {vs : List Value} {ns : List Int} {cs : List (Addr × Addr)}
    (kin : K.In s1.heap) (nsg : s1.heap.Ns mainGlobals mg) (nsb : s1.heap.Ns builtinsNs mb) (bb : ∀ y : Str, y ≠ "__name__" → mb y = bootBuiltins y) (lim : s1.heap.NoLimit) (g0 : s1.gens = #[])
    (hT : ∀ p ∈ cs, s1.heap.get? p.2 = some tab0) (nT : ∀ p ∈ cs, K.lookup p.2 = none) (C : ∀ p ∈ cs, PySem.W.CodeHd s1.heap p.1 p.2)
    (hbm : ∃ (bm : Addr) (ob : Obj), mg "__builtins__" = some (.ref bm) ∧ bm ≠ builtinsNs ∧ s1.heap.get? bm = some ob ∧ ob.cls = .type "module" ∧ ob.dict = some builtinsNs ∧ ob.data = .plain)
    (la : s1.heap.get? a = some { cls := .type "list", data := .seq vs.toArray }) (hints : IntsAre vs ns) (few : ns.length ≤ sizeLine) (rm : Room k callerA)
    (F : ∀ base : Heap, K.In base → base.Ns mainGlobals mg → (∀ p ∈ cs, TabB base mg p.1 p.2) → FnG P w K mg base k fa fd [x] sp) (bd : ∀ (s : Shared) (u : Value), BindsTo s fd ⟨[u], []⟩ [(x, u)])
    (wish : ∀ H : Hp, (∀ p ∈ cs, H p.2 = some (.tbl #[])) → SqL K H a (ns.map V.int) → sp [.ref a] H (fun v _ => v = .bl true) E0) :
    codeAny (model P w) callerA (.call (.ref fa) ⟨[.ref a], []⟩) (fun r s' => r = .ok (.ret (.bool true)) ∧ OldK s1.heap s'.heap ∧ s'.os = s1.os ∧ AllBare s'.gens) s1 := by
  have rv := vals_ints hints
  have lv := hints.length
  have tabOf : ∀ b, b ∈ cs.map (·.2) → s1.heap.get? b = some tab0 := fun b hb => by
    obtain ⟨p, hp, rfl⟩ := List.mem_map.mp hb
    exact hT p hp
  have inTs : ∀ p ∈ cs, p.2 ∈ cs.map (·.2) := fun p hp => List.mem_map.mpr ⟨p, hp, rfl⟩
  have aNot : a ∉ cs.map (·.2) := fun z => by
    have e := tabOf a z
    rw [la] at e
    exact nomatch (show Data.seq vs.toArray 0 = Data.fields #[] from congrArg Obj.data (Option.some.inj e))
  have main : ∀ H : Hp, (∀ p ∈ cs, H p.2 = some (.tbl #[])) → OnlyT (cs.map (·.2)) H → SqL K H a (ns.map V.int) → HOk P w H s1.heap → (∀ b, H b ≠ none → b = a ∨ b ∈ cs.map (·.2)) → (H a ≠ none → K.lookup a = none) →
      codeAny (model P w) callerA (.call (.ref fa) ⟨[.ref a], []⟩) (fun r s' => r = .ok (.ret (.bool true)) ∧ OldK s1.heap s'.heap ∧ s'.os = s1.os ∧ AllBare s'.gens) s1 := by
    intro H hTab hO hS hok hA hK
    -- what is neither a list nor an empty table is not tracked
    have free : ∀ {b : Addr} {o : Obj}, s1.heap.get? b = some o → (∀ us n, o.data ≠ .seq us n) → o.data ≠ .fields #[] → H b = none := fun {b o} e n1 n2 => by
      cases q : H b with
      | none => rfl
      | some u =>
        rcases hA b (by rw [q]; simp) with rfl | z
        · rw [la] at e; cases e
          exact absurd rfl (n1 _ _)
        · rw [tabOf b z] at e; cases e
          exact absurd rfl n2
    have dictFree : ∀ {b : Addr} {o : Obj} {es : Array DictEntry} {ep : Nat}, s1.heap.get? b = some o → o.data = .dict es ep → H b = none := fun {b o es ep} e d =>
      free e (fun us n z => nomatch d.symm.trans z) fun z => nomatch d.symm.trans z
    have nsH : ∀ {b : Addr} {m : Str → Option Value}, s1.heap.Ns b m → (hidT s1.heap H).Ns b m := fun {b m} ⟨o, es, ep, e, d, r⟩ => ⟨o, es, ep, hidT_get e (dictFree e d), d, r⟩
    have kinH : K.In (hidT s1.heap H) := fun b o e => hidT_get (kin b o e) (by
      cases q : H b with
      | none => rfl
      | some u =>
        rcases hA b (by rw [q]; simp) with rfl | z
        · rw [hK (by rw [q]; simp)] at e; cases e
        · obtain ⟨p, hp, rfl⟩ := List.mem_map.mp z
          rw [nT p hp] at e; cases e)
    have md : Mod K mg (hidT s1.heap H) := ⟨kinH, nsH nsg, ⟨mb, nsH nsb, bb⟩, let ⟨mc, h1, h2⟩ := lim; ⟨mc, nsH h1, h2⟩⟩
    have tb : ∀ p ∈ cs, TabB (hidT s1.heap H) mg p.1 p.2 := fun p hp => by
      have e2 := hT p hp
      constructor
      · obtain ⟨o, us, fl, t1, fg, t2, b1, tx, t3, g1, r1, r2, r3, r⟩ := C p hp
        have go : H p.1 = none := free g1 (fun us n z => nomatch r2.symm.trans z) fun z => by
          have := Data.fields.inj (r2.symm.trans z)
          rw [this] at r3
          simp at r3
        exact ⟨o, us, fl, t1, fg, t2, b1, tx, t3, hidT_get g1 go, r1, r2, r3, r⟩
      · obtain ⟨bm, ob, b1, b2, b3, b4, b5, b6⟩ := hbm
        refine ⟨bm, ob, b1, b2, fun z => ?_, fun z => ?_, hidT_get b3 (free b3 (fun us n y => nomatch b6.symm.trans y) fun y => nomatch b6.symm.trans y), b4, b5, b6⟩
        · obtain ⟨o, es, ep, e, d, _⟩ := nsg
          rw [← z, b3] at e; cases e
          exact nomatch b6.symm.trans d
        · rw [← z, b3] at e2; cases e2
          exact nomatch b6
      · intro z
        obtain ⟨o, es, ep, e, d, _⟩ := nsg
        rw [z, e2] at e; cases e
        exact nomatch d
    have e0 : Env0 P w K mg (hidT s1.heap H) callerA [] s1 H :=
      ⟨rfl, md, fun b o e => of_hidT e, Nat.le_of_eq (hidT_size _ _), trivial, fun b hb => absurd (show b ∈ ([] : List Addr) from hb) (by simp), hok, .of_eq g0⟩
    refine codeAny_mono ((F _ kinH (nsH nsg) tb).go callerA [] s1 H ⟨[.ref a], []⟩ [.ref a] [.ref a] _ _ rfl rm e0 (bd s1 (.ref a)) (.cons rfl .nil) (wish H hTab hS)) fun r s' h => ?_
    cases r with
    | error e => exact h.elim
    | ok fl =>
      cases fl with
      | next => exact h.elim
      | brk => exact h.elim
      | cont => exact h.elim
      | ret u =>
        obtain ⟨v, H', os, bare, un, hok', r', q⟩ := h
        obtain rfl : v = .bl true := q
        obtain rfl : u = Value.bool true := r'
        have stay : ∀ b o, b ∉ cs.map (·.2) → s1.heap.get? b = some o → s'.heap.get? b = some o := fun b o nb e => by
          rcases hO b with z | ⟨z, _⟩ | ⟨ob, xs, z⟩
          · exact un.keep b o e z (fun y => absurd (show b ∈ ([] : List Addr) from y) (by simp)) (by simp)
          · exact absurd z nb
          · have e1 := (hok b _ z).1
            rw [e] at e1; cases e1
            exact (hok' b _ (un.frzs b o _ z)).1
        have grow : ∀ p ∈ cs, ∃ more : Array Value, s'.heap.get? p.2 = some { cls := .none, data := .fields more } := fun p hp => by
          obtain ⟨more, z⟩ := un.tbls p.2 #[] (hTab p hp)
          exact ⟨_, hok' p.2 _ z⟩
        refine ⟨rfl, ⟨fun b o e => ?_, fun b o e => ?_⟩, os, bare⟩
        · by_cases hb : b ∈ cs.map (·.2)
          · obtain ⟨p, hp, rfl⟩ := List.mem_map.mp hb
            obtain ⟨more, hm⟩ := grow p hp
            have e2 := hT p hp
            rw [e2] at e; cases e
            exact .inr (.inl ⟨((C p hp).tab e2).isCodeTable, rfl, #[], more, rfl, by rw [Array.empty_append]; exact hm⟩)
          · exact .inl (stay b o hb e)
        · by_cases hb : b ∈ cs.map (·.2)
          · obtain ⟨p, hp, rfl⟩ := List.mem_map.mp hb
            obtain ⟨more, hm⟩ := grow p hp
            exact ⟨_, hm⟩
          · exact ⟨o, stay b o hb e⟩
  cases hk : K.lookup a with
  | some o =>
    have e := kin a o hk
    rw [la] at e
    cases e
    refine main (fun b => if b ∈ cs.map (·.2) then some (.tbl #[]) else none) (fun p hp => if_pos (inTs p hp)) (fun b => ?_) (.inr ⟨_, vs.toArray, _, hk, rfl, rfl, rfl, by rw [List.size_toArray, lv]; exact few, by simpa using rv⟩) (fun b u z => ?_) (fun b z => ?_) fun z => absurd (if_neg aNot) z
    · by_cases hb : b ∈ cs.map (·.2)
      · exact .inr (.inl ⟨hb, if_pos hb⟩)
      · exact .inl (if_neg hb)
    · by_cases hb : b ∈ cs.map (·.2)
      · cases (if_pos hb).symm.trans z
        exact tabOf b hb
      · cases (if_neg hb).symm.trans z
    · by_cases hb : b ∈ cs.map (·.2)
      · exact .inr hb
      · exact absurd (if_neg hb) z
  | none =>
    refine main (upd (fun b => if b ∈ cs.map (·.2) then some (.tbl #[]) else none) a (.frz { cls := .type "list", data := .seq vs.toArray } (.lst (ns.map V.int)))) (fun p hp => ?_) (fun b => ?_) (.inl (.inr ⟨_, upd_same⟩)) (fun b u z => ?_) (fun b z => ?_) fun _ => hk
    · rw [upd_ne (fun z : p.2 = a => aNot (by rw [← z]; exact inTs p hp))]; exact if_pos (inTs p hp)
    · by_cases hb : b = a
      · subst hb; exact .inr (.inr ⟨_, _, upd_same⟩)
      · rw [upd_ne hb]
        by_cases hb2 : b ∈ cs.map (·.2)
        · exact .inr (.inl ⟨hb2, if_pos hb2⟩)
        · exact .inl (if_neg hb2)
    · by_cases hb : b = a
      · subst hb
        rw [upd_same] at z
        cases z
        exact ⟨la, by rw [List.length_map]; exact few, vs, _, rv, la⟩
      · rw [upd_ne hb] at z
        by_cases hb2 : b ∈ cs.map (·.2)
        · cases (if_pos hb2).symm.trans z
          exact tabOf b hb2
        · cases (if_neg hb2).symm.trans z
    · by_cases hb : b = a
      · exact .inl hb
      · rw [upd_ne hb] at z
        by_cases hb2 : b ∈ cs.map (·.2)
        · exact .inr hb2
        · exact absurd (if_neg hb2) z
theorem walkGT {l : PySem.W.OpenLaw} {n k : Nat} {q : Program} {loose : List Str} {XP : (Str → Option Value) → Heap → Prop} {YP : World → Heap → Prop} {d : DefRec} {sp : PySem.W.Frag → Sp} {x : Str}
    (hn : l.most = some n) (hn2 : n ≤ sizeLine) (hdf : d.params.defaults = []) (hr : Room k callerA)
    (F : ∀ (w : World) (mg : Str → Option Value) (fa : Addr) (h : Heap), YP w h → h.Ns mainGlobals mg → mg d.name = some (.ref fa) →
      ∃ (K : PySem.W.Frag) (cs : List (Addr × Addr)), K.In h ∧ (∀ p ∈ cs, h.get? p.2 = some tab0) ∧ (∀ p ∈ cs, K.lookup p.2 = none) ∧ (∀ p ∈ cs, PySem.W.CodeHd h p.1 p.2) ∧
        (∀ (H : Hp) (a : Addr) (ns : List Int), ns.length ≤ n → (∀ p ∈ cs, H p.2 = some (.tbl #[])) → SqL K H a (ns.map V.int) → sp K [.ref a] H (fun v _ => v = .bl true) E0) ∧
        ∃ fd : FuncData, (∀ (s : Shared) (u : Value), BindsTo s fd ⟨[u], []⟩ [(x, u)]) ∧ ∀ base : Heap, K.In base → base.Ns mainGlobals mg → (∀ p ∈ cs, TabB base mg p.1 p.2) → FnG l.prog w K mg base k fa fd [x] (sp K)) :
    PySem.W.WalkO q loose XP YP l.row.toRowW d [] (fun f vs => PySem.call f vs) := by
  refine Att.attach_callB hn hdf fun w s0 s1 mg mb fa o pm cd doc a vs ns G Y ho hd hcd hmg hobj hints hlen hbits hg => ?_
  obtain ⟨K, cs, KX, hT, nT, C, hsp, fd, hb, hF⟩ := F w mg fa _ Y G.T.g hmg
  exact lawGT KX G.T.g G.T.b G.T.builtins G.T.nolimit hg hT nT C G.T.bmain hobj hints (Nat.le_trans hlen hn2) hr hF hb fun H hH hS => hsp H a ns hlen hH hS
end Pr
namespace K33
open PySem PySem.Spec PyProof.Rows L2 Pr LamX
theorem all_mk {l : PySem.W.OpenLaw} {w : World} {K : PySem.W.Frag} {h : Heap} {mg : Str → Option Value} {fa f1 f2 f3 f4 f5 f6 f7 f8 f9 f10 f11 f12 f13 f14 f15 f16 f17 : Addr} (X : K.In h) (G : h.Ns mainGlobals mg) (hfa : mg "law" = some (.ref fa))
     {cS pS : Addr} {odcS : Option Addr} {vsS : Array Value} {slcS : Array (Option Value)} {flS : Str} {tfS tgS ttS : Tok} {fgS txS : Int} {inS : Bool}
    {od1 an1 od2 an2 od3 an3 od4 an4 od5 an5 od6 an6 od7 an7 od8 an8 od9 an9 od10 an10 od11 an11 od12 an12 od13 an13 od14 an14 od15 an15 od16 an16 od17 an17 : Option Addr} {sl1 sl2 sl3 sl4 sl5 sl6 sl7 sl8 sl9 sl10 sl11 sl12 sl13 sl14 sl15 sl16 sl17 : Array (Option Value)} {oc1 kV1 dc1 pm1 cd1 ct1 oc2 kV2 dc2 pm2 cd2 ct2 oc3 kV3 dc3 pm3 cd3 ct3 oc4 kV4 dc4 pm4 cd4 ct4 oc5 kV5 dc5 pm5 cd5 ct5 oc6 kV6 dc6 pm6 cd6 ct6 oc7 kV7 dc7 pm7 cd7 ct7 oc8 kV8 dc8 pm8 ct8 oc9 kV9 dc9 pm9 cd9 ct9 oc10 kV10 dc10 pm10 cd10 ct10 oc11 kV11 dc11 pm11 cd11 ct11 oc12 kV12 dc12 pm12 cd12 ct12 oc13 kV13 dc13 pm13 cd13 ct13 oc14 kV14 dc14 pm14 cd14 ct14 oc15 kV15 dc15 pm15 cd15 ct15 oc16 kV16 dc16 pm16 cd16 ct16 oc17 kV17 dc17 pm17 cd17 ct17 : Value}
    (a1 : PySem.W.nsIn K mainGlobals "no_effect" = some (some (.ref f1))) (l1 : K.lookup f1 = some ⟨oc1, od1, .func (PySem.W.fnOf "no_effect" "no_effect" (defArgs sNo) (defBody sNo) (defScope sNo) .none kV1 dc1 pm1 an1 cd1 ct1), sl1⟩) (c1 : PySem.W.codeIn K cd1 "no_effect" = true) (k1 : PySem.W.keepIn K (.ref f1) = true)
    (a2 : PySem.W.nsIn K mainGlobals "press_effect" = some (some (.ref f2))) (l2 : K.lookup f2 = some ⟨oc2, od2, .func (PySem.W.fnOf "press_effect" "press_effect" (defArgs sPressE) (defBody sPressE) (defScope sPressE) .none kV2 dc2 pm2 an2 cd2 ct2), sl2⟩) (c2 : PySem.W.codeIn K cd2 "press_effect" = true) (k2 : PySem.W.keepIn K (.ref f2) = true)
    (a3 : PySem.W.nsIn K mainGlobals "joined_effect" = some (some (.ref f3))) (l3 : K.lookup f3 = some ⟨oc3, od3, .func (PySem.W.fnOf "joined_effect" "joined_effect" (defArgs sJoin) (defBody sJoin) (defScope sJoin) .none kV3 dc3 pm3 an3 cd3 ct3), sl3⟩) (c3 : PySem.W.codeIn K cd3 "joined_effect" = true) (k3 : PySem.W.keepIn K (.ref f3) = true)
    (a4 : PySem.W.nsIn K mainGlobals "effect_with_press" = some (some (.ref f4))) (l4 : K.lookup f4 = some ⟨oc4, od4, .func (PySem.W.fnOf "effect_with_press" "effect_with_press" (defArgs sWith) (defBody sWith) (defScope sWith) .none kV4 dc4 pm4 an4 cd4 ct4), sl4⟩) (c4 : PySem.W.codeIn K cd4 "effect_with_press" = true) (k4 : PySem.W.keepIn K (.ref f4) = true)
    (a5 : PySem.W.nsIn K mainGlobals "effect_of" = some (some (.ref f5))) (l5 : K.lookup f5 = some ⟨oc5, od5, .func (PySem.W.fnOf "effect_of" "effect_of" (defArgs sEff) (defBody sEff) (defScope sEff) .none kV5 dc5 pm5 an5 cd5 ct5), sl5⟩) (c5 : PySem.W.codeIn K cd5 "effect_of" = true) (k5 : PySem.W.keepIn K (.ref f5) = true)
    (a6 : PySem.W.nsIn K mainGlobals "states_between" = some (some (.ref f6))) (l6 : K.lookup f6 = some ⟨oc6, od6, .func (PySem.W.fnOf "states_between" "states_between" (defArgs sBetw) (defBody sBetw) (defScope sBetw) .none kV6 dc6 pm6 an6 cd6 ct6), sl6⟩) (c6 : PySem.W.codeIn K cd6 "states_between" = true) (k6 : PySem.W.keepIn K (.ref f6) = true)
    (a7 : PySem.W.nsIn K mainGlobals "is_reset" = some (some (.ref f7))) (l7 : K.lookup f7 = some ⟨oc7, od7, .func (PySem.W.fnOf "is_reset" "is_reset" (defArgs sReset) (defBody sReset) (defScope sReset) .none kV7 dc7 pm7 an7 cd7 ct7), sl7⟩) (c7 : PySem.W.codeIn K cd7 "is_reset" = true) (k7 : PySem.W.keepIn K (.ref f7) = true)
    (a8 : PySem.W.nsIn K mainGlobals "shortest_reset" = some (some (.ref f8))) (l8 : K.lookup f8 = some ⟨oc8, od8, .func (PySem.W.fnOf "shortest_reset" "shortest_reset" (defArgs sSReset) (defBody sSReset) (defScope sSReset) .none kV8 dc8 pm8 an8 (.ref cS) ct8), sl8⟩) (c8 : PySem.W.codeIn K (.ref cS) "shortest_reset" = true) (k8 : PySem.W.keepIn K (.ref f8) = true)
    (a9 : PySem.W.nsIn K mainGlobals "_law_deck" = some (some (.ref f9))) (l9 : K.lookup f9 = some ⟨oc9, od9, .func (PySem.W.fnOf "_law_deck" "_law_deck" (defArgs sDeck) (defBody sDeck) (defScope sDeck) .none kV9 dc9 pm9 an9 cd9 ct9), sl9⟩) (c9 : PySem.W.codeIn K cd9 "_law_deck" = true) (k9 : PySem.W.keepIn K (.ref f9) = true)
    (a10 : PySem.W.nsIn K mainGlobals "_law_draw" = some (some (.ref f10))) (l10 : K.lookup f10 = some ⟨oc10, od10, .func (PySem.W.fnOf "_law_draw" "_law_draw" (defArgs sDraw) (defBody sDraw) (defScope sDraw) .none kV10 dc10 pm10 an10 cd10 ct10), sl10⟩) (c10 : PySem.W.codeIn K cd10 "_law_draw" = true) (k10 : PySem.W.keepIn K (.ref f10) = true)
    (a11 : PySem.W.nsIn K mainGlobals "_law_panel" = some (some (.ref f11))) (l11 : K.lookup f11 = some ⟨oc11, od11, .func (PySem.W.fnOf "_law_panel" "_law_panel" (defArgs sPanel) (defBody sPanel) (defScope sPanel) .none kV11 dc11 pm11 an11 cd11 ct11), sl11⟩) (c11 : PySem.W.codeIn K cd11 "_law_panel" = true) (k11 : PySem.W.keepIn K (.ref f11) = true)
    (a12 : PySem.W.nsIn K mainGlobals "_law_after" = some (some (.ref f12))) (l12 : K.lookup f12 = some ⟨oc12, od12, .func (PySem.W.fnOf "_law_after" "_law_after" (defArgs sAfter) (defBody sAfter) (defScope sAfter) .none kV12 dc12 pm12 an12 cd12 ct12), sl12⟩) (c12 : PySem.W.codeIn K cd12 "_law_after" = true) (k12 : PySem.W.keepIn K (.ref f12) = true)
    (a13 : PySem.W.nsIn K mainGlobals "_law_all" = some (some (.ref f13))) (l13 : K.lookup f13 = some ⟨oc13, od13, .func (PySem.W.fnOf "_law_all" "_law_all" (defArgs sStates) (defBody sStates) (defScope sStates) .none kV13 dc13 pm13 an13 cd13 ct13), sl13⟩) (c13 : PySem.W.codeIn K cd13 "_law_all" = true) (k13 : PySem.W.keepIn K (.ref f13) = true)
    (a14 : PySem.W.nsIn K mainGlobals "_law_met" = some (some (.ref f14))) (l14 : K.lookup f14 = some ⟨oc14, od14, .func (PySem.W.fnOf "_law_met" "_law_met" (defArgs sMet) (defBody sMet) (defScope sMet) .none kV14 dc14 pm14 an14 cd14 ct14), sl14⟩) (c14 : PySem.W.codeIn K cd14 "_law_met" = true) (k14 : PySem.W.keepIn K (.ref f14) = true)
    (a15 : PySem.W.nsIn K mainGlobals "_law_choices" = some (some (.ref f15))) (l15 : K.lookup f15 = some ⟨oc15, od15, .func (PySem.W.fnOf "_law_choices" "_law_choices" (defArgs sChoi) (defBody sChoi) (defScope sChoi) .none kV15 dc15 pm15 an15 cd15 ct15), sl15⟩) (c15 : PySem.W.codeIn K cd15 "_law_choices" = true) (k15 : PySem.W.keepIn K (.ref f15) = true)
    (a16 : PySem.W.nsIn K mainGlobals "_law_least" = some (some (.ref f16))) (l16 : K.lookup f16 = some ⟨oc16, od16, .func (PySem.W.fnOf "_law_least" "_law_least" (defArgs sLeast) (defBody sLeast) (defScope sLeast) .none kV16 dc16 pm16 an16 cd16 ct16), sl16⟩) (c16 : PySem.W.codeIn K cd16 "_law_least" = true) (k16 : PySem.W.keepIn K (.ref f16) = true)
    (a17 : PySem.W.nsIn K mainGlobals "law" = some (some (.ref f17))) (l17 : K.lookup f17 = some ⟨oc17, od17, .func (PySem.W.fnOf "law" "law" (defArgs sLaw) (defBody sLaw) (defScope sLaw) .none kV17 dc17 pm17 an17 cd17 ct17), sl17⟩) (c17 : PySem.W.codeIn K cd17 "law" = true) (k17 : PySem.W.keepIn K (.ref f17) = true)
    (lCS : K.lookup cS = some ⟨.type "code", odcS, .fields vsS, slcS⟩)
    (g11S : vsS[11]? = some (.ref pS))
    (d11S : vsS.getD 11 .none = .ref pS)
    (d18S : vsS.getD 18 .none = .str flS tfS)
    (d7S : vsS.getD 7 .none = .int fgS tgS)
    (d9S : vsS.getD 9 .none = .bool inS)
    (d10S : vsS.getD 10 .none = .int txS ttS)
    (ncPS : cS ≠ pS)
    (z1 : PySem.W.nsIn K mainGlobals "abs" = some none) (z2 : PySem.W.nsIn K mainGlobals "int" = some none) (z3 : PySem.W.nsIn K mainGlobals "len" = some none) (z4 : PySem.W.nsIn K mainGlobals "list" = some none) (z5 : PySem.W.nsIn K mainGlobals "max" = some none) (z6 : PySem.W.nsIn K mainGlobals "min" = some none) (z7 : PySem.W.nsIn K mainGlobals "range" = some none) (z8 : PySem.W.nsIn K mainGlobals "repr" = some none) (z9 : PySem.W.nsIn K mainGlobals "set" = some none) (z10 : PySem.W.nsIn K mainGlobals "sorted" = some none) (z11 : PySem.W.nsIn K mainGlobals "tuple" = some none) (z12 : PySem.W.nsIn K mainGlobals "zip" = some none) :
    PySem.W.CodeHd h cS pS ∧ ∃ fd : FuncData, (∀ (s : Shared) (v : Value), BindsTo s fd ⟨[v], []⟩ [("_law_script", v)]) ∧ ∀ base : Heap, K.In base → base.Ns mainGlobals mg → TabB base mg cS pS → FnG l.prog w K mg base 7 fa fd ["_law_script"] (spLaw K pS) := by
  have e := hfa.symm.trans (PySem.W.mg_of X G a17)
  cases e
  have F1 := fun_mk (st := sNo) l1 c1 k1
  have F2 := fun_mk (st := sPressE) l2 c2 k2
  have F3 := fun_mk (st := sJoin) l3 c3 k3
  have F4 := fun_mk (st := sWith) l4 c4 k4
  have F5 := fun_mk (st := sEff) l5 c5 k5
  have F6 := fun_mk (st := sBetw) l6 c6 k6
  have F7 := fun_mk (st := sReset) l7 c7 k7
  have F8 := fun_mk (st := sSReset) l8 c8 k8
  have F9 := fun_mk (st := sDeck) l9 c9 k9
  have F10 := fun_mk (st := sDraw) l10 c10 k10
  have F11 := fun_mk (st := sPanel) l11 c11 k11
  have F12 := fun_mk (st := sAfter) l12 c12 k12
  have F13 := fun_mk (st := sStates) l13 c13 k13
  have F14 := fun_mk (st := sMet) l14 c14 k14
  have F15 := fun_mk (st := sChoi) l15 c15 k15
  have F16 := fun_mk (st := sLeast) l16 c16 k16
  have F17 := fun_mk (st := sLaw) l17 c17 k17
  have b1 := F1.binds (ps := ["panel"]) fun _ _ _ _ _ _ us hl => match us, hl with | [_], _ => rfl
  have b2 := F2.binds (ps := ["panel", "button"]) fun _ _ _ _ _ _ us hl => match us, hl with | [_, _], _ => rfl
  have b3 := F3.binds (ps := ["first", "second"]) fun _ _ _ _ _ _ us hl => match us, hl with | [_, _], _ => rfl
  have b4 := F4.binds (ps := ["panel", "effect", "button"]) fun _ _ _ _ _ _ us hl => match us, hl with | [_, _, _], _ => rfl
  have b5 := F5.binds (ps := ["panel", "row"]) fun _ _ _ _ _ _ us hl => match us, hl with | [_, _], _ => rfl
  have b6 := F6.binds (ps := ["least", "most"]) fun _ _ _ _ _ _ us hl => match us, hl with | [_, _], _ => rfl
  have b7 := F7.binds (ps := ["panel", "row"]) fun _ _ _ _ _ _ us hl => match us, hl with | [_, _], _ => rfl
  have b8 := F8.binds (ps := ["panel"]) fun _ _ _ _ _ _ us hl => match us, hl with | [_], _ => rfl
  have b9 := F9.binds (ps := ["_law_script"]) fun _ _ _ _ _ _ us hl => match us, hl with | [_], _ => rfl
  have b10 := F10.binds (ps := ["_law_deck_here", "_law_bound"]) fun _ _ _ _ _ _ us hl => match us, hl with | [_, _], _ => rfl
  have b11 := F11.binds (ps := ["_law_deck_here", "_law_most"]) fun _ _ _ _ _ _ us hl => match us, hl with | [_, _], _ => rfl
  have b12 := F12.binds (ps := ["_law_panel_here", "_law_state", "_law_row"]) fun _ _ _ _ _ _ us hl => match us, hl with | [_, _, _], _ => rfl
  have b13 := F13.binds (ps := ["_law_n"]) fun _ _ _ _ _ _ us hl => match us, hl with | [_], _ => rfl
  have b14 := F14.binds (ps := ["_law_panel_here", "_law_row"]) fun _ _ _ _ _ _ us hl => match us, hl with | [_, _], _ => rfl
  have b15 := F15.binds (ps := ["_law_n", "_law_size"]) fun _ _ _ _ _ _ us hl => match us, hl with | [_, _], _ => rfl
  have b16 := F16.binds (ps := ["_law_panel_here"]) fun _ _ _ _ _ _ us hl => match us, hl with | [_], _ => rfl
  exact ⟨⟨_, vsS, flS, tfS, fgS, tgS, inS, txS, ttS, X _ _ lCS, rfl, rfl, g11S, d11S, d18S, d7S, d9S, d10S, ncPS⟩, _, fun s v => .of_eq rfl, fun base _ _ tbS => ok_law F17 F1 b1 (PySem.W.mg_of X G a1) F2 b2 (PySem.W.mg_of X G a2) F3 b3 (PySem.W.mg_of X G a3) F4 b4 (PySem.W.mg_of X G a4) F5 b5 (PySem.W.mg_of X G a5) F6 b6 (PySem.W.mg_of X G a6) F7 b7 (PySem.W.mg_of X G a7) F8 b8 (PySem.W.mg_of X G a8) F9 b9 (PySem.W.mg_of X G a9) F10 b10 (PySem.W.mg_of X G a10) F11 b11 (PySem.W.mg_of X G a11) F12 b12 (PySem.W.mg_of X G a12) F13 b13 (PySem.W.mg_of X G a13) F14 b14 (PySem.W.mg_of X G a14) F15 b15 (PySem.W.mg_of X G a15) F16 b16 (PySem.W.mg_of X G a16) (PySem.W.mg_none_of X G z1) (PySem.W.mg_none_of X G z2) (PySem.W.mg_none_of X G z3) (PySem.W.mg_none_of X G z4) (PySem.W.mg_none_of X G z5) (PySem.W.mg_none_of X G z6) (PySem.W.mg_none_of X G z7) (PySem.W.mg_none_of X G z8) (PySem.W.mg_none_of X G z9) (PySem.W.mg_none_of X G z10) (PySem.W.mg_none_of X G z11) (PySem.W.mg_none_of X G z12)  rfl tbS⟩
theorem endT {l : PySem.W.OpenLaw} {w : World} {K : PySem.W.Frag} {h : Heap} {mg : Str → Option Value} {fa : Addr} {cS pS : Addr} (KX : K.In h) (TS : h.get? pS = some tab0) (NS : K.lookup pS = none) (A : PySem.W.CodeHd h cS pS ∧ ∃ fd : FuncData, (∀ (s : Shared) (v : Value), BindsTo s fd ⟨[v], []⟩ [("_law_script", v)]) ∧ ∀ base : Heap, K.In base → base.Ns mainGlobals mg → TabB base mg cS pS → FnG l.prog w K mg base 7 fa fd ["_law_script"] (spLaw K pS)) :
    ∃ (K : PySem.W.Frag) (cs : List (Addr × Addr)), K.In h ∧ (∀ p ∈ cs, h.get? p.2 = some tab0) ∧ (∀ p ∈ cs, K.lookup p.2 = none) ∧ (∀ p ∈ cs, PySem.W.CodeHd h p.1 p.2) ∧
      (∀ (H : Hp) (a : Addr) (ns : List Int), ns.length ≤ 63 → (∀ p ∈ cs, H p.2 = some (.tbl #[])) → SqL K H a (ns.map V.int) → spLaw K pS [.ref a] H (fun v _ => v = .bl true) E0) ∧
      ∃ fd : FuncData, (∀ (s : Shared) (u : Value), BindsTo s fd ⟨[u], []⟩ [("_law_script", u)]) ∧ ∀ base : Heap, K.In base → base.Ns mainGlobals mg → (∀ p ∈ cs, TabB base mg p.1 p.2) → FnG l.prog w K mg base 7 fa fd ["_law_script"] (spLaw K pS) := by
  obtain ⟨CS, fd, bd, F⟩ := A
  refine ⟨K, [(cS, pS)], KX, ?_, ?_, ?_, fun H a ns hl hT hS => ?_, fd, bd, fun base k1 k2 hB => F base k1 k2 (hB (cS, pS) (List.mem_cons_self))⟩
  · exact fun p hp => by
      simp only [List.mem_cons, List.not_mem_nil, or_false] at hp
      subst hp
      · exact TS
  · exact fun p hp => by
      simp only [List.mem_cons, List.not_mem_nil, or_false] at hp
      subst hp
      · exact NS
  · exact fun p hp => by
      simp only [List.mem_cons, List.not_mem_nil, or_false] at hp
      subst hp
      · exact CS
  · exact ⟨a, ns, rfl, hS, hl, fun p hp => by
      simp only [List.mem_cons, List.not_mem_nil, or_false] at hp
      subst hp
      exact TabS.nil (hT (cS, pS) List.mem_cons_self), fun _ => rfl⟩
end K33
open PySem PySem.W PyProof.Rows
theorem PySem.Challenge.cw_pressrelease_k33_shortest_resets_holds : PySem.Challenge.rw_pressrelease_k33_shortest_resets.Holds := by
  w_on; o_law; k_head; (case hw => w_witness2)
  k_fill
  refine Pr.walkGT (l := PySem.Challenge.rw_pressrelease_k33_shortest_resets) (n := 63) (k := 7) (x := "_law_script") (sp := fun K => K33.spLaw K 61) rfl (by decide) rfl ⟨rfl, by decide, by decide⟩ ?F
  case F =>
    intro w mg fa h Y G hmg
    have KX := PySem.W.km_in_of Y
    have KT := PySem.W.km_tabs_of Y
    refine' K33.endT KX (KT 61 (by decide)) ?NS (K33.all_mk KX G hmg ?a1 ?l1 ?c1 ?k1 ?a2 ?l2 ?c2 ?k2 ?a3 ?l3 ?c3 ?k3 ?a4 ?l4 ?c4 ?k4 ?a5 ?l5 ?c5 ?k5 ?a6 ?l6 ?c6 ?k6 ?a7 ?l7 ?c7 ?k7 ?a8 ?l8 ?c8 ?k8 ?a9 ?l9 ?c9 ?k9 ?a10 ?l10 ?c10 ?k10 ?a11 ?l11 ?c11 ?k11 ?a12 ?l12 ?c12 ?k12 ?a13 ?l13 ?c13 ?k13 ?a14 ?l14 ?c14 ?k14 ?a15 ?l15 ?c15 ?k15 ?a16 ?l16 ?c16 ?k16 ?a17 ?l17 ?c17 ?k17 ?lCS ?g11S ?d11S ?d18S ?d7S ?d9S ?d10S ?ncPS ?z1 ?z2 ?z3 ?z4 ?z5 ?z6 ?z7 ?z8 ?z9 ?z10 ?z11 ?z12)
    (case NS => first | rfl | decide +kernel | kernel_rfl)
    (case a1 => k_is); (case l1 => k_is); (case c1 => k_is); (case k1 => k_is); (case a2 => k_is); (case l2 => k_is); (case c2 => k_is); (case k2 => k_is); (case a3 => k_is); (case l3 => k_is); (case c3 => k_is); (case k3 => k_is)
    (case a4 => k_is); (case l4 => k_is); (case c4 => k_is); (case k4 => k_is); (case a5 => k_is); (case l5 => k_is); (case c5 => k_is); (case k5 => k_is); (case a6 => k_is); (case l6 => k_is); (case c6 => k_is); (case k6 => k_is)
    (case a7 => k_is); (case l7 => k_is); (case c7 => k_is); (case k7 => k_is); (case a8 => k_is); (case l8 => k_is); (case c8 => k_is); (case k8 => k_is); (case a9 => k_is); (case l9 => k_is); (case c9 => k_is); (case k9 => k_is)
    (case a10 => k_is); (case l10 => k_is); (case c10 => k_is); (case k10 => k_is); (case a11 => k_is); (case l11 => k_is); (case c11 => k_is); (case k11 => k_is); (case a12 => k_is); (case l12 => k_is); (case c12 => k_is); (case k12 => k_is)
    (case a13 => k_is); (case l13 => k_is); (case c13 => k_is); (case k13 => k_is); (case a14 => k_is); (case l14 => k_is); (case c14 => k_is); (case k14 => k_is); (case a15 => k_is); (case l15 => k_is); (case c15 => k_is); (case k15 => k_is)
    (case a16 => k_is); (case l16 => k_is); (case c16 => k_is); (case k16 => k_is); (case a17 => k_is); (case l17 => k_is); (case c17 => k_is); (case k17 => k_is); (case lCS => first | k_is | k_exc | rfl | decide +kernel | kernel_rfl); (case g11S => first | k_is | k_exc | rfl | decide +kernel | kernel_rfl); (case d11S => first | k_is | k_exc | rfl | decide +kernel | kernel_rfl); (case d18S => first | k_is | k_exc | rfl | decide +kernel | kernel_rfl)
    (case d7S => first | k_is | k_exc | rfl | decide +kernel | kernel_rfl); (case d9S => first | k_is | k_exc | rfl | decide +kernel | kernel_rfl); (case d10S => first | k_is | k_exc | rfl | decide +kernel | kernel_rfl); (case ncPS => first | k_is | k_exc | rfl | decide +kernel | kernel_rfl); (case z1 => k_is); (case z2 => k_is); (case z3 => k_is); (case z4 => k_is); (case z5 => k_is); (case z6 => k_is); (case z7 => k_is); (case z8 => k_is)
    (case z9 => k_is); (case z10 => k_is); (case z11 => k_is); (case z12 => k_is)
