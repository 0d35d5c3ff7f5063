import PyProof.Rows.All
import Wide.All
import OpenK.AllK
import Wide.FinOn
import HandS.ForMost
import HandS.TupMul
import HandS.TupAny
import HandS.SetFor
import HandS.Walk
import HandS.EndBits
import KE.GoesEnum
import PyProof.ReprRoads
import HandS.Zip
import HandS.NoneIn
import HandS.IsInst
import HandS.Strs
import HandS.Conv
import HandS.DictComp
import HandS.More
import PySem.Challenge.RW_pressrelease_k11_plain_rows
set_option Elab.async false
set_option linter.all false
set_option maxRecDepth 100000
set_option maxHeartbeats 4000000
/-! A layer for laws that ask repr: a def's promise that also knows that no repr is under way. -/
namespace Pr
open PySem PySem.Spec PyProof.Rows L2

/-! ### promises of defs that may ask repr -/
structure FnG (P : Program) (w : World) (K : PySem.W.Frag) (mg : Str → Option Value) (base : Heap) (k : Nat) (f : Addr) (fd : FuncData) (ps : List Str) (sp : Sp) : Prop where
  len : ∀ vs H Q E, sp vs H Q E → vs.length = ps.length
  go : ∀ (A : Around) (outer : List Env) (s : Shared) (H : Hp) (args : Args) (us : List Value) (vs : List V) (Q : VK) (E : XK), A.guards = some [] → Room k A →
    Env0 P w K mg base A outer s H → BindsTo s fd args (ps.zip us) → Vals vs us → sp vs H Q E →
    codeAny (model P w) A (.call (.ref f) args) (CR CX0 outer P w H s Q E) s

section
variable {P : Program} {w : World} {K : PySem.W.Frag} {mg : Str → Option Value} {base : Heap}
theorem FnG.of {k : Nat} {f : Addr} {fd : FuncData} {ps : List Str} {sp : Sp} (F : FnOk P w K mg base CX0 k f fd ps sp) : FnG P w K mg base k f fd ps sp :=
  ⟨F.len, fun A outer s H args us vs Q E _ hr => F.run A outer s H args us vs Q E hr⟩

/-- a def by its body, where no repr is under way -/
theorem okG {x qual : Str} {st : Stmt} {f : Addr} {fd : FuncData} {N ps : List Str} {k : Nat} {sp : Sp} (F : Fun K x qual st f fd) (S : FnScope N ps (defScope st))
    (len : ∀ vs H Q E, sp vs H Q E → vs.length = ps.length)
    (body : ∀ (cdv : Value) (A : Around) (outer : List Env) (s : Shared) (H : Hp) (vs : List V) (Q : VK) (E : XK), A.guards = some [] →
      Room k (A.deeper (envOfC qual (defScope st) s.heap.objs.size f cdv)) → sp vs H Q E →
      ∃ t, PSs (cxOf CX0 P w K mg base N qual (defScope st) f cdv A outer s H E).nox (defBody st) t ∧ t { nx := fun _ H' => Q .non H', rt := Q } (start N vs) H) :
    FnG P w K mg base (k + 1) f fd ps sp := by
  obtain ⟨oc, od, kV, doc, pm, an, cdv, ct, osl, rfl, lk, hcd⟩ := F.ex
  refine ⟨len, fun A outer s H args us vs Q E hg hr e0 hb r hsp => ?_⟩
  have hin : K.In s.heap := e0.mod.kin.keeps fun b o e => (e0.bs b o e).1
  have hlm : s.heap.NoLimit := e0.mod.nolimit.keeps fun b o e => (e0.bs b o e).1
  refine codeAny_call_function hr.depth (hin _ _ lk) rfl S.co S.gen rfl (PySem.W.codeRec_of hin hcd) (hb _ _ _ _ ?_)
  refine wpAny_newFunctionEnv_cells S.kind (fun ⟨n, v⟩ hy => ?_) fun env he s1 x => ?_
  · rcases S.par n (List.of_mem_zip hy).1 with q | q
    · exact .inl q
    · exact .inr ⟨q, PySem.W.cellsFrom_some _ _ _ (.inl q)⟩
  · subst he
    refine ⟨hlm.keeps x.toInCall.keep, codeAny_func ?_⟩
    obtain ⟨t, ht, hq⟩ := body cdv A outer s H vs Q E hg (hr.deeper _) hsp
    have I := inv_start (CX := CX0) (E := E) S hr.hd e0 (len _ _ _ _ hsp) r x
    refine wpAny_mono (ht.nox.run [] s1 (start N vs) H _ I hq) (fun fl s' hs => ?_) fun e s' hs => hs
    cases fl with
    | ret u => obtain ⟨v, σ', H', J, rv, q⟩ := hs; exact ⟨v, H', J.os, J.bare, J.base, J.hok, rv, q⟩
    | next => obtain ⟨σ', H', J, q⟩ := hs; exact ⟨V.non, H', J.os, J.bare, J.base, J.hok, rfl, q⟩
    | brk => obtain ⟨_, _, _, q⟩ := hs; exact q.elim
    | cont => obtain ⟨_, _, _, q⟩ := hs; exact q.elim
end

section
variable {X : Cx} {k : Nat} {f : Addr} {fd : FuncData} {ps : List Str} {sp : Sp} {x : Str} {p pos : Pos} {e : Expr} {es : List Expr} {t : TA}
/-- f(e, ..) of such a def -/
theorem pe_callG (F : FnG X.prog X.w X.K X.mg X.base k f fd ps sp) (gd : X.A.guards = some []) (hr : Room k X.A) (hg : Gl X x) (hm : X.mg x = some (.ref f)) (hk : PySem.W.keepIn X.K (.ref f) = true) (hb : Binds X.K fd ps [])
    (ha : PA X (e :: es) t) (hdb : (x == ("__debug__" : Str)) = false := by decide) (he : starEach (e :: es) X.env = (false, eval e X.env) :: starEach es X.env := by rfl)
    (hpl : (backTo pos (starEach es X.env)).any (·.1) = false := by rfl) : PE X (.Call (.Name x p) (e :: es) [] pos) (tCall sp [] E0 t) := by
  refine ⟨fun pins s σ H Q I h => wpAny_Call_Name_kw (ld_glob I hg hm ?_ hdb)⟩
  refine PySem.W.callWith_K (h₀ := X.base) I.ok.mod.kin hk (thn (ha.run pos pins s σ H _ I h) fun us s1 ⟨vs, H1, I1, r, q⟩ => ⟨I1.kIn, ?_⟩) he hpl
  have q1 : sp vs H1 Q E0 := by
    have q0 : sp (vs ++ []) H1 Q E0 := q
    rwa [List.append_nil] at q0
  have hl : us.length = ps.length := by rw [← r.length]; exact F.len _ _ _ _ q1
  have hb1 : BindsTo s1 fd ⟨us, []⟩ (ps.zip us) := by
    have := hb s1 us I1.kIn (by rw [List.append_nil]; exact hl)
    rwa [List.append_nil] at this
  refine wpAny_call (codeAny_mono (F.go X.A X.stack s1 H1 ⟨us, []⟩ us vs Q E0 gd hr I1.env0 hb1 r q1) fun r' s' hq => ?_)
  cases r' with
  | error e' => exact hq.elim
  | ok fl =>
    cases fl with
    | ret u => exact I1.after hq
    | next => exact hq.elim
    | brk => exact hq.elim
    | cont => exact hq.elim
end

/-! ### repr of data that holds no dict -/
def rRepr (K : PySem.W.Frag) : List V → Hp → VK → Prop := fun xs H Q => ∃ (a : Addr) (d : PyData), xs = [.ref a] ∧ Dp K H (.ref a) d ∧ d.showable = true ∧ d.hasDict = false ∧ d.depth ≤ 60 ∧ d.shown.length ≤ sizeLine ∧ Q (.str d.shown) H
theorem call_repr {X : Cx} {k : Nat} (gd : X.A.guards = some []) (hr : Room k X.A) : CallR X (.builtin "repr") (rRepr X.K) := by
  intro pins s σ H xs us Q I rv h
  obtain ⟨a, d, rfl, hd, hs, hn, hdep, hz, q⟩ := h
  obtain ⟨u, rfl, rx⟩ := vals1 rv
  cases rx
  obtain ⟨as, r⟩ := Dp.reads I d _ _ hd rfl
  exact repr_of_reads' r hs (PyData.noDict_hsm hn) gd (by have := hr.un; omega) (fun _ _ e => e) (fun h' t tk hk => ⟨.str d.shown, H, I.kept hk, ⟨t, rfl⟩, q⟩) hz

/-! ### the law's own call -/
theorem lawG {P : Program} {w : World} {K : PySem.W.Frag} {mg mb : Str → Option Value} {k : Nat} {fa a : Addr} {fd : FuncData} {x : Str} {sp : Sp} {s1 : Shared} {vs : List Value} {ns : List Int}
    (kin : K.In s1.heap) (nsg : s1.heap.Ns mainGlobals mg) (nsb : s1.heap.Ns builtinsNs mb) (bb : ∀ y : Str, y ≠ "__name__" → mb y = bootBuiltins y) (lim : s1.heap.NoLimit) (g0 : s1.gens = #[])
    (la : s1.heap.get? a = some { cls := .type "list", data := .seq vs.toArray }) (hints : IntsAre vs ns) (few : ns.length ≤ sizeLine) (rm : Room k callerA)
    (F : ∀ base : Heap, K.In base → base.Ns mainGlobals mg → FnG P w K mg base k fa fd [x] sp) (bd : ∀ (s : Shared) (u : Value), BindsTo s fd ⟨[u], []⟩ [(x, u)])
    (wish : ∀ H : Hp, Only H → SqL K H a (ns.map V.int) → sp [.ref a] H (fun v _ => v = .bl true) E0) :
    codeAny (model P w) callerA (.call (.ref fa) ⟨[.ref a], []⟩) (fun r s' => r = .ok (.ret (.bool true)) ∧ OldK s1.heap s'.heap ∧ s'.os = s1.os ∧ AllBare s'.gens) s1 := by
  have rv := vals_ints hints
  have lv := hints.length
  have main : ∀ H : Hp, Only H → SqL K H a (ns.map V.int) → HOk P w H s1.heap → (∀ b, H b ≠ none → b = a) → (H a ≠ none → K.lookup a = none) →
      codeAny (model P w) callerA (.call (.ref fa) ⟨[.ref a], []⟩) (fun r s' => r = .ok (.ret (.bool true)) ∧ OldK s1.heap s'.heap ∧ s'.os = s1.os ∧ AllBare s'.gens) s1 := by
    intro H hO hS hok hA hK
    have out : ∀ {b : Addr} {o : Obj} {es : Array DictEntry} {ep : Nat}, s1.heap.get? b = some o → o.data = .dict es ep → H b = none := fun {b o es ep} e d => by
      cases q : H b with
      | none => rfl
      | some u =>
        obtain rfl : b = a := hA b (by rw [q]; simp)
        rw [la] at e; cases e
        exact nomatch (show Data.seq vs.toArray _ = Data.dict es ep from d)
    have nsH : ∀ {b : Addr} {m : Str → Option Value}, s1.heap.Ns b m → (hidT s1.heap H).Ns b m := fun {b m} ⟨o, es, ep, e, d, r⟩ => ⟨o, es, ep, hidT_get e (out e d), d, r⟩
    have kinH : K.In (hidT s1.heap H) := fun b o e => hidT_get (kin b o e) (by
      cases q : H b with
      | none => rfl
      | some u =>
        obtain rfl : b = a := hA b (by rw [q]; simp)
        rw [hK (by rw [q]; simp)] at e; cases e)
    have md : Mod K mg (hidT s1.heap H) := ⟨kinH, nsH nsg, ⟨mb, nsH nsb, bb⟩, let ⟨mc, h1, h2⟩ := lim; ⟨mc, nsH h1, h2⟩⟩
    have e0 : Env0 P w K mg (hidT s1.heap H) callerA [] s1 H :=
      ⟨rfl, md, fun b o e => of_hidT e, Nat.le_of_eq (hidT_size _ _), trivial, fun b hb => absurd (show b ∈ ([] : List Addr) from hb) (by simp), hok, .of_eq g0⟩
    refine codeAny_mono ((F _ kinH (nsH nsg)).go callerA [] s1 H ⟨[.ref a], []⟩ [.ref a] [.ref a] _ _ rfl rm e0 (bd s1 (.ref a)) (.cons rfl .nil) (wish H hO hS)) fun r s' h => ?_
    cases r with
    | error e => exact h.elim
    | ok fl =>
      cases fl with
      | next => exact h.elim
      | brk => exact h.elim
      | cont => exact h.elim
      | ret u =>
        obtain ⟨v, H', os, bare, un, hok', r', q⟩ := h
        obtain rfl : v = .bl true := q
        obtain rfl : u = Value.bool true := r'
        refine ⟨rfl, OldK.of_keep fun b o e => ?_, os, bare⟩
        rcases hO b with z | ⟨ob, xs, z⟩
        · exact un.keep b o e z (fun y => absurd (show b ∈ ([] : List Addr) from y) (by simp)) (by simp)
        · have e1 := (hok b _ z).1
          rw [e] at e1; cases e1
          exact (hok' b _ (un.frzs b o _ z)).1
  cases hk : K.lookup a with
  | some o =>
    have e := kin a o hk
    rw [la] at e
    cases e
    exact main (fun _ => none) (fun _ => .inl rfl) (.inr ⟨_, vs.toArray, _, hk, rfl, rfl, rfl, by rw [List.size_toArray, lv]; exact few, by simpa using rv⟩)
      (fun b u z => nomatch (show (none : Option HO) = some u from z)) (fun b z => absurd rfl z) fun z => absurd rfl z
  | none =>
    refine main (upd (fun _ => none) a (.frz { cls := .type "list", data := .seq vs.toArray } (.lst (ns.map V.int)))) (fun b => ?_) (.inl (.inr ⟨_, upd_same⟩)) (fun b u z => ?_) (fun b z => ?_) fun _ => hk
    · by_cases hb : b = a
      · subst hb; exact .inr ⟨_, _, upd_same⟩
      · exact .inl (upd_ne hb)
    · by_cases hb : b = a
      · subst hb
        rw [upd_same] at z
        cases z
        exact ⟨la, by rw [List.length_map]; exact few, vs, _, rv, la⟩
      · rw [upd_ne hb] at z; cases z
    · by_cases hb : b = a
      · exact hb
      · exact absurd (upd_ne hb) z

/-- the goal that k_head leaves, from the law's promise -/
theorem walkG {l : PySem.W.OpenLaw} {n k : Nat} {q : Program} {loose : List Str} {XP : (Str → Option Value) → Heap → Prop} {YP : World → Heap → Prop} {d : DefRec} {K : Params → PySem.W.Frag} {sp : PySem.W.Frag → Sp} {x : Str}
    (hn : l.most = some n) (hn2 : n ≤ sizeLine) (hdf : d.params.defaults = []) (hr : Room k callerA) (hY : ∀ (w : World) (h : Heap), YP w h → (K w.params).In h)
    (F : ∀ (w : World) (mg : Str → Option Value) (fa : Addr) (h : Heap), (K w.params).In h → h.Ns mainGlobals mg → mg d.name = some (.ref fa) →
      ∃ fd : FuncData, (∀ (s : Shared) (u : Value), BindsTo s fd ⟨[u], []⟩ [(x, u)]) ∧ ∀ base : Heap, (K w.params).In base → base.Ns mainGlobals mg → FnG l.prog w (K w.params) mg base k fa fd [x] (sp (K w.params)))
    (hsp : ∀ (K : PySem.W.Frag) (H : Hp) (a : Addr) (ns : List Int), ns.length ≤ n → (∀ z ∈ ns, Builtin.Int.intBits z ≤ 1048576) → Only H → SqL K H a (ns.map V.int) → sp K [.ref a] H (fun v _ => v = .bl true) E0) :
    PySem.W.WalkO q loose XP YP l.row.toRowW d [] (fun f vs => PySem.call f vs) := by
  refine Att.attach_callB hn hdf fun w s0 s1 mg mb fa o pm cd doc a vs ns G Y ho hd hcd hmg hobj hints hlen hbits hg => ?_
  obtain ⟨fd, hb, hF⟩ := F w mg fa _ (hY w _ Y) G.T.g hmg
  exact lawG (hY w _ Y) G.T.g G.T.b G.T.builtins G.T.nolimit hg hobj hints (Nat.le_trans hlen hn2) hr hF hb fun H hO hS => hsp (K w.params) H a ns hlen hbits hO hS
end Pr
namespace Pr
open PySem PySem.Spec PyProof.Rows L2

/-- a tuple of which it is known that it has no attributes of its own -/
def FT (H : Hp) (a : Addr) (xs : List V) : Prop := ∃ o : Obj, H a = some (.frz o (.tup xs)) ∧ o.dict = none
theorem FT.sq {K : PySem.W.Frag} {H : Hp} {a : Addr} {xs : List V} (h : FT H a xs) : SqT K H a xs := let ⟨o, e, _⟩ := h; .inl (.inr ⟨o, e⟩)
theorem FT.same {H H' : Hp} {a : Addr} {xs : List V} (e : Same H H') (h : FT H a xs) : FT H' a xs := let ⟨o, q, z⟩ := h; ⟨o, e _ _ q, z⟩
theorem same_sqT {K : PySem.W.Frag} {H H' : Hp} {a : Addr} {xs : List V} (e : Same H H') (h : SqT K H a xs) : SqT K H' a xs := by
  rcases h with (h | ⟨o, h⟩) | h
  · exact .inl (.inl (e _ _ h))
  · exact .inl (.inr ⟨o, e _ _ h⟩)
  · exact .inr h

section
variable {X : Cx}
/-! ### tuple(list), the tuple known -/
def rTupF (K : PySem.W.Frag) : List V → Hp → VK → Prop := fun xs H Q => ∃ p ys, xs = [.ref p] ∧ SqL K H p ys ∧ ∀ l o, H l = none → o.dict = none → Q (.ref l) (upd H l (.frz o (.tup ys)))
theorem call_tupF : CallR X (.type "tuple") (rTupF X.K) := by
  intro pins s σ H xs us Q I r h
  obtain ⟨p, ys, rfl, hq, q⟩ := h
  obtain ⟨u, rfl, rx⟩ := vals1 r
  cases rx
  obtain ⟨its, r', pl, hz⟩ := I.list hq
  have hlen := r'.length
  refine call_tuple_list pl.isList (fun h' kp => ?_) (by simp only [List.size_toArray] <;> omega)
  have I1 : Inv X pins σ H { s with heap := h' } := I.kept (t' := s.toks) kp
  have I2 := I1.laid (t' := s.toks) (h' := h'.push { cls := .type "tuple", data := .seq its.toArray }) (a := h'.objs.size)
    (o := .frz { cls := .type "tuple", data := .seq its.toArray } (.tup ys)) (fun b o e => Heap.get?_push_of_some _ e) (Nat.le_refl _) ⟨Heap.get?_push_size _ rfl, hz, its, r', IsTup.new _ _⟩
  exact ⟨.ref h'.objs.size, _, I2, rfl, q _ _ (I1.hok.fresh (Nat.le_refl _)) rfl⟩

/-! ### t.count(k) -/
def rCntT (K : PySem.W.Frag) : V → List V → Hp → VK → Prop := fun x xs H Q => ∃ (p : Addr) (ns : List Int) (k : Int), x = .ref p ∧ xs = [.int k] ∧ SqT K H p (ns.map V.int) ∧ Q (.int (ns.count k : Nat)) H
theorem mt_tcount : MtR X "tuple.count" (rCntT X.K) := by
  intro pins s σ H x xs v us Q I rx rxs h
  obtain ⟨p, ns, k, rfl, rfl, hs, q⟩ := h
  cases rx
  obtain ⟨u, rfl, t, rfl⟩ := rxs.one
  obtain ⟨its, rv, ⟨⟨cls, dd, data, sl⟩, ho, hc, n, hd⟩, hlen⟩ := I.tuple hs
  simp only at hc hd
  subst hc hd
  have hi := ints_of_vals rv
  refine call_meets PySem.F.slot_tuple_count ⟨_, ho, rfl⟩ PySem.F.entry_tuple_count (PySem.F.args_tuple_count_2 _ _)
    (SeqAt.tuple_countAt p its.toArray n dd sl (.int k t) (eqk k)) ⟨ho, fun y hy => (eqk_gives hi y (by simpa using hy)).at _ _, ?_⟩
  have ec : its.toArray.toList.countP (eqk k) = ns.count k := eqk_count hi
  rw [ec]
  exact ⟨.int (ns.count k : Nat), H, I.tok _, ⟨s.toks, rfl⟩, q⟩

/-- o.m(e, ..), o a tuple that is known -/
def tTM (r : V → List V → Hp → VK → Prop) (to : TE) (t : TA) : TE := fun σ H Q => to σ H fun x H1 => (∃ p xs, x = .ref p ∧ FT H1 p xs) ∧ t σ H1 fun vs H2 => r x vs H2 Q
theorem pe_tm {name : Str} {id : String} {r : V → List V → Hp → VK → Prop} {o e : Expr} {es : List Expr} {apos cpos : Pos} {to : TE} {t : TA} (slot : Slot "tuple" name id) (hty : typeOf (.builtin id) = pure (.type "method_descriptor")) (hm : MtR X id r) (ho : PE X o to) (ha : PA X (e :: es) t)
    (hbase : attributeBase o name X.env (eval o X.env) = eval o X.env := by rfl)
    (hfew : ((backTo cpos (starEach (e :: es) X.env)).all (fun x => !x.1) && (backToKw cpos (keywordEach [] X.env)).all (fun x => x.1.isSome) && decide ((e :: es).length + ([] : List Keyword).length + (if ([] : List Keyword).isEmpty then 0 else 1) < 30)) = true := by rfl)
    (hline : (apos.endLine == cpos.line) = true := by rfl) (hs : starEach (e :: es) X.env = (false, eval e X.env) :: starEach es X.env := by rfl)
    (hplain : (backTo cpos (starEach es X.env)).any (·.1) = false := by rfl) : PE X (.Call (.Attribute o name apos) (e :: es) [] cpos) (tTM r to t) := by
  refine ⟨fun pins s σ H Q I h => wpAny_Call_method_late hbase hfew hline rfl (thn (ho.run pins s σ H _ I h) fun v s1 ⟨x, H1, I1, r1, ⟨p, xs, ex, ob, hp, hdn⟩, q1⟩ => ?_)⟩
  subst ex
  cases r1
  obtain ⟨g1, _, its, _, ⟨o2, g2, hc, _⟩⟩ := I1.hok p _ hp
  rw [g1] at g2
  cases g2
  refine ⟨"tuple", id, PySem.F.plainAttrs_tuple, slot, hty, ⟨ob, g1, hc⟩, fun a e => by cases e; exact ⟨ob, g1, hdn⟩, ?_⟩
  have hA := ha.run cpos pins s1 σ H1 _ I1 q1
  rw [hs] at hA ⊢
  refine Calls.callWith_builtin (by show (false || (backTo cpos (starEach es X.env)).any (·.1)) = false; rw [hplain] <;> rfl) (Calls.evalArgs_plain ?_)
  exact thn hA fun us s2 ⟨vs, H2, I2, r2, q2⟩ => hm pins s2 σ H2 (.ref p) vs (.ref p) us Q I2 rfl r2 q2
end

/-! ### (x,) * 0 and (x,) * 1 -/
theorem tup_mul0 (l : Addr) (y : Value) (n : Nat) (dd : Option Addr) (sl : Array (Option Value)) (u : Tok) :
    Meets (Builtin.«tuple.__mul__» ⟨[.ref l, .int 0 u], []⟩) (fun _ R s => s.heap.get? l = some { cls := .type "tuple", dict := dd, data := .seq #[y] n, slots := sl } ∧
      R (.ok (.ret (Value.ref s.heap.objs.size))) { s with heap := s.heap.push { cls := Value.type "tuple", data := Data.seq #[] }, toks := s.toks }) :=
  .of_wp fun prog w A R s h => by
    obtain ⟨hp, g, d, tk, os⟩ := s
    obtain ⟨hl, h⟩ := h
    have f1 := AutoSeq1.idx_int
    wp_walk using AutoSeq1.wpAny_loadPart' hl
    exact ⟨_, rfl, h⟩
theorem tup_mul1 (l : Addr) (y : Value) (n : Nat) (dd : Option Addr) (sl : Array (Option Value)) (u : Tok) :
    Meets (Builtin.«tuple.__mul__» ⟨[.ref l, .int 1 u], []⟩) (fun _ R s => s.heap.get? l = some { cls := .type "tuple", dict := dd, data := .seq #[y] n, slots := sl } ∧ R (.ok (.ret (.ref l))) s) :=
  .of_wp fun prog w A R s h => by
    obtain ⟨hp, g, d, tk, os⟩ := s
    obtain ⟨hl, h⟩ := h
    have f1 := AutoSeq1.idx_int
    wp_walk using AutoSeq1.wpAny_loadPart' hl
    exact ⟨_, rfl, h⟩
section
variable {X : Cx}
def rRep1 (K : PySem.W.Frag) : R2 := fun x y H Q => ∃ l v, x = .ref l ∧ SqT K H l [v] ∧ ((y = .int 1 ∧ Q (.ref l) H) ∨ (y = .int 0 ∧ ∀ p, H p = none → Q (.ref p) (upd H p (.tup []))))
theorem op_rep1 : OpR X (binaryOp .Mult) (rRep1 X.K) := by
  intro pins s σ H x y v u Q I rx ry h
  obtain ⟨l, z, rfl, hT, h⟩ := h
  cases rx
  obtain ⟨its, r, ⟨⟨cls, dd, data, sl⟩, ho, hc, n, hd⟩, hs⟩ := I.tuple hT
  simp only at hc hd
  subst hc hd
  obtain ⟨a, rfl, ra⟩ := vals1 r
  rcases h with ⟨rfl, q⟩ | ⟨rfl, q⟩
  · obtain ⟨t, rfl⟩ := ry
    refine wpAny_binaryOp_repeat_ref (T := "tuple") (U := "int") (by decide) ⟨_, ho, rfl⟩ (fun s' => typeIs_int s' 1 t) noFill_tuple_mul F.fills_int_mul F.slot_int_rmul repeat_tuple F.slot_int_index.lookup
      (call_meets F.slot_int_rmul (typeIs_int s 1 t) F.entry_int_rmul (F.args_int_rmul_2 _ _) (int_rmul_tuple 1 t l #[a] n dd sl)
        ⟨ho, rfl, ⟨_, ho, rfl⟩, call_meets F.slot_tuple_mul ⟨_, ho, rfl⟩ F.entry_tuple_mul (F.args_tuple_mul_2 _ _) (tup_mul1 l a n dd sl t) ⟨ho, ?_⟩⟩)
    exact ⟨.ref l, H, I, rfl, q⟩
  · obtain ⟨t, rfl⟩ := ry
    refine wpAny_binaryOp_repeat_ref (T := "tuple") (U := "int") (by decide) ⟨_, ho, rfl⟩ (fun s' => typeIs_int s' 0 t) noFill_tuple_mul F.fills_int_mul F.slot_int_rmul repeat_tuple F.slot_int_index.lookup
      (call_meets F.slot_int_rmul (typeIs_int s 0 t) F.entry_int_rmul (F.args_int_rmul_2 _ _) (int_rmul_tuple 0 t l #[a] n dd sl)
        ⟨ho, rfl, ⟨_, ho, rfl⟩, call_meets F.slot_tuple_mul ⟨_, ho, rfl⟩ F.entry_tuple_mul (F.args_tuple_mul_2 _ _) (tup_mul0 l a n dd sl t) ⟨ho, ?_⟩⟩)
    refine ⟨.ref s.heap.objs.size, _, I.laid (t' := s.toks) (o := .tup []) (fun b ob q => Heap.get?_push_of_some _ q) (Nat.le_refl _) ?_, rfl, q _ (I.hok.fresh (Nat.le_refl _))⟩
    exact ⟨Nat.zero_le _, [], .nil, IsTup.new _ _⟩
end

/-! ### enumerate(tuple) -/
theorem enum_newT (l : Addr) (items : Array Value) (n : Nat) (dct : Option Addr) (sl : Array (Option Value)) :
    Meets (Builtin.«enumerate.__new__» ⟨[.type "enumerate", .ref l], []⟩) (fun _ R s => s.heap.get? l = some { cls := .type "tuple", dict := dct, data := .seq items n, slots := sl } ∧
      R (.ok (.ret (.ref (s.heap.push { cls := .type "tuple_iterator", data := .fields #[.ref l, .int 0 0] }).objs.size)))
        { s with heap := (s.heap.push { cls := .type "tuple_iterator", data := .fields #[.ref l, .int 0 0] }).push { cls := .type "enumerate", data := .fields #[.none, .bool false, .ref s.heap.objs.size, rawInt 0, .none, .none] } }) :=
  .of_wp fun prog w A R s h => by
    obtain ⟨hp, g, d, tk, os⟩ := s; obtain ⟨hl, h⟩ := h
    have hsub := sub_enumerate
    have hL : Heap.IsTuple (Shared.heap ⟨hp, g, d, tk, os⟩) l items := ⟨_, hl, rfl, n, rfl⟩
    wp_walk using AutoSeq1.wpAny_loadPart' hl
    refine wpAny_stack_any fun st => wpAny_pure ?_
    split
    · rename_i c _ _ _ _ _
      cases (c == Value.type "enumerate") <;> (wp_walk using AutoSeq1.wpAny_loadPart' hl, wpAny_pyIter_tuple hL; exact ⟨_, rfl, h⟩)
    · wp_walk using AutoSeq1.wpAny_loadPart' hl, wpAny_pyIter_tuple hL
      exact ⟨_, rfl, h⟩
theorem call_enumT {prog : Program} {w : World} {A : Around} {E : Value → Shared → Prop} {s : Shared} {l : Addr} {items : Array Value} {Q : Value → Shared → Prop} (hL : s.heap.IsTuple l items)
    (h : ∀ h', IsEnum h' (s.heap.objs.size + 1) s.heap.objs.size 0 .none → h'.IsTupleIter s.heap.objs.size l 0 → h'.objs.size = s.heap.objs.size + 2 →
      (∀ b o, s.heap.get? b = some o → h'.get? b = some o) → Q (.ref (s.heap.objs.size + 1)) { s with heap := h' }) :
    wpAny (model prog w) A (call (.type "enumerate") [.ref l]) Q E s := by
  obtain ⟨⟨c, dct, dt, sl⟩, hl, hc, n, hd⟩ := hL
  simp only at hc hd
  subst hc hd
  refine callType_new F.called_enumerate (by decide) (F.typeCall_enumerate_1 _) (F.newCall_enumerate_1 _) (fun obj => F.args_object_init_2 obj _) F.entry_enumerate_new (enum_newT l items n dct sl) ⟨hl, ?_⟩
  generalize ho : ({ cls := .type "tuple_iterator", data := .fields #[.ref l, .int 0 0] } : Obj) = o1
  have f1 : o1.isFreed = false := by rw [← ho]; rfl
  generalize hp : ({ cls := .type "enumerate", data := .fields #[.none, .bool false, .ref s.heap.objs.size, rawInt 0, .none, .none] } : Obj) = o2
  have f2 : o2.isFreed = false := by rw [← hp]; rfl
  have hz : (s.heap.push o1).objs.size = s.heap.objs.size + 1 := Heap.size_push ..
  have hg := Heap.get?_push_size (s.heap.push o1) (o := o2) f2
  show _ ∧ _
  rw [hz] at hg ⊢
  have he : IsEnum ((s.heap.push o1).push o2) (s.heap.objs.size + 1) s.heap.objs.size 0 .none := by rw [hp.symm] at hg ⊢; exact hg
  refine ⟨⟨_, he, rfl⟩, h _ he ⟨_, Heap.get?_push_of_some _ (Heap.get?_push_size _ f1), by rw [← ho], by rw [← ho]; rfl⟩ (by rw [Heap.size_push, hz]) fun b o x => Heap.get?_push_of_some _ (Heap.get?_push_of_some _ x)⟩
/-- the tuple at a, each item in a new pair -/
def Itet (K : PySem.W.Frag) (a : Addr) : It :=
  ⟨fun i H => ∃ (xs : List V) (x : V), SqT K H a xs ∧ xs[i]? = some x, fun i H v H' => ∃ T x, v = .ref T ∧ H T = none ∧ H' = upd H T (.tup [.int (i : Nat), x]) ∧ ∀ xs, SqT K H a xs → xs[i]? = some x,
    fun i H => ∃ xs : List V, SqT K H a xs ∧ xs.length ≤ i⟩
theorem turn_enumT {P : Program} {w : World} {K : PySem.W.Frag} {elts : List Expr} {kk : Nat} {tpos : Pos} (a e it : Addr) :
    Turn P w K (.Tuple elts kk tpos) (Itet K a) [e, it] e (fun i h => (∃ old, IsEnum h e it ((i : Nat) : Int) old) ∧ h.IsTupleIter it a i ∧ e ≠ it) where
  mem := by simp
  obj := fun i h st b hb => by
    obtain ⟨⟨old, he⟩, ⟨o, ho, hc, hd⟩, _⟩ := st
    rcases (show b = e ∨ b = it by simpa using hb) with rfl | rfl
    · exact ⟨_, he, fun v q => nomatch q⟩
    · exact ⟨o, ho, fun v q => by rw [hd] at q; cases q⟩
  keep := fun i h h' st k => let ⟨⟨old, he⟩, hi, hne⟩ := st; ⟨⟨old, k e (by simp) _ he⟩, hi.at fun o q => k it (by simp) o q, hne⟩
  item := by
    intro X hP hw hK hc i pins s σ H E I hf st hg
    subst hP hw hK
    obtain ⟨⟨old, he⟩, hit, hne⟩ := st
    obtain ⟨xs, x, hq, hx⟩ := hg
    obtain ⟨its, rv, pt, hz⟩ := I.tuple hq
    have hT : s.heap.IsTuple a its.toArray := pt
    obtain ⟨u, hu, ru⟩ := rv.get hx
    have hel : e < s.heap.objs.size := Heap.lt_size he
    have hil : it < s.heap.objs.size := by obtain ⟨_, q, _⟩ := hit; exact Heap.lt_size q
    have nai : a ≠ it := fun z => by
      subst z
      obtain ⟨o1, q1, c1, _⟩ := hit
      obtain ⟨o2, q2, c2, _⟩ := hT
      rw [q1] at q2; cases q2
      rw [c1] at c2; exact absurd c2 (by decide)
    have nea : e ≠ a := fun z => by
      subst z
      obtain ⟨o2, q2, c2, _⟩ := hT
      have he' : s.heap.get? e = _ := he
      rw [he'] at q2; cases q2
      exact absurd (show Value.type "enumerate" = Value.type "tuple" from c2) (by decide)
    have hi : i < its.toArray.size := by
      have := (List.getElem?_eq_some_iff.mp hu).1
      simpa using this
    refine wpAny_pyNext_enum_itemD (Draws.tuple (A := X.A.in1) (I.ok.hd hc) it a nai its.toArray) he ⟨hit, hT⟩ hi hne (by simp [hne, nea]) fun y h' tk hy ho hit' hT' hsz hk => ?_
    obtain rfl : y = u := by
      have hy' : its.toArray[i]? = some y := hy
      rw [List.getElem?_toArray, hu] at hy'
      exact (Option.some.inj hy').symm
    refine ⟨_, rfl, wpAny_letOwnedTupleGo_enum (s := { s with heap := h', toks := tk + 1 }) ho fun h'' he' sb => ?_⟩
    have hT2 : h''.get? s.heap.objs.size = some { cls := .type "tuple", data := .seq #[.int i tk, y] } := (sb.2 _ (Nat.ne_of_gt hel)).trans hT'
    have new : ObjOk X.prog X.w (upd H s.heap.objs.size (.tup [.int (i : Nat), x])) h'' s.heap.objs.size (.tup [.int (i : Nat), x]) :=
      ⟨by show 2 ≤ sizeLine; decide, [.int i tk, y], .cons ⟨_, rfl⟩ (.cons ru .nil), ⟨_, hT2, rfl, _, rfl⟩⟩
    have I1 := I.turnedNew (t' := tk + 1) (ch := [e, it]) (fun b ob hb q => (sb.2 b (fun z => hb (by simp [z]))).trans (hk b ob (fun z => hb (by simp [z])) (fun z => hb (by simp [z])) q)) hf (Nat.le_refl _) new
    refine ⟨.ref s.heap.objs.size, _, I1, rfl, ⟨_, x, rfl, I.hok.fresh (Nat.le_refl _), rfl, fun ys hys => by rw [I.tuple_inj hys hq]; exact hx⟩, ⟨⟨y, ?_⟩, hit'.1.at fun o q => (sb.2 it (Ne.symm hne)).trans q, hne⟩, fun b hb => ?_⟩
    · rw [show ((i + 1 : Nat) : Int) = (i : Int) + 1 by omega]; exact he'
    · have hb' : b < s.heap.objs.size := by
        rcases (show b = e ∨ b = it by simpa using hb) with rfl | rfl
        · exact hel
        · exact hil
      rw [upd_ne (Nat.ne_of_lt hb')]
      exact (hf b hb).1
  done := by
    intro X hP hw hK hc i pins s σ H E I hf st hg
    subst hP hw hK
    obtain ⟨⟨old, he⟩, hit, hne⟩ := st
    obtain ⟨xs, hq, hx⟩ := hg
    obtain ⟨its, rv, pt, hz⟩ := I.tuple hq
    have hT : s.heap.IsTuple a its.toArray := pt
    obtain ⟨f0, f1, f2, f3, f4, f5⟩ := hf it (by simp)
    have hl := rv.length
    have hT : s.TypeIs (.ref e) "enumerate" := ⟨_, he, rfl⟩
    unfold pyNext
    refine wpAny_bind (wpAny_attempt (wpAny_callSpecial?_slot (name := Str.ofString "__next__") hT F.slot_enumerate_next (wpAny_call_entry F.slot_enumerate_next hT F.entry_enumerate_next ?_ (F.args_enumerate_next_1 _))))
    show wpAny _ _ (field (.ref e) 2 >>= _) _ _ _
    refine wpAny_bind (wpAny_field he rfl (x := .ref it) rfl ?_)
    refine wpAny_bind (wpAny_nextOf_tuple_end (I.ok.hd hc) hit pt (by simp; omega) fun h' x eb hx' => ?_)
    obtain ⟨o, ho, hcx⟩ := hx'
    refine wpAny_bind (wpAny_isInstance (T := "StopIteration") (b := true) ⟨o, ho, hcx⟩ isSubtype_stop ?_)
    exact wpAny_pure ⟨rfl, I.turned (t' := s.toks) (fun b o hb q => eb b o hb q) f0 f1 f3 f4 f5⟩
  self := fun A i s Q E st h => let ⟨⟨_, he⟩, _⟩ := st; wpAny_pyIter_enum he h
def iEnumT (K : PySem.W.Frag) (ta : TA) : TI := fun σ H R => ta σ H fun vs H1 => ∃ a xs, vs = [.ref a] ∧ SqT K H1 a xs ∧ R (Itet K a) H1
theorem pi_enumT {X : Cx} {e : Expr} {ta : TA} {p pos tpos : Pos} {elts : List Expr} {kk : Nat} (hg : Gl X "enumerate") (hm : X.mg "enumerate" = none) (ha : PA X [e] ta)
    (hs : starEach [e] X.env = [(false, eval e X.env)] := by rfl) : PI X (.Tuple elts kk tpos) (.Call (.Name "enumerate" p) [e] [] pos) (iEnumT X.K ta) := by
  refine ⟨fun pins s σ H R I h => Call_ (ld_blt I hg hm boot_enumerate (PyProof.Rows.callWith_type1 (thn (ha.run pos pins s σ H _ I h) fun us s1 ⟨vs, H1, I1, r1, a, xs, ex, hq, q⟩ => ?_) hs rfl))⟩
  subst ex
  obtain ⟨u, rfl, rx⟩ := vals1 r1
  cases rx
  obtain ⟨its, rv, pt, hz⟩ := I1.tuple hq
  refine call_enumT pt fun h' he hit hsz hk => wpAny_pyIter_enum he ?_
  refine ⟨s1.heap.objs.size + 1, [s1.heap.objs.size + 1, s1.heap.objs.size], _, _, H1, rfl, I1.kept (t' := s1.toks) hk, turn_enumT a (s1.heap.objs.size + 1) s1.heap.objs.size, ⟨⟨.none, he⟩, hit, Nat.succ_ne_self _⟩, fun b hb => ?_, q⟩
  have hle : s1.heap.objs.size ≤ b := by
    rcases (show b = s1.heap.objs.size + 1 ∨ b = s1.heap.objs.size by simpa using hb) with rfl | rfl
    · exact Nat.le_add_right _ _
    · exact Nat.le_refl _
  exact I1.fpOk hle (I1.hok.fresh hle)
theorem walk_enumT {K : PySem.W.Frag} {a : Addr} {xs : List V} : Walk (Itet K a) xs.length (fun H => SqT K H a xs) (YPair (fun i => some (.int (i : Nat))) (fun i => xs[i]?)) := by
  refine ⟨fun i _ hi q => ⟨xs, xs[i], q, by simp [hi]⟩, fun _ q => ⟨xs, q, Nat.le_refl _⟩, fun i H v H' _ q y => ?_⟩
  obtain ⟨T, x, h1, h2, h3, h4⟩ := y
  exact ⟨T, .int (i : Nat), x, h1, h2, h3, rfl, h4 xs q⟩
end Pr
namespace Pr
open PySem PySem.Spec PyProof.Rows L2
/-! ### data that repr can show: how deep, how long -/
structure Shw (dep n : Nat) (d : PyData) : Prop where
  sh : d.showable = true
  nd : d.hasDict = false
  dp : d.depth ≤ dep
  ln : d.shown.length ≤ n
theorem Shw.mono {dep dep' n n' : Nat} {d : PyData} (h : Shw dep n d) (h1 : dep ≤ dep') (h2 : n ≤ n') : Shw dep' n' d := ⟨h.sh, h.nd, Nat.le_trans h.dp h1, Nat.le_trans h.ln h2⟩
theorem Shw.int {i : Int} {k : Nat} (h0 : 0 ≤ i) (hk : 0 < k) (hk2 : k ≤ 100) (h : i < 10 ^ k) : Shw 0 k (.int i) := by
  refine ⟨?_, by simp only [PyData.hasDict], by simp [PyData.depth], ?_⟩
  · simp only [PyData.showable, decide_eq_true_eq]
    by_cases hz : i.natAbs = 0
    · rw [hz]; decide
    · refine (Nat.log2_lt hz).mpr ?_
      have h1 : (i.natAbs : Int) < ((10 ^ k : Nat) : Int) := by
        rw [Int.natCast_pow]
        have : ((i.natAbs : Nat) : Int) = i := Int.natAbs_of_nonneg h0
        rw [this]; exact h
      have h2 : i.natAbs < 10 ^ k := by exact_mod_cast h1
      have h3 : (10 : Nat) ^ k ≤ 10 ^ 100 := Nat.pow_le_pow_right (by decide) hk2
      have h4 : (10 : Nat) ^ 100 < 2 ^ 1920 := by decide +kernel
      omega
  · simp only [PyData.shown]
    exact toString_length_le h0 hk h
theorem shownAll_map : ∀ ds : List PyData, PyData.shownAll ds = ds.map PyData.shown
  | [] => rfl
  | d :: r => by simp only [PyData.shownAll, List.map_cons, shownAll_map r]
theorem piled_le {n : Nat} : ∀ {ds : List PyData}, (∀ d ∈ ds, d.shown.length ≤ n) → piled (ds.map PyData.shown) ≤ ds.length * (n + 2)
  | [], _ => by simp [piled_nil]
  | d :: r, h => by
    have h1 := piled_le (ds := r) fun x hx => h x (List.mem_cons_of_mem _ hx)
    have h2 := h d List.mem_cons_self
    rw [List.map_cons, piled_cons, List.length_cons, Nat.succ_mul]
    omega
theorem showAll_of {dep n : Nat} : ∀ {ds : List PyData}, (∀ d ∈ ds, Shw dep n d) → PyData.showableAll ds = true ∧ PyData.hasDictAll ds = false ∧ PyData.depthAll ds ≤ dep
  | [], _ => ⟨by simp only [PyData.showableAll], by simp only [PyData.hasDictAll], by simp [PyData.depthAll]⟩
  | d :: r, h => by
    obtain ⟨h1, h2, h3⟩ := showAll_of (ds := r) fun x hx => h x (List.mem_cons_of_mem _ hx)
    have g := h d List.mem_cons_self
    refine ⟨by simp only [PyData.showableAll, g.sh, h1, Bool.and_self], by simp only [PyData.hasDictAll, g.nd, h2, Bool.or_self], ?_⟩
    simp only [PyData.depthAll]
    exact Nat.max_le.mpr ⟨g.dp, h3⟩
theorem tupleText_len (ts : List Str) : (tupleText ts).length ≤ piled ts + 3 := by
  unfold tupleText
  rw [strLen_append, strLen_append]
  have e1 : (("(" : Str)).length = 1 := by decide +kernel
  have e2 : ((if ts.length == 1 then ",)" else ")" : String) : Str).length ≤ 2 := by
    cases ts.length == 1 <;> decide +kernel
  by_cases h : ts = []
  · subst h
    have : (Str.join ", " ([] : List Str)).length = 0 := by decide +kernel
    omega
  · have := join_length_add ts h
    omega
theorem textFrom_le : ∀ (ts : List Str) (k : Nat) (acc : Str), (textFrom k acc ts).length ≤ acc.length + piled ts
  | [], k, acc => by simp [textFrom, piled_nil]
  | t :: r, k, acc => by
    have h := textFrom_le r (k + 1) (acc ++ (if k > 0 then ", " else "" : String) ++ t)
    rw [piled_cons]
    show (textFrom (k + 1) _ r).length ≤ _
    have e : ((if k > 0 then ", " else "" : String) : Str).length ≤ 2 := by split <;> decide +kernel
    rw [strLen_append, strLen_append] at h
    omega
theorem listText_len (ts : List Str) : (listText ts).length ≤ piled ts + 2 := by
  unfold listText
  rw [strLen_append]
  have h := textFrom_le ts 0 "["
  have e1 : (("[" : Str)).length = 1 := by decide +kernel
  have e2 : (("]" : Str)).length = 1 := by decide +kernel
  omega
theorem Shw.tuple {dep n m : Nat} {ds : List PyData} (h : ∀ d ∈ ds, Shw dep n d) (hm : ds.length ≤ m) : Shw (dep + 1) (m * (n + 2) + 3) (.tuple ds) := by
  obtain ⟨h1, h2, h3⟩ := showAll_of h
  refine ⟨by simp only [PyData.showable, h1], by simp only [PyData.hasDict, h2], by simp only [PyData.depth]; omega, ?_⟩
  simp only [PyData.shown]
  rw [shownAll_map]
  have a1 := tupleText_len (ds.map PyData.shown)
  have a2 := piled_le fun d hd => (h d hd).ln
  have a3 : ds.length * (n + 2) ≤ m * (n + 2) := Nat.mul_le_mul_right _ hm
  omega
theorem Shw.list {dep n m : Nat} {ds : List PyData} (h : ∀ d ∈ ds, Shw dep n d) (hm : ds.length ≤ m) : Shw (dep + 1) (m * (n + 2) + 3) (.list ds) := by
  obtain ⟨h1, h2, h3⟩ := showAll_of h
  refine ⟨by simp only [PyData.showable, h1], by simp only [PyData.hasDict, h2], by simp only [PyData.depth]; omega, ?_⟩
  simp only [PyData.shown]
  rw [shownAll_map]
  have a1 := listText_len (ds.map PyData.shown)
  have a2 := piled_le fun d hd => (h d hd).ln
  have a3 : ds.length * (n + 2) ≤ m * (n + 2) := Nat.mul_le_mul_right _ hm
  omega

/-! ### the deck, panels -/
/-- only what stands at a and c may have changed -/
def But (a c : Addr) (H H' : Hp) : Prop := ∀ b o, b ≠ a → b ≠ c → H b = some o → H' b = some o
theorem But.refl (a c : Addr) (H : Hp) : But a c H H := fun _ _ _ _ h => h
theorem But.trans {a c : Addr} {H H1 H2 : Hp} (x : But a c H H1) (y : But a c H1 H2) : But a c H H2 := fun b o h1 h2 h => y b o h1 h2 (x b o h1 h2 h)
theorem But.of {a c : Addr} {H H' : Hp} (x : Same H H') : But a c H H' := fun b o _ _ h => x b o h
theorem same_new {H : Hp} {p : Addr} {o : HO} (h : H p = none) : Same H (upd H p o) := fun b x e => by
  rw [upd_ne (ne_of_none e h)]; exact e
/-- the deck at a, its cells at c, m draws may still be made -/
def Deck (H : Hp) (a c : Addr) (m : Nat) : Prop :=
  ∃ (cells : List Int) (n : Nat), H a = some (.lst [.ref c, .int (n : Int)]) ∧ H c = some (.lst (cells.map V.int)) ∧ a ≠ c ∧ cells.length ≤ 63 ∧ n + m ≤ 1000000
theorem Deck.same {H H' : Hp} {a c : Addr} {m : Nat} (e : Same H H') (h : Deck H a c m) : Deck H' a c m :=
  let ⟨cs, n, h1, h2, h3⟩ := h; ⟨cs, n, e _ _ h1, e _ _ h2, h3⟩
theorem Deck.less {H : Hp} {a c : Addr} {m m' : Nat} (h : Deck H a c m) (z : m' ≤ m) : Deck H a c m' :=
  let ⟨cs, n, h1, h2, h3, h4, h5⟩ := h; ⟨cs, n, h1, h2, h3, h4, by omega⟩
theorem Deck.apart {H : Hp} {a c : Addr} {m : Nat} (h : Deck H a c m) {b : Addr} {o : HO} (e : H b = some o) (ho : ∀ xs, o ≠ .lst xs) : b ≠ a ∧ b ≠ c := by
  obtain ⟨cs, n, h1, h2, _⟩ := h
  exact ⟨ne_of e h1 (ho _), ne_of e h2 (ho _)⟩
theorem Deck.fresh {H : Hp} {a c : Addr} {m : Nat} (h : Deck H a c m) {b : Addr} (e : H b = none) : b ≠ a ∧ b ≠ c := by
  obtain ⟨cs, n, h1, h2, _⟩ := h
  exact ⟨Ne.symm (ne_of_none h1 e), Ne.symm (ne_of_none h2 e)⟩
theorem FT.but {H H' : Hp} {a c p : Addr} {m : Nat} {xs : List V} (d : Deck H a c m) (b : But a c H H') (h : FT H p xs) : FT H' p xs := by
  obtain ⟨o, e, z⟩ := h
  have q := d.apart e (fun _ => by intro z; cases z)
  exact ⟨o, b _ _ q.1 q.2 e, z⟩
theorem tup_but {H H' : Hp} {a c p : Addr} {m : Nat} {xs : List V} (d : Deck H a c m) (b : But a c H H') (h : H p = some (.tup xs)) : H' p = some (.tup xs) := by
  have q := d.apart h (fun _ => by intro z; cases z)
  exact b _ _ q.1 q.2 h
/-- a panel at p -/
def PanAt (H : Hp) (p : Addr) (pan : List (List Int)) : Prop := ∃ qs : List Addr, FT H p (qs.map V.ref) ∧ Paired (fun q l => FT H q (l.map V.int)) qs pan
theorem PanAt.same {H H' : Hp} {p : Addr} {pan : List (List Int)} (e : Same H H') (h : PanAt H p pan) : PanAt H' p pan :=
  let ⟨qs, h1, h2⟩ := h; ⟨qs, h1.same e, h2.mono fun _ _ x => x.same e⟩
theorem PanAt.but {H H' : Hp} {a c p : Addr} {m : Nat} {pan : List (List Int)} (d : Deck H a c m) (b : But a c H H') (h : PanAt H p pan) : PanAt H' p pan :=
  let ⟨qs, h1, h2⟩ := h; ⟨qs, h1.but d b, h2.mono fun _ _ x => x.but d b⟩
theorem paired_get {α β : Type} {F : α → β → Prop} : ∀ {l1 : List α} {l2 : List β}, Paired F l1 l2 → ∀ (i : Nat) (y : β), l2[i]? = some y → ∃ x, l1[i]? = some x ∧ F x y
  | _, _, .nil, i, y, h => by simp at h
  | _, _, .cons r t, 0, y, h => by simp at h; subst h; exact ⟨_, rfl, r⟩
  | _, _, .cons r t, i + 1, y, h => by
    obtain ⟨x, h1, h2⟩ := paired_get t i y (by simpa using h)
    exact ⟨x, by simpa using h1, h2⟩
/-- what the document calls a panel of at most ten buttons -/
structure Good (pan : List (List Int)) : Prop where
  pos : 1 ≤ pan.length
  few : pan.length ≤ 10
  up : ∀ l ∈ pan, l.Pairwise (· < ·)
  rng : ∀ l ∈ pan, ∀ x ∈ l, 0 ≤ x ∧ x < (pan.length : Int)
  own : ∀ (i : Nat) (l : List Int), pan[i]? = some l → (i : Int) ∉ l
def dInts (l : List Int) : PyData := .tuple (l.map PyData.int)
def dPan (pan : List (List Int)) : PyData := .tuple (pan.map dInts)
section
variable {K : PySem.W.Frag} {H : Hp}
theorem dpAll_ints : ∀ l : List Int, DpAll K H (l.map V.int) (l.map PyData.int)
  | [] => .nil
  | x :: r => .cons (.int x) (dpAll_ints r)
theorem dp_ints {q : Addr} {l : List Int} (h : SqT K H q (l.map V.int)) : Dp K H (.ref q) (dInts l) := .tup h (dpAll_ints l)
theorem dpAll_pan : ∀ {qs : List Addr} {pan : List (List Int)}, Paired (fun q l => FT H q (l.map V.int)) qs pan → DpAll K H (qs.map V.ref) (pan.map dInts)
  | _, _, .nil => .nil
  | _, _, .cons r t => .cons (dp_ints r.sq) (dpAll_pan t)
theorem PanAt.dp {p : Addr} {pan : List (List Int)} (h : PanAt H p pan) : Dp K H (.ref p) (dPan pan) := by
  obtain ⟨qs, h1, h2⟩ := h
  exact .tup h1.sq (dpAll_pan h2)
end
theorem pw_length {n : Nat} : ∀ {l : List Int} {lo : Int}, l.Pairwise (· < ·) → (∀ x ∈ l, lo ≤ x ∧ x < lo + n) → l.length ≤ n := by
  induction n with
  | zero =>
    intro l lo _ h
    cases l with
    | nil => exact Nat.le_refl _
    | cons x r => have := h x List.mem_cons_self; omega
  | succ n ih =>
    intro l lo hp h
    cases l with
    | nil => exact Nat.zero_le _
    | cons x r =>
      have hx := h x List.mem_cons_self
      rw [List.pairwise_cons] at hp
      have := ih (l := r) (lo := lo + 1) hp.2 fun y hy => by
        have h1 := hp.1 y hy
        have h2 := h y (List.mem_cons_of_mem _ hy)
        omega
      rw [List.length_cons]; omega
theorem shw_ints {l : List Int} {m : Nat} (hl : l.length ≤ m) (h : ∀ x ∈ l, 0 ≤ x ∧ x < 10) : Shw 1 (m * 3 + 3) (dInts l) := by
  refine Shw.tuple (fun d hd => ?_) (by rw [List.length_map]; exact hl)
  obtain ⟨x, hx, rfl⟩ := List.mem_map.mp hd
  exact Shw.int (h x hx).1 (by decide) (by decide) (h x hx).2
theorem Good.shw {pan : List (List Int)} (g : Good pan) : Shw 2 353 (dPan pan) := by
  have := Shw.tuple (dep := 1) (n := 33) (m := 10) (ds := pan.map dInts) (fun d hd => ?_) (by rw [List.length_map]; exact g.few)
  · exact this
  · obtain ⟨l, hl, rfl⟩ := List.mem_map.mp hd
    have hf := g.few
    refine shw_ints (m := 10) (pw_length (n := 10) (lo := 0) (g.up l hl) fun x hx => ?_) fun x hx => ?_
    · have := g.rng l hl x hx; omega
    · have := g.rng l hl x hx; omega
end Pr
/-! Presses, as plain functions. -/
namespace Pr
open PySem PySem.Spec PyProof.Rows L2
def intL (n : Nat) : List Int := (List.range n).map fun i : Nat => (i : Int)
theorem mem_intL {n : Nat} {x : Int} : x ∈ intL n ↔ 0 ≤ x ∧ x < (n : Int) := by
  unfold intL
  rw [List.mem_map]
  constructor
  · rintro ⟨i, hi, rfl⟩
    have := List.mem_range.mp hi
    omega
  · rintro ⟨h0, h1⟩
    exact ⟨x.toNat, List.mem_range.mpr (by omega), Int.toNat_of_nonneg h0⟩
theorem intL_up (n : Nat) : (intL n).Pairwise (· < ·) := by
  unfold intL
  rw [List.pairwise_map]
  exact List.pairwise_lt_range.imp fun {a b} (h : a < b) => by omega
theorem intL_len (n : Nat) : (intL n).length = n := by unfold intL; rw [List.length_map, List.length_range]
theorem intL_succ (n : Nat) : intL (n + 1) = intL n ++ [(n : Int)] := by unfold intL; rw [List.range_succ, List.map_append]; rfl
/-- a state of n buttons -/
structure Asc (n : Nat) (st : List Int) : Prop where
  up : st.Pairwise (· < ·)
  rng : ∀ x ∈ st, 0 ≤ x ∧ x < (n : Int)
theorem Asc.nil (n : Nat) : Asc n [] := ⟨List.Pairwise.nil, fun _ h => by cases h⟩
theorem Asc.full (n : Nat) : Asc n (intL n) := ⟨intL_up n, fun _ h => mem_intL.mp h⟩
theorem Asc.filter (n : Nat) (f : Int → Bool) : Asc n ((intL n).filter f) := ⟨(intL_up n).filter f, fun _ h => mem_intL.mp (List.mem_filter.mp h).1⟩
theorem Asc.len {n : Nat} {st : List Int} (h : Asc n st) : st.length ≤ n := pw_length (lo := 0) h.up fun x hx => by have := h.rng x hx; omega
theorem asc_ext : ∀ {l1 l2 : List Int}, l1.Pairwise (· < ·) → l2.Pairwise (· < ·) → (∀ x, x ∈ l1 ↔ x ∈ l2) → l1 = l2
  | [], [], _, _, _ => rfl
  | [], y :: r, _, _, h => absurd ((h y).mpr List.mem_cons_self) (by simp)
  | x :: r, [], _, _, h => absurd ((h x).mp List.mem_cons_self) (by simp)
  | x :: r, y :: t, h1, h2, h => by
    rw [List.pairwise_cons] at h1 h2
    have exy : x = y := by
      rcases List.mem_cons.mp ((h x).mp List.mem_cons_self) with e | e
      · exact e
      · rcases List.mem_cons.mp ((h y).mpr List.mem_cons_self) with e' | e'
        · exact e'.symm
        · have a1 := h2.1 x e
          have a2 := h1.1 y e'
          omega
    subst exy
    have : r = t := asc_ext h1.2 h2.2 fun z => by
      constructor
      · intro hz
        rcases List.mem_cons.mp ((h z).mp (List.mem_cons_of_mem _ hz)) with e | e
        · have := h1.1 z hz; omega
        · exact e
      · intro hz
        rcases List.mem_cons.mp ((h z).mpr (List.mem_cons_of_mem _ hz)) with e | e
        · have := h2.1 z hz; omega
        · exact e
    rw [this]
theorem Asc.eq {n : Nat} {st : List Int} (h : Asc n st) : (intL n).filter (fun x => decide (x ∈ st)) = st :=
  asc_ext ((intL_up n).filter _) h.up fun x => by
    rw [List.mem_filter, decide_eq_true_eq, mem_intL]
    exact ⟨fun q => q.2, fun q => ⟨h.rng x q, q⟩⟩
def pressM (pan : List (List Int)) (st : List Int) (b : Int) : List Int := (intL pan.length).filter fun x => decide (x = b ∨ (x ∈ st ∧ x ∉ pan.getD b.toNat []))
def runM (pan : List (List Int)) (st : List Int) (row : List Int) : List Int := row.foldl (pressM pan) st
theorem pressM_asc (pan : List (List Int)) (st : List Int) (b : Int) : Asc pan.length (pressM pan st b) := Asc.filter _ _
theorem runM_asc {pan : List (List Int)} : ∀ {row st : List Int}, Asc pan.length st → Asc pan.length (runM pan st row)
  | [], _, h => h
  | b :: r, st, _ => runM_asc (row := r) (pressM_asc pan st b)
theorem mem_pressM {pan : List (List Int)} {st : List Int} {b x : Int} : x ∈ pressM pan st b ↔ (0 ≤ x ∧ x < (pan.length : Int)) ∧ (x = b ∨ (x ∈ st ∧ x ∉ pan.getD b.toNat [])) := by
  unfold pressM
  rw [List.mem_filter, decide_eq_true_eq, mem_intL]
theorem runM_take {pan : List (List Int)} {st row : List Int} {k : Nat} {b : Int} (h : row[k]? = some b) : runM pan st (row.take (k + 1)) = pressM pan (runM pan st (row.take k)) b := by
  unfold runM
  rw [List.take_add_one, h, List.foldl_append]; rfl
/-- what press_button makes: the kept ones and the button, sorted -/
theorem press_sorted {pan : List (List Int)} {st : List Int} {b : Int} {ns : List Int} (hs : Asc pan.length st) (h0 : 0 ≤ b) (h1 : b < (pan.length : Int))
    (hp : ns.Perm (st.filter (fun x => decide (x ≠ b ∧ x ∉ pan.getD b.toNat [])) ++ [b])) (hle : ns.Pairwise (· ≤ ·)) : ns = pressM pan st b := by
  have nd0 : (st.filter (fun x => decide (x ≠ b ∧ x ∉ pan.getD b.toNat [])) ++ [b]).Nodup := by
    refine List.nodup_append.mpr ⟨(hs.up.imp fun {x y} (q : x < y) => by omega : st.Nodup).filter _, by simp, fun x hx y hy e => ?_⟩
    rw [List.mem_singleton] at hy
    have := (List.mem_filter.mp hx).2
    rw [decide_eq_true_eq] at this
    exact this.1 (e.trans hy)
  have nd : ns.Nodup := hp.nodup_iff.mpr nd0
  have up : ns.Pairwise (· < ·) := (hle.and nd).imp fun {x y} (q : x ≤ y ∧ x ≠ y) => by omega
  refine asc_ext up (pressM_asc pan st b).up fun x => ?_
  rw [hp.mem_iff, mem_pressM, List.mem_append, List.mem_filter, decide_eq_true_eq, List.mem_singleton]
  constructor
  · rintro (⟨a1, a2⟩ | a)
    · exact ⟨hs.rng x a1, .inr ⟨a1, a2.2⟩⟩
    · subst a; exact ⟨⟨h0, h1⟩, .inl rfl⟩
  · rintro ⟨_, a | a⟩
    · exact .inr a
    · by_cases e : x = b
      · exact .inr e
      · exact .inl ⟨a.1, e, a.2⟩
/-- marks -/
def marks (n : Nat) (st : List Int) : List Bool := (List.range n).map fun i : Nat => decide ((i : Int) ∈ st)
theorem marks_len (n : Nat) (st : List Int) : (marks n st).length = n := by unfold marks; rw [List.length_map, List.length_range]
theorem marks_get {n : Nat} {st : List Int} {i : Nat} (h : i < n) : (marks n st)[i]? = some (decide ((i : Int) ∈ st)) := by
  unfold marks
  rw [List.getElem?_map, List.getElem?_range h]; rfl
theorem marks_set {pan : List (List Int)} {st : List Int} {b : Nat} (hb : b < pan.length) :
    ((List.range pan.length).map fun i : Nat => (decide ((i : Int) ∈ st) && !decide ((i : Int) ∈ pan.getD b []))).set b true = marks pan.length (pressM pan st (b : Int)) := by
  refine List.ext_getElem? fun i => ?_
  by_cases hi : i < pan.length
  · rw [marks_get hi, List.getElem?_set]
    by_cases e : b = i
    · subst e
      rw [if_pos rfl, if_pos (by rw [List.length_map, List.length_range]; exact hi)]
      congr 1
      exact (decide_eq_true (mem_pressM.mpr ⟨⟨by omega, by omega⟩, .inl rfl⟩)).symm
    · rw [if_neg e, List.getElem?_map, List.getElem?_range hi]
      show some _ = some _
      congr 1
      rw [Bool.eq_iff_iff, Bool.and_eq_true, decide_eq_true_eq, Bool.not_eq_true', decide_eq_false_iff_not, decide_eq_true_eq, mem_pressM, Int.toNat_natCast]
      constructor
      · rintro ⟨a, a'⟩
        exact ⟨⟨by omega, by omega⟩, .inr ⟨a, a'⟩⟩
      · rintro ⟨_, a | a⟩
        · omega
        · exact a
  · rw [List.getElem?_eq_none (by rw [List.length_set, List.length_map, List.length_range]; omega), List.getElem?_eq_none (by rw [marks_len]; omega)]
end Pr
/-! Effects, as plain functions; a tuple repeated; zip of two tuples. -/
namespace Pr
open PySem PySem.Spec PyProof.Rows L2
abbrev wSame : Str := "same"
abbrev wOn : Str := "on"
abbrev wOff : Str := "off"
/-- a press of b behind, where c had the word w -/
def wordM (pan : List (List Int)) (c : Int) (w : Str) (b : Int) : Str := if b = c then wOn else if c ∈ pan.getD b.toNat [] then wOff else w
def wordsM (pan : List (List Int)) (row : List Int) (c : Int) : Str := row.foldl (wordM pan c) wSame
def effM (pan : List (List Int)) (row : List Int) : List Str := (List.range pan.length).map fun c : Nat => wordsM pan row (c : Int)
def onM (l : List Int) (b : Int) (c : Nat) : Str := if (c : Int) ∈ l then wOff else if (c : Int) = b then wOn else wSame
def pressW (pan : List (List Int)) (b : Int) : List Str := (List.range pan.length).map (onM (pan.getD b.toNat []) b)
def joinM (xs ys : List Str) : List Str := List.zipWith (fun e l => if l = wSame then e else l) xs ys
theorem effM_len (pan : List (List Int)) (row : List Int) : (effM pan row).length = pan.length := by unfold effM; rw [List.length_map, List.length_range]
theorem pressW_len (pan : List (List Int)) (b : Int) : (pressW pan b).length = pan.length := by unfold pressW; rw [List.length_map, List.length_range]
theorem joinM_len {xs ys : List Str} (h : xs.length = ys.length) : (joinM xs ys).length = ys.length := by unfold joinM; rw [List.length_zipWith, h, Nat.min_self]
theorem effM_nil (pan : List (List Int)) : effM pan [] = List.replicate pan.length wSame := by
  unfold effM
  show (List.range pan.length).map (fun _ => wSame) = _
  rw [List.map_const', List.length_range]
theorem same_ne_on : wSame ≠ wOn := by decide +kernel
theorem same_ne_off : wSame ≠ wOff := by decide +kernel
theorem on_ne_off : wOn ≠ wOff := by decide +kernel
theorem Good.own' {pan : List (List Int)} (g : Good pan) {b : Int} (h0 : 0 ≤ b) (h1 : b < (pan.length : Int)) : b ∉ pan.getD b.toNat [] := by
  have hb : b.toNat < pan.length := by omega
  have := g.own b.toNat pan[b.toNat] (List.getElem?_eq_getElem hb)
  rw [List.getD_eq_getElem?_getD, List.getElem?_eq_getElem hb]
  rw [Int.toNat_of_nonneg h0] at this
  exact this
theorem wordM_join {pan : List (List Int)} (g : Good pan) {b : Int} (h0 : 0 ≤ b) (h1 : b < (pan.length : Int)) (c : Nat) (w : Str) :
    (if onM (pan.getD b.toNat []) b c = wSame then w else onM (pan.getD b.toNat []) b c) = wordM pan (c : Int) w b := by
  unfold onM wordM
  by_cases e : (c : Int) ∈ pan.getD b.toNat []
  · have hne : b ≠ (c : Int) := fun z => g.own' h0 h1 (z ▸ e)
    rw [if_pos e, if_neg hne, if_pos e, if_neg (Ne.symm same_ne_off)]
  · rw [if_neg e, if_neg e]
    by_cases e2 : (c : Int) = b
    · rw [if_pos e2, if_pos e2.symm, if_neg (Ne.symm same_ne_on)]
    · rw [if_neg e2, if_pos rfl, if_neg (Ne.symm e2)]
theorem eff_step {pan : List (List Int)} (g : Good pan) {b : Int} (h0 : 0 ≤ b) (h1 : b < (pan.length : Int)) (row : List Int) : joinM (effM pan row) (pressW pan b) = effM pan (row ++ [b]) := by
  unfold joinM effM pressW
  rw [List.zipWith_map, List.zipWith_self]
  refine List.map_congr_left fun c _ => ?_
  rw [wordM_join g h0 h1]
  unfold wordsM
  rw [List.foldl_append]; rfl
theorem eff_take {pan : List (List Int)} (g : Good pan) {row : List Int} {k : Nat} {b : Int} (hk : row[k]? = some b) (h0 : 0 ≤ b) (h1 : b < (pan.length : Int)) : joinM (effM pan (row.take k)) (pressW pan b) = effM pan (row.take (k + 1)) := by
  rw [eff_step g h0 h1, List.take_add_one, hk]; rfl
theorem word3 (pan : List (List Int)) (c : Int) : ∀ row : List Int, wordsM pan row c = wSame ∨ wordsM pan row c = wOn ∨ wordsM pan row c = wOff := by
  intro row
  unfold wordsM
  have : ∀ (l : List Int) (w : Str), (w = wSame ∨ w = wOn ∨ w = wOff) → (l.foldl (wordM pan c) w = wSame ∨ l.foldl (wordM pan c) w = wOn ∨ l.foldl (wordM pan c) w = wOff) := by
    intro l
    induction l with
    | nil => exact fun w h => h
    | cons b r ih =>
      intro w h
      rw [List.foldl_cons]
      refine ih _ ?_
      unfold wordM
      split
      · exact .inr (.inl rfl)
      · split
        · exact .inr (.inr rfl)
        · exact h
  exact this row _ (.inl rfl)
theorem eff3 {pan : List (List Int)} {row : List Int} {x : Str} (h : x ∈ effM pan row) : x = wSame ∨ x = wOn ∨ x = wOff := by
  unfold effM at h
  obtain ⟨c, _, rfl⟩ := List.mem_map.mp h
  exact word3 pan c row
theorem set_map_range {α : Type} (f : Nat → α) (n j : Nat) (v : α) : ((List.range n).map f).set j v = (List.range n).map fun c => if c = j then v else f c := by
  refine List.ext_getElem? fun i => ?_
  rw [List.getElem?_set, List.getElem?_map]
  by_cases h : i < n
  · rw [List.getElem?_map, List.getElem?_range h, List.length_map, List.length_range]
    by_cases e : j = i
    · subst e; rw [if_pos rfl, if_pos h]; simp
    · rw [if_neg e]; simp [Ne.symm e]
  · rw [List.getElem?_map, List.getElem?_eq_none (by rw [List.length_range]; omega), List.length_map, List.length_range]
    by_cases e : j = i
    · subst e; rw [if_pos rfl, if_neg h]; rfl
    · rw [if_neg e]; rfl
theorem replicate_map_range {α : Type} (n : Nat) (v : α) : List.replicate n v = (List.range n).map fun _ => v := by
  rw [List.map_const', List.length_range]
/-! ### data -/
def dStrs (l : List Str) : PyData := .tuple (l.map PyData.str)
theorem dpAll_strs {K : PySem.W.Frag} {H : Hp} : ∀ l : List Str, DpAll K H (l.map V.str) (l.map PyData.str)
  | [] => .nil
  | x :: r => .cons (.str x) (dpAll_strs r)
theorem dp_strs {K : PySem.W.Frag} {H : Hp} {q : Addr} {l : List Str} (h : SqT K H q (l.map V.str)) : Dp K H (.ref q) (dStrs l) := .tup h (dpAll_strs l)
theorem shw_word {x : Str} (h : x = wSame ∨ x = wOn ∨ x = wOff) : Shw 0 6 (.str x) := by
  refine ⟨by simp only [PyData.showable], by simp only [PyData.hasDict], by simp [PyData.depth], ?_⟩
  simp only [PyData.shown]
  rcases h with rfl | rfl | rfl <;> decide +kernel
theorem shw_words {l : List Str} {m : Nat} (hl : l.length ≤ m) (h : ∀ x ∈ l, x = wSame ∨ x = wOn ∨ x = wOff) : Shw 1 (m * 8 + 3) (dStrs l) := by
  refine Shw.tuple (fun d hd => ?_) (by rw [List.length_map]; exact hl)
  obtain ⟨x, hx, rfl⟩ := List.mem_map.mp hd
  exact shw_word (h x hx)
theorem shw_eff {pan : List (List Int)} (g : Good pan) (row : List Int) : Shw 1 83 (dStrs (effM pan row)) :=
  shw_words (m := 10) (by rw [effM_len]; exact g.few) fun _ h => eff3 h
/-! ### (x,) * n -/
section
variable {X : Cx}
def rRepS (K : PySem.W.Frag) : R2 := fun x y H Q => rRep1 K x y H Q ∨ rRepT K x y H Q
theorem op_repS : OpR X (binaryOp .Mult) (rRepS X.K) := by
  intro pins s σ H x y v u Q I rx ry h
  rcases h with h | h
  · exact op_rep1 pins s σ H x y v u Q I rx ry h
  · exact op_repT pins s σ H x y v u Q I rx ry h
end
theorem rep_flat {α : Type} (n : Nat) (v : α) : (List.replicate n [v]).flatten = List.replicate n v := by
  induction n with
  | zero => rfl
  | succ n ih => rw [List.replicate_succ, List.flatten_cons, ih]; rfl
/-! ### zip of tuples -/
theorem walk_zipT {K : PySem.W.Frag} {a b : Addr} {xs ys : List V} {n : Nat} (hn : n = min xs.length ys.length) : Walk (RZ.ItzT K a b) n (fun H => SqT K H a xs ∧ SqT K H b ys) (YPair (fun i => xs[i]?) (fun i => ys[i]?)) := by
  subst hn
  refine ⟨fun i _ hi q => ?_, fun _ q => ⟨xs, ys, q.1, q.2, by omega⟩, fun i H v H' _ q y => ?_⟩
  · have h1 : i < xs.length := by omega
    have h2 : i < ys.length := by omega
    exact ⟨xs, ys, xs[i], ys[i], q.1, q.2, by simp [h1], by simp [h2]⟩
  · obtain ⟨T, x, z, h1, h2, h3, h4, h5⟩ := y
    exact ⟨T, x, z, h1, h2, h3, h4 xs q.1, h5 ys q.2⟩
theorem str_get {os : List Str} {k : Nat} {x : V} (h : (os.map V.str)[k]? = some x) : ∃ z, os[k]? = some z ∧ x = .str z := by
  rw [List.getElem?_map] at h
  cases e : os[k]? with
  | none => rw [e] at h; cases h
  | some z => rw [e] at h; exact ⟨z, rfl, (Option.some.inj h).symm⟩
theorem int_get {os : List Int} {k : Nat} {x : V} (h : (os.map V.int)[k]? = some x) : ∃ z, os[k]? = some z ∧ x = .int z := by
  rw [List.getElem?_map] at h
  cases e : os[k]? with
  | none => rw [e] at h; cases h
  | some z => rw [e] at h; exact ⟨z, rfl, (Option.some.inj h).symm⟩
theorem joinM_get {xs ys : List Str} {i : Nat} {x y : Str} (hx : xs[i]? = some x) (hy : ys[i]? = some y) : (joinM xs ys)[i]? = some (if y = wSame then x else y) := by
  unfold joinM
  rw [List.getElem?_zipWith, hx, hy]
theorem ixN_nat {n j : Nat} (h : j < n) : ixN n (j : Int) = some j := by
  unfold ixN
  rw [if_pos (by omega), if_pos (by omega)]; rfl
theorem gen_heap {X : Hp} {R : Hp → Prop} (C : Hp → Prop) (hX : C X) (h : ∀ H', C H' → R H') : R X := h X hX
theorem gen_name {i : Nat} {v : V} {σ : L2.St} {X : Hp} {D : L2.St → Hp → Prop} (C : Hp → Prop) (hX : C X) (h : ∀ H', C H' → gName i v σ H' D) : gName i v σ X D := h X hX
theorem tyes {σ : L2.St} {H : Hp} {Q : Bool → Hp → Prop} (h : Q true H) : tYes σ H Q := h
theorem pan_at {H : Hp} {p : Addr} {pan : List (List Int)} (h : PanAt H p pan) {b : Int} (h0 : 0 ≤ b) (h1 : b < (pan.length : Int)) :
    ∃ (qs : List Addr) (q : Addr), FT H p (qs.map V.ref) ∧ atI (qs.map V.ref) b = some (.ref q) ∧ FT H q ((pan.getD b.toNat []).map V.int) ∧ qs.length = pan.length := by
  obtain ⟨qs, hq, hqs⟩ := h
  obtain ⟨n, rfl⟩ : ∃ n : Nat, b = (n : Int) := ⟨b.toNat, (Int.toNat_of_nonneg h0).symm⟩
  have hn : n < pan.length := by omega
  obtain ⟨q', g1, g2⟩ := paired_get hqs n pan[n] (List.getElem?_eq_getElem hn)
  refine ⟨qs, q', hq, atI_nat (by rw [List.getElem?_map, g1]; rfl), ?_, hqs.length⟩
  rw [Int.toNat_natCast, List.getD_eq_getElem?_getD, List.getElem?_eq_getElem hn]
  exact g2
theorem inV_ints {b : Int} (l : List Int) : inV (.int b) (l.map V.int) = decide (b ∈ l) := by
  unfold inV
  rw [List.any_map, Bool.eq_iff_iff, List.any_eq_true, decide_eq_true_eq]
  constructor
  · rintro ⟨x, hx, e⟩
    have e' : x = b := by simpa [eqV] using e
    rw [← e']; exact hx
  · intro h
    exact ⟨b, h, by simp [eqV]⟩
theorem flat_ints : ∀ l : List Int, (l.map V.int).all flatV = true
  | [] => rfl
  | x :: r => by rw [List.map_cons, List.all_cons, flat_ints r]; rfl
end Pr
/-! Draws kept in a list of three: the cells, how many were drawn, what is left of the large ones. -/
namespace Pr
open PySem PySem.Spec PyProof.Rows L2
def Dk3 (H : Hp) (a c r : Addr) (m : Nat) : Prop :=
  ∃ (cells rests : List Int) (n : Nat), H a = some (.lst [.ref c, .int (n : Int), .ref r]) ∧ H c = some (.lst (cells.map V.int)) ∧ H r = some (.lst (rests.map V.int)) ∧ a ≠ c ∧ a ≠ r ∧ c ≠ r ∧
    1 ≤ cells.length ∧ cells.length ≤ 63 ∧ rests.length = cells.length ∧ n + m ≤ 1000000
theorem Dk3.same {H H' : Hp} {a c r : Addr} {m : Nat} (e : Same H H') (h : Dk3 H a c r m) : Dk3 H' a c r m :=
  let ⟨cs, rs, n, h1, h2, h3, h4⟩ := h; ⟨cs, rs, n, e _ _ h1, e _ _ h2, e _ _ h3, h4⟩
theorem Dk3.less {H : Hp} {a c r : Addr} {m m' : Nat} (h : Dk3 H a c r m) (z : m' ≤ m) : Dk3 H a c r m' :=
  let ⟨cs, rs, n, h1, h2, h3, h4, h5, h6, h7, h8, h9, h10⟩ := h; ⟨cs, rs, n, h1, h2, h3, h4, h5, h6, h7, h8, h9, by omega⟩
theorem Dk3.apart {H : Hp} {a c r : Addr} {m : Nat} (h : Dk3 H a c r m) {b : Addr} {o : HO} (e : H b = some o) (ho : ∀ xs, o ≠ .lst xs) : b ≠ a ∧ b ≠ r := by
  obtain ⟨cs, rs, n, h1, h2, h3, _⟩ := h
  exact ⟨ne_of e h1 (ho _), ne_of e h3 (ho _)⟩
theorem Dk3.fresh {H : Hp} {a c r : Addr} {m : Nat} (h : Dk3 H a c r m) {b : Addr} (e : H b = none) : b ≠ a ∧ b ≠ r ∧ b ≠ c := by
  obtain ⟨cs, rs, n, h1, h2, h3, _⟩ := h
  exact ⟨Ne.symm (ne_of_none h1 e), Ne.symm (ne_of_none h3 e), Ne.symm (ne_of_none h2 e)⟩
theorem FT.but3 {H H' : Hp} {a c r p : Addr} {m : Nat} {xs : List V} (d : Dk3 H a c r m) (b : But a r H H') (h : FT H p xs) : FT H' p xs := by
  obtain ⟨o, e, z⟩ := h
  have q := d.apart e (fun _ => by intro z; cases z)
  exact ⟨o, b _ _ q.1 q.2 e, z⟩
theorem tup_but3 {H H' : Hp} {a c r p : Addr} {m : Nat} {xs : List V} (d : Dk3 H a c r m) (b : But a r H H') (h : H p = some (.tup xs)) : H' p = some (.tup xs) := by
  have q := d.apart h (fun _ => by intro z; cases z)
  exact b _ _ q.1 q.2 h
theorem PanAt.but3 {H H' : Hp} {a c r p : Addr} {m : Nat} {pan : List (List Int)} (d : Dk3 H a c r m) (b : But a r H H') (h : PanAt H p pan) : PanAt H' p pan :=
  let ⟨qs, h1, h2⟩ := h; ⟨qs, h1.but3 d b, h2.mono fun _ _ x => x.but3 d b⟩
/-- a store at a place that is none of the deck's -/
theorem Dk3.upd {H : Hp} {a c r : Addr} {m : Nat} {b : Addr} {o : HO} (h : Dk3 H a c r m) (n : b ≠ a ∧ b ≠ r ∧ b ≠ c) : Dk3 (upd H b o) a c r m := by
  obtain ⟨cs, rs, n', h1, h2, h3, h4⟩ := h
  exact ⟨cs, rs, n', by rw [upd_ne (Ne.symm n.1)]; exact h1, by rw [upd_ne (Ne.symm n.2.2)]; exact h2, by rw [upd_ne (Ne.symm n.2.1)]; exact h3, h4⟩
theorem But.free {a c : Addr} {H H' : Hp} {b : Addr} (x : But a c H H') (h1 : b ≠ a) (h2 : b ≠ c) (e : H' b = none) : H b = none := by
  cases q : H b with
  | none => rfl
  | some o => have := x b o h1 h2 q; rw [e] at this; cases this
theorem cut_ints (ns : List Int) (lo hi : Option Int) : ∃ ms : List Int, cutV (ns.map V.int) lo hi = ms.map V.int ∧ ms.length ≤ ns.length := by
  refine ⟨(ns.drop (HT.sIx ns.length 0 lo)).take (HT.sIx ns.length ns.length hi - HT.sIx ns.length 0 lo), ?_, ?_⟩
  · unfold cutV
    rw [List.length_map, List.map_take, List.map_drop]
  · rw [List.length_take, List.length_drop]; omega
/-- the first 63 of at most 63 -/
theorem cut63 (ns : List Int) (h : ns.length ≤ 63) : cutV (ns.map V.int) none (some 63) = ns.map V.int := by
  unfold cutV
  rw [List.length_map]
  have e1 : HT.sIx ns.length 0 none = 0 := rfl
  rw [e1, List.drop_zero]
  refine List.take_of_length_le ?_
  rw [List.length_map]
  have e2 : HT.sIx ns.length ns.length (some 63) = ns.length := by
    rw [show (63 : Int) = ((63 : Nat) : Int) from rfl, HT.sIx_nat]; omega
  rw [e2]; omega
end Pr
/-! Data of any kind, with dicts; its lists stand apart from the deck (a, c). -/
namespace Pr
open PySem PySem.Spec PyProof.Rows L2
mutual
inductive Dq (K : PySem.W.Frag) (N : Addr → Prop) (H : Hp) : V → PyData → Prop
  | non : Dq K N H .non .none
  | bl (b : Bool) : Dq K N H (.bl b) (.bool b)
  | int (i : Int) : Dq K N H (.int i) (.int i)
  | str (x : Str) : Dq K N H (.str x) (.str x)
  | lst {l : Addr} {xs : List V} {ds : List PyData} : l ≠ sysModules → ¬ N l → H l = some (.lst xs) → DqAll K N H xs ds → Dq K N H (.ref l) (.list ds)
  | tup {l : Addr} {xs : List V} {ds : List PyData} : SqT K H l xs → DqAll K N H xs ds → Dq K N H (.ref l) (.tuple ds)
  | dct0 {l : Addr} : H l = some (.dK []) → Dq K N H (.ref l) (.dict [])
  | dct1 {l : Addr} {x : Str} {i : Int} : H l = some (.dK [(Sum.inr x, .int i)]) → Dq K N H (.ref l) (.dict [(.str x, .int i)])
inductive DqAll (K : PySem.W.Frag) (N : Addr → Prop) (H : Hp) : List V → List PyData → Prop
  | nil : DqAll K N H [] []
  | cons {v : V} {vs : List V} {d : PyData} {ds : List PyData} : Dq K N H v d → DqAll K N H vs ds → DqAll K N H (v :: vs) (d :: ds)
end
section
variable {K : PySem.W.Frag} {N : Addr → Prop} {a c : Addr} {H H' : Hp}
theorem DqAll.length : ∀ {vs : List V} {ds : List PyData}, DqAll K N H vs ds → vs.length = ds.length
  | _, _, .nil => rfl
  | _, _, .cons _ t => by rw [List.length_cons, List.length_cons, t.length]
theorem DqAll.append : ∀ {vs us : List V} {ds es : List PyData}, DqAll K N H vs ds → DqAll K N H us es → DqAll K N H (vs ++ us) (ds ++ es)
  | _, _, _, _, .nil, h => h
  | _, _, _, _, .cons r t, h => .cons r (t.append h)
theorem DqAll.get : ∀ {vs : List V} {ds : List PyData}, DqAll K N H vs ds → ∀ (i : Nat) (v : V), vs[i]? = some v → ∃ d, ds[i]? = some d ∧ Dq K N H v d
  | _, _, .nil, i, v, h => by simp at h
  | _, _, .cons r t, 0, v, h => by simp at h; subst h; exact ⟨_, rfl, r⟩
  | _, _, .cons r t, i + 1, v, h => by
    obtain ⟨d, h1, h2⟩ := t.get i v (by simpa using h)
    exact ⟨d, by simpa using h1, h2⟩
theorem DqAll.take : ∀ (n : Nat) {vs : List V} {ds : List PyData}, DqAll K N H vs ds → DqAll K N H (vs.take n) (ds.take n)
  | 0, _, _, _ => by simpa using DqAll.nil
  | n + 1, _, _, .nil => .nil
  | n + 1, _, _, .cons r t => .cons r (t.take n)
theorem DqAll.drop : ∀ (n : Nat) {vs : List V} {ds : List PyData}, DqAll K N H vs ds → DqAll K N H (vs.drop n) (ds.drop n)
  | 0, _, _, h => h
  | n + 1, _, _, .nil => .nil
  | n + 1, _, _, .cons r t => t.drop n
theorem DqAll.reverse : ∀ {vs : List V} {ds : List PyData}, DqAll K N H vs ds → DqAll K N H vs.reverse ds.reverse
  | _, _, .nil => .nil
  | _, _, .cons r t => by rw [List.reverse_cons, List.reverse_cons]; exact t.reverse.append (.cons r .nil)
theorem DqAll.rep (n : Nat) {vs : List V} {ds : List PyData} (h : DqAll K N H vs ds) : DqAll K N H (List.replicate n vs).flatten (List.replicate n ds).flatten := by
  induction n with
  | zero => exact .nil
  | succ n ih => rw [List.replicate_succ, List.replicate_succ, List.flatten_cons, List.flatten_cons]; exact h.append ih
theorem dqAll_ints : ∀ l : List Int, DqAll K N H (l.map V.int) (l.map PyData.int)
  | [] => .nil
  | x :: r => .cons (.int x) (dqAll_ints r)
theorem dq_ints {q : Addr} {l : List Int} (h : SqT K H q (l.map V.int)) : Dq K N H (.ref q) (dInts l) := .tup h (dqAll_ints l)
theorem dqAll_pan : ∀ {qs : List Addr} {pan : List (List Int)}, Paired (fun q l => FT H q (l.map V.int)) qs pan → DqAll K N H (qs.map V.ref) (pan.map dInts)
  | _, _, .nil => .nil
  | _, _, .cons r t => .cons (dq_ints r.sq) (dqAll_pan t)
mutual
theorem Dq.keep (hs : ∀ l o, ¬ N l → H l = some o → H' l = some o) (ht : ∀ l xs, SqT K H l xs → SqT K H' l xs) (hk : ∀ l kvs, H l = some (.dK kvs) → H' l = some (.dK kvs)) : ∀ (d : PyData) (v : V), Dq K N H v d → Dq K N H' v d
  | .none, _, h => by cases h; exact .non
  | .bool b, _, h => by cases h; exact .bl b
  | .int i, _, h => by cases h; exact .int i
  | .str x, _, h => by cases h; exact .str x
  | .list ds, _, h => by
    cases h with
    | lst h1 h2 e q => exact .lst h1 h2 (hs _ _ h2 e) (Dq.keepAll hs ht hk ds _ q)
  | .tuple ds, _, h => by
    cases h with
    | tup e q => exact .tup (ht _ _ e) (Dq.keepAll hs ht hk ds _ q)
  | .dict kvs, _, h => by
    cases h with
    | dct0 e => exact .dct0 (hk _ _ e)
    | dct1 e => exact .dct1 (hk _ _ e)
theorem Dq.keepAll (hs : ∀ l o, ¬ N l → H l = some o → H' l = some o) (ht : ∀ l xs, SqT K H l xs → SqT K H' l xs) (hk : ∀ l kvs, H l = some (.dK kvs) → H' l = some (.dK kvs)) : ∀ (ds : List PyData) (vs : List V), DqAll K N H vs ds → DqAll K N H' vs ds
  | [], _, h => by cases h; exact .nil
  | d :: ds, _, h => by
    cases h with
    | cons r t => exact .cons (Dq.keep hs ht hk d _ r) (Dq.keepAll hs ht hk ds _ t)
end
theorem Deck.sqT {m : Nat} (D : Deck H a c m) (b : But a c H H') {l : Addr} {xs : List V} (h : SqT K H l xs) : SqT K H' l xs := by
  rcases h with (h | ⟨o, h⟩) | h
  · exact .inl (.inl (b _ _ (D.apart h (fun _ => by intro z; cases z)).1 (D.apart h (fun _ => by intro z; cases z)).2 h))
  · exact .inl (.inr ⟨o, b _ _ (D.apart h (fun _ => by intro z; cases z)).1 (D.apart h (fun _ => by intro z; cases z)).2 h⟩)
  · exact .inr h
theorem Deck.dk {m : Nat} (D : Deck H a c m) (l : Addr) (kvs : List (Key × V)) (h : H l = some (.dK kvs)) : l ≠ a ∧ l ≠ c := D.apart h (fun _ => by intro z; cases z)
theorem apart_N (na : N a) (nc : N c) {l : Addr} (h : ¬ N l) : l ≠ a ∧ l ≠ c := ⟨fun e => h (by rw [e]; exact na), fun e => h (by rw [e]; exact nc)⟩
theorem Dq.but {m : Nat} (na : N a) (nc : N c) (D : Deck H a c m) (b : But a c H H') {v : V} {d : PyData} (h : Dq K N H v d) : Dq K N H' v d :=
  Dq.keep (fun l o h1 e => b l o (apart_N na nc h1).1 (apart_N na nc h1).2 e) (fun _ _ e => D.sqT b e) (fun l kvs e => b _ _ (D.dk l kvs e).1 (D.dk l kvs e).2 e) d v h
theorem DqAll.but {m : Nat} (na : N a) (nc : N c) (D : Deck H a c m) (b : But a c H H') {v : List V} {d : List PyData} (h : DqAll K N H v d) : DqAll K N H' v d :=
  Dq.keepAll (fun l o h1 e => b l o (apart_N na nc h1).1 (apart_N na nc h1).2 e) (fun _ _ e => D.sqT b e) (fun l kvs e => b _ _ (D.dk l kvs e).1 (D.dk l kvs e).2 e) d v h
mutual
theorem Dq.same (e : Same H H') : ∀ (d : PyData) (v : V), Dq K N H v d → Dq K N H' v d
  | .none, _, h => by cases h; exact .non
  | .bool b, _, h => by cases h; exact .bl b
  | .int i, _, h => by cases h; exact .int i
  | .str x, _, h => by cases h; exact .str x
  | .list ds, _, h => by
    cases h with
    | lst h1 h2 q r => exact .lst h1 h2 (e _ _ q) (Dq.sameAll e ds _ r)
  | .tuple ds, _, h => by
    cases h with
    | tup q r => exact .tup (same_sqT e q) (Dq.sameAll e ds _ r)
  | .dict kvs, _, h => by
    cases h with
    | dct0 q => exact .dct0 (e _ _ q)
    | dct1 q => exact .dct1 (e _ _ q)
theorem Dq.sameAll (e : Same H H') : ∀ (ds : List PyData) (vs : List V), DqAll K N H vs ds → DqAll K N H' vs ds
  | [], _, h => by cases h; exact .nil
  | d :: ds, _, h => by
    cases h with
    | cons r t => exact .cons (Dq.same e d _ r) (Dq.sameAll e ds _ t)
end
/-- its built-in type -/
def tyD : PyData → String
  | .none => "NoneType"
  | .bool _ => "bool"
  | .int _ => "int"
  | .str _ => "str"
  | .list _ => "list"
  | .tuple _ => "tuple"
  | .dict _ => "dict"
theorem tyT {l : Addr} {xs : List V} (h : SqT K H l xs) : TyX K H (.ref l) (.type "tuple") := by
  rcases h with (h | ⟨o, h⟩) | ⟨o, its, n, h, hc, _⟩
  · exact .base (.tup h)
  · exact .fTuple h
  · exact .kTuple h hc
theorem Dq.ty {v : V} {d : PyData} (h : Dq K N H v d) : TyX K H v (.type (tyD d)) := by
  cases h with
  | non => exact .base .non
  | bl b => exact .base (.bl b)
  | int i => exact .base (.int i)
  | str x => exact .base (.str x)
  | lst _ _ e _ => exact .base (.lst e)
  | tup e _ => exact tyT e
  | dct0 e => exact .base (.dK e)
  | dct1 e => exact .base (.dK e)
end
section
variable {X : Cx} {pins : List (Addr × Obj)} {σ : L2.St} {H : Hp} {s : Shared} {N : Addr → Prop}
mutual
theorem Dq.reads (I : Inv X pins σ H s) : ∀ (d : PyData) (v : V) (u : Value), Dq X.K N H v d → RelV v u → ∃ as, Reads s.heap u d as ∧ sysModules ∉ as
  | .none, _, _, h, r => by
    cases h; cases r; exact ⟨_, Reads.none, by simp⟩
  | .bool b, _, _, h, r => by
    cases h; cases r; exact ⟨_, Reads.bool b, by simp⟩
  | .int i, _, _, h, r => by
    cases h; obtain ⟨t, rfl⟩ := r; exact ⟨_, Reads.int i t, by simp⟩
  | .str x, _, _, h, r => by
    cases h; obtain ⟨t, rfl⟩ := r; exact ⟨_, Reads.str x t, by simp⟩
  | .list ds, _, _, h, r => by
    cases h with
    | lst h1 _ hs ha =>
      cases r
      obtain ⟨_, its, n, rv, ho⟩ := I.hok _ _ hs
      obtain ⟨as, hr, hn⟩ := Dq.readsAll I ds _ its ha rv
      exact ⟨_, Reads.list ho rfl rfl hr, by simp [hn, Ne.symm h1]⟩
  | .tuple ds, _, _, h, r => by
    cases h with
    | tup hs ha =>
      cases r
      obtain ⟨its, rv, ⟨o, ho, hc, n, hd⟩, _⟩ := I.tuple hs
      obtain ⟨as, hr, hn⟩ := Dq.readsAll I ds _ its ha rv
      exact ⟨_, Reads.tuple ho hc hd hr, hn⟩
  | .dict _, _, _, h, r => by
    cases h with
    | dct0 e =>
      cases r
      obtain ⟨_, ns, vs, kv, o, es, ep, ho, hc, hd, _, hp, _⟩ := I.hok _ _ e
      cases kv
      have he : es.toList = [] := by cases hes : es.toList with
        | nil => rfl
        | cons x y => rw [hes] at hp; cases hp
      have ns' := of_decide_eq_false (show decide (_ = sysModules) = false by simpa using ns)
      refine ⟨_, Reads.dict (kvs := []) ho hc.1 hd (by rw [he]; exact .nil) (by rw [he]; exact .nil), ?_⟩
      simp [Ne.symm ns']
    | @dct1 l x i e =>
      cases r
      obtain ⟨_, ns, vs, kv, o, es, ep, ho, hc, hd, _, hp, _⟩ := I.hok _ _ e
      cases kv with
      | @cons p q l1 l2 kq kr =>
        cases kr
        obtain ⟨h1, t, h2⟩ := kq
        obtain ⟨en, he, hk, hv⟩ : ∃ en, es.toList = [en] ∧ keyIs q.1 en.key = true ∧ en.val = q.2 := by
          cases hes : es.toList with
          | nil => rw [hes] at hp; cases hp
          | cons x y =>
            rw [hes] at hp
            cases hp with
            | cons p1 p2 p3 => cases p3; exact ⟨x, rfl, p1, p2⟩
        have h1' : (Sum.inr x : Key) = q.1 := h1
        rw [← h1'] at hk
        obtain ⟨t', hk'⟩ := Value.isStrOf_shape (show Value.isStrOf x en.key = true from hk)
        have ns' := of_decide_eq_false (show decide (_ = sysModules) = false by simpa using ns)
        refine ⟨_, Reads.dict (kvs := [(.str x, .int i)]) ho hc.1 hd (as := [] ++ []) (bs := [] ++ []) ?_ ?_, ?_⟩
        · rw [he]; show ReadsAll _ [en.key] _ _; rw [hk']; exact .cons (.str x t') .nil
        · rw [he]; show ReadsAll _ [en.val] _ _; rw [hv, h2]; exact .cons (.int i t) .nil
        · simp [Ne.symm ns']
theorem Dq.readsAll (I : Inv X pins σ H s) : ∀ (ds : List PyData) (vs : List V) (us : List Value), DqAll X.K N H vs ds → Vals vs us → ∃ as, ReadsAll s.heap us ds as ∧ sysModules ∉ as
  | [], _, _, h, r => by
    cases h; cases r; exact ⟨_, ReadsAll.nil, by simp⟩
  | d :: ds, _, _, h, r => by
    cases h with
    | cons h1 h2 =>
      cases r with
      | cons r1 r2 =>
        obtain ⟨as, q1, n1⟩ := Dq.reads I d _ _ h1 r1
        obtain ⟨bs, q2, n2⟩ := Dq.readsAll I ds _ _ h2 r2
        exact ⟨_, ReadsAll.cons q1 q2, by simp [n1, n2]⟩
end
end
/-! ### how deep, how long -/
structure Shq (dep n : Nat) (d : PyData) : Prop where
  sh : d.showable = true
  dp : d.depth ≤ dep
  ln : d.shown.length ≤ n
theorem Shq.mono {dep dep' n n' : Nat} {d : PyData} (h : Shq dep n d) (h1 : dep ≤ dep') (h2 : n ≤ n') : Shq dep' n' d := ⟨h.sh, Nat.le_trans h.dp h1, Nat.le_trans h.ln h2⟩
theorem Shw.q {dep n : Nat} {d : PyData} (h : Shw dep n d) : Shq dep n d := ⟨h.sh, h.dp, h.ln⟩
theorem shqAll {dep n : Nat} : ∀ {ds : List PyData}, (∀ d ∈ ds, Shq dep n d) → PyData.showableAll ds = true ∧ PyData.depthAll ds ≤ dep
  | [], _ => ⟨by simp only [PyData.showableAll], by simp [PyData.depthAll]⟩
  | d :: r, h => by
    obtain ⟨h1, h3⟩ := shqAll (ds := r) fun x hx => h x (List.mem_cons_of_mem _ hx)
    have g := h d List.mem_cons_self
    refine ⟨by simp only [PyData.showableAll, g.sh, h1, Bool.and_self], ?_⟩
    simp only [PyData.depthAll]
    exact Nat.max_le.mpr ⟨g.dp, h3⟩
theorem Shq.tuple {dep n m : Nat} {ds : List PyData} (h : ∀ d ∈ ds, Shq dep n d) (hm : ds.length ≤ m) : Shq (dep + 1) (m * (n + 2) + 3) (.tuple ds) := by
  obtain ⟨h1, h3⟩ := shqAll h
  refine ⟨by simp only [PyData.showable, h1], by simp only [PyData.depth]; omega, ?_⟩
  simp only [PyData.shown]
  rw [shownAll_map]
  have a1 := tupleText_len (ds.map PyData.shown)
  have a2 := piled_le fun d hd => (h d hd).ln
  have a3 : ds.length * (n + 2) ≤ m * (n + 2) := Nat.mul_le_mul_right _ hm
  omega
theorem Shq.list {dep n m : Nat} {ds : List PyData} (h : ∀ d ∈ ds, Shq dep n d) (hm : ds.length ≤ m) : Shq (dep + 1) (m * (n + 2) + 3) (.list ds) := by
  obtain ⟨h1, h3⟩ := shqAll h
  refine ⟨by simp only [PyData.showable, h1], by simp only [PyData.depth]; omega, ?_⟩
  simp only [PyData.shown]
  rw [shownAll_map]
  have a1 := listText_len (ds.map PyData.shown)
  have a2 := piled_le fun d hd => (h d hd).ln
  have a3 : ds.length * (n + 2) ≤ m * (n + 2) := Nat.mul_le_mul_right _ hm
  omega
/-! ### repr of such data -/
def rReprQ (K : PySem.W.Frag) : List V → Hp → VK → Prop := fun xs H Q => ∃ (N : Addr → Prop) (v : V) (d : PyData), xs = [v] ∧ Dq K N H v d ∧ Shq 60 sizeLine d ∧ Q (.str d.shown) H
theorem call_reprQ {X : Cx} {k : Nat} (gd : X.A.guards = some []) (hr : Room k X.A) : CallR X (.builtin "repr") (rReprQ X.K) := by
  intro pins s σ H xs us Q I rv h
  obtain ⟨N, v, d, rfl, hd, hs, q⟩ := h
  obtain ⟨u, rfl, rx⟩ := vals1 rv
  have isref : ∀ (l : Addr), v = .ref l → wpAny (model X.prog X.w) X.A (call (.builtin "repr") [u]) (EP X pins σ Q) X.xe s := fun l e => by
    subst e
    obtain ⟨as, r, hn⟩ := Dq.reads I d _ _ hd rx
    obtain rfl : u = .ref l := rx
    exact repr_of_reads' r hs.sh (fun _ => hn) gd (by have := hr.un; have := hs.dp; omega) (fun _ _ e => e) (fun h' t tk hk => ⟨.str d.shown, H, I.kept hk, ⟨t, rfl⟩, q⟩) hs.ln
  cases hd with
  | non => obtain rfl : u = .none := rx; exact PySem.P.repr_of_none ⟨.str "None", H, I.tok _, ⟨_, rfl⟩, by simpa only [PyData.shown] using q⟩
  | bl b => obtain rfl : u = .bool b := rx; exact PySem.P.repr_of_bool ⟨.str _, H, I.tok _, ⟨_, rfl⟩, by simpa only [PyData.shown] using q⟩
  | int i =>
    obtain ⟨t, rfl⟩ := rx
    have h1 : i.natAbs.log2 < 1920 := by simpa only [PyData.showable, decide_eq_true_eq] using hs.sh
    exact PySem.P.repr_of_int h1 ⟨.str _, H, I.tok _, ⟨_, rfl⟩, by simpa only [PyData.shown] using q⟩
  | str x =>
    obtain ⟨t, rfl⟩ := rx
    have h1 : (reprText x).length ≤ sizeLine := by simpa only [PyData.shown] using hs.ln
    exact PySem.P.repr_of_str ⟨.str _, H, I.tok _, ⟨_, rfl⟩, by simpa only [PyData.shown] using q⟩ h1
  | lst _ _ _ _ => exact isref _ rfl
  | tup _ _ => exact isref _ rfl
  | dct0 _ => exact isref _ rfl
  | dct1 _ => exact isref _ rfl
end Pr
/-! Rules for what the laws do with values of any kind. -/
namespace Pr
open PySem PySem.Spec PyProof.Rows L2
section
variable {X : Cx} {es : List Expr} {t : TA} {pos : Pos}
/-- a list that stands apart from the modules' table -/
def tLstG (t : TA) : TE := fun σ H Q => t σ H fun xs H1 => xs.length ≤ sizeLine ∧ ∀ p, H1 p = none → p ≠ sysModules → Q (.ref p) (upd H1 p (.lst xs))
theorem pe_lstG (h : PA X es t) : PE X (.List es pos) (tLstG t) := by
  refine ⟨fun pins s σ H Q I hq => wpAny_List_spliced (thn (h.run pos pins s σ H _ I hq) fun us s1 ⟨xs, H1, I1, r, z, q⟩ => ⟨by rw [← r.length]; exact z, ?_⟩)⟩
  refine ⟨.ref s1.heap.objs.size, upd H1 s1.heap.objs.size (.lst xs), I1.laid (t' := s1.toks) (fun b u e => Heap.get?_push_of_some _ e) (Nat.le_refl _) ⟨z, us, 0, r, Heap.get?_push_size _ rfl⟩, rfl,
    q _ (I1.hok.fresh (Nat.le_refl _)) (Nat.ne_of_gt I1.big)⟩
def rListG (K : PySem.W.Frag) : List V → Hp → VK → Prop := fun xs H Q => ∃ p ys, xs = [.ref p] ∧ SqT K H p ys ∧ ∀ l, H l = none → l ≠ sysModules → Q (.ref l) (upd H l (.lst ys))
theorem call_listG : CallR X (.type "list") (rListG X.K) := by
  intro pins s σ H xs us Q I r h
  obtain ⟨p, ys, rfl, hq, q⟩ := h
  obtain ⟨u, rfl, rx⟩ := vals1 r
  cases rx
  obtain ⟨its, r', ⟨o, ho, hc, n, hd⟩, hz⟩ := I.tuple hq
  have hlen := r'.length
  refine call_list_seq p (.inr rfl) ho hc hd (fun h' c' kp e => ?_) (by simp only [List.size_toArray] <;> omega)
  exact ⟨.ref s.heap.objs.size, _, I.laid (t' := s.toks) kp (Nat.le_refl _) (show ObjOk X.prog X.w _ h' _ (.lst ys) from ⟨hz, its, c', r', e⟩), rfl, q _ (I.hok.fresh (Nat.le_refl _)) (Nat.ne_of_gt I.big)⟩
/-- sorted(tuple of ints) -/
def rSortT (K : PySem.W.Frag) : List V → Hp → VK → Prop := fun vs H Q => ∃ (a : Addr) (ns : List Int), vs = [V.ref a] ∧ SqT K H a (ns.map V.int) ∧ ns.length < 64 ∧
  ∀ (ns' : List Int) (p : Addr), ns'.Perm ns → ns'.Pairwise (· ≤ ·) → H p = none → Q (.ref p) (upd H p (.lst (ns'.map V.int)))
theorem cr_sortT : CallR X (.builtin "sorted") (rSortT X.K) := by
  intro pins s σ H vs us Q I r h
  obtain ⟨a, ns, rfl, hs, h64, q⟩ := h
  obtain ⟨its, rv, ⟨o, ho, hc, n, hd⟩, hz⟩ := I.tuple hs
  rw [Vals.ref1 r]
  have hi := rv.ints
  have hlen := hi.length
  refine Calls.call_function_entry kind_sorted plain_sorted entry_sorted (args_sorted1 _) ?_
  unfold Builtin.«sorted»
  refine wpAny_bind (m := checkCount "sorted" 1 1 _) (wpAny_pure ?_)
  refine wpAny_bind (wpAny_collect_seq a (.inr rfl) ho hc hd (fun h' kp => ?_) (by rw [List.size_toArray, hlen]; exact small64 h64))
  have e : its.toArray.toList = its := by simp
  rw [e]
  refine wpAny_bind (wpAny_newList ?_)
  have I1 : Inv X pins σ H { s with heap := h' } := I.kept (t' := s.toks) kp
  have hoL : (h'.push (seqObj "list" its.toArray 0)).get? h'.objs.size = some (seqObj "list" its.toArray 0) := Heap.get?_push_size _ rfl
  refine wpAny_bind (wpAny_holding (wpAny_call_entry slot_list_sort ⟨_, hoL, rfl⟩ entry_list_sort (list_sort_tree hoL hi (by rw [hlen]; exact h64) fun out ns' a1 a2 a3 => ⟨_, rfl, ?_⟩) (args_list_sort _)))
  obtain ⟨ep, he'⟩ := PyProof.Rows.sortedHeap_at (vs := its) (out := out) hoL
  have hl2 : (ns'.map V.int).length ≤ sizeLine := by rw [List.length_map, a2.length_eq]; exact small64 h64
  refine wpAny_pure ⟨_, rfl, .ref h'.objs.size, upd H h'.objs.size (.lst (ns'.map V.int)), I1.laid (t' := s.toks) (fun b ob q => ?_) (Nat.le_refl _) ⟨hl2, out.toList, ep, vals_of_ints a1, he'⟩, rfl, q ns' _ a2 a3 (I1.hok.fresh (Nat.le_refl _))⟩
  have hb : b < h'.objs.size := Heap.lt_size q
  rw [PyProof.Rows.sortedHeap_old (Nat.ne_of_lt hb) (by rw [Heap.size_push]; exact Nat.lt_succ_of_lt hb)]
  exact Heap.get?_push_of_some _ q
/-- set(tuple of ints) -/
def rSetI (K : PySem.W.Frag) (w : World) : List V → Hp → VK → Prop := fun vs H Q => ∃ (a : Addr) (ns : List Int), vs = [V.ref a] ∧ SqT K H a (ns.map V.int) ∧ ns.length ≤ 200 ∧
  ∀ (l : Addr) (n : Nat), H l = none → n ≤ ns.length → Q (.ref l) (upd H l (SetO w l (fun j => decide (j ∈ ns)) n))
theorem cr_setI (hc : X.calm = true) : CallR X (.type "set") (rSetI X.K X.w) := by
  intro pins s σ H vs us Q I r h
  obtain ⟨a, ns, rfl, hs, hn, q⟩ := h
  obtain ⟨its, rv, pt, hz⟩ := I.tuple hs
  rw [Vals.ref1 r]
  have hi := rv.ints
  refine call_set_tupI ns (I.ok.hd hc) pt (by simpa using hi) (Nat.lt_of_le_of_lt (Nat.add_le_add_right hn 1) (by decide)) fun h' tk n R hn' kp => ?_
  exact ⟨.ref s.heap.objs.size, _, I.laid (t' := tk) kp (Nat.le_refl _) (setO_new R), rfl, q _ n (I.hok.fresh (Nat.le_refl _)) hn'⟩
end
/-! ### t[::-1] -/
section
variable {prog : Program} {w : World} {A : Around} {E : Value → Shared → Prop} {s : Shared}
theorem fm_congr {f g : Nat → Option Value} : ∀ {l : List Nat}, (∀ x ∈ l, f x = g x) → l.filterMap f = l.filterMap g
  | [], _ => rfl
  | x :: r, h => by
    rw [List.filterMap_cons, List.filterMap_cons, h x List.mem_cons_self, fm_congr fun y hy => h y (List.mem_cons_of_mem _ hy)]
theorem pick_back (l : List Value) : (List.range l.length).filterMap (fun (k : Nat) => l[(((l.length : Int) - 1) + (k : Int) * (-1)).toNat]?) = l.reverse := by
  have h1 : (List.range l.length).filterMap (fun (k : Nat) => l[(((l.length : Int) - 1) + (k : Int) * (-1)).toNat]?) = (List.range l.length).filterMap (fun (k : Nat) => some ((l[l.length - 1 - k]?).getD .none)) := by
    refine fm_congr fun k hk => ?_
    have hk' := List.mem_range.mp hk
    rw [show (((l.length : Int) - 1) + (k : Int) * (-1)).toNat = l.length - 1 - k by omega, List.getElem?_eq_getElem (by omega)]; rfl
  rw [h1, show (fun (k : Nat) => some ((l[l.length - 1 - k]?).getD Value.none)) = some ∘ (fun k : Nat => (l[l.length - 1 - k]?).getD Value.none) from rfl, List.filterMap_eq_map]
  refine List.ext_getElem? fun i => ?_
  by_cases hi : i < l.length
  · rw [List.getElem?_map, List.getElem?_range hi, List.getElem?_reverse hi, List.getElem?_eq_getElem (by omega)]
    show some ((l[l.length - 1 - i]?).getD Value.none) = _
    rw [List.getElem?_eq_getElem (by omega)]; rfl
  · rw [List.getElem?_eq_none (by rw [List.length_map, List.length_range]; omega), List.getElem?_eq_none (by rw [List.length_reverse]; omega)]
theorem getItem_tuple_back {t sl : Addr} {its : List Value} {Q : Value → Shared → Prop} {vs : Value} (ht : IsTup s.heap t its.toArray) (hs : s.heap.IsSliceOf sl .none .none vs) (ps : IsPart vs (some (-1)))
    (h : Q (.ref s.heap.objs.size) { s with heap := s.heap.push { cls := .type "tuple", data := .seq its.reverse.toArray } }) (hsz : its.length ≤ sizeLine) : wpAny (model prog w) A (getItem (.ref t) (.ref sl)) Q E s := by
  obtain ⟨os, hos, hcs, hds⟩ := id hs
  have hTs : s.TypeIs (.ref sl) "slice" := ⟨os, hos, hcs⟩
  unfold getItem
  try with_reducible refine wpAny_holding ?_
  first | refine wpAny_bind (wpAny_pure ?_) | skip
  refine wpAny_bind (wpAny_sequenceKey ht.typeIs (by decide) ?_)
  refine wpAny_bind (wpAny_callSpecial?_slot (name := Str.ofString "__getitem__") ht.typeIs PyProof.Rows.slot_tuple_getitem (wpAny_call_entry PyProof.Rows.slot_tuple_getitem ht.typeIs entry_tuple_getitem ?_ (args_tuple_getitem _ _)))
  show wpAny _ _ (Builtin.Tuple.tupleItemsOf (.ref t) >>= _) _ _ s
  refine wpAny_bind (tupleItemsOf_ ht (wpAny_bind (wpAny_typeOf hTs ?_)))
  rw [if_pos (by decide)]
  have hp : Builtin.Slice.slicePlaces ((its.length : Int) - 1) (-1) (-1) = its.length := by
    unfold Builtin.Slice.slicePlaces
    rw [if_neg (by omega)]
    split
    · simp only [Int.neg_neg, Int.ediv_one]; omega
    · omega
  refine wpAny_bind ?_
  unfold Builtin.Slice.sliceApplied Builtin.Slice.sliceFields
  refine wpAny_bind (wpAny_bind (wpAny_field hos hds (x := .none) rfl (wpAny_bind (wpAny_field hos hds (x := .none) rfl (wpAny_bind (wpAny_field hos hds (x := vs) rfl (wpAny_pure ?_)))))))
  refine wpAny_bind (HT.slicePart_ ps ?_)
  show wpAny _ _ (if ((-1 : Int) == 0) = true then _ else _) _ _ s
  rw [if_neg (by decide)]
  refine wpAny_bind (slicePart_none (wpAny_bind (slicePart_none (wpAny_bind (wpAny_pure ?_)))))
  show wpAny _ _ (pure (((its.toArray.size : Nat) : Int) - 1, (-1 : Int), Builtin.Slice.slicePlaces (((its.toArray.size : Nat) : Int) - 1) (-1) (-1))) _ _ s
  rw [List.size_toArray, hp]
  refine wpAny_pure ?_
  show wpAny _ _ (if ((((its.length : Nat) : Int) - 1 == 0 && (-1 : Int) == 1 && its.length == its.toArray.size) = true) then _ else _) _ _ s
  rw [if_neg (by rw [show ((-1 : Int) == 1) = false by decide, Bool.and_false, Bool.false_and]; exact Bool.false_ne_true)]
  have ep : ((List.range its.length).filterMap fun (k : Nat) => its.toArray[((its.length : Int) - 1 + (k : Int) * (-1)).toNat]?).toArray = its.reverse.toArray := by
    have := pick_back its
    simp only [List.getElem?_toArray]
    rw [this]
  rw [ep]
  have htake : sizeOk (.seq its.reverse.toArray) := by
    show its.reverse.toArray.size ≤ sizeLine
    rw [List.size_toArray, List.length_reverse]; exact hsz
  first
    | exact wpAny_bind (m := Builtin.Tuple.tupleExact _) (wpAny_newObj_type (wpAny_pure ⟨_, rfl, wpAny_pure h⟩) htake)
    | exact wpAny_bind (m := Builtin.Tuple.tupleExact _) (wpAny_newObj_type (wpAny_bind (wpAny_pure (wpAny_pure ⟨_, rfl, wpAny_pure h⟩))) htake)
    | exact wpAny_bind (wpAny_bind (m := Builtin.Tuple.tupleExact _) (wpAny_newObj_type (wpAny_pure (wpAny_pure ⟨_, rfl, wpAny_pure h⟩)) htake))
    | exact wpAny_bind (wpAny_bind (m := Builtin.Tuple.tupleExact _) (wpAny_newObj_type (wpAny_pure ⟨_, rfl, wpAny_pure h⟩) htake))
end
section
variable {X : Cx}
def tRevT (K : PySem.W.Frag) (te : TE) : TE := fun σ H Q => te σ H fun x H1 => ∃ a xs, x = .ref a ∧ SqT K H1 a xs ∧ ∀ p, H1 p = none → Q (.ref p) (upd H1 p (.tup xs.reverse))
theorem pe_revT {e : Expr} {te : TE} {k : Nat} {p1 p2 p3 pos : Pos} (he : PE X e te) : PE X (.Subscript e (.Slice none none (some (.UnaryOp .USub (.Constant (.int 1) k p1) p2)) p3) pos) (tRevT X.K te) := by
  refine ⟨fun pins s σ H Q I h => Subscript_ (thn (he.run pins s σ H _ I h) fun v s1 ⟨x, H1, I1, r1, a, xs, ex, hx, q⟩ => ?_)⟩
  subst ex
  cases r1
  have hst : PO X (some (.UnaryOp .USub (.Constant (.int 1) k p1) p2)) (tPart (tUn (rU fun i => .int (-i)) (tC (.int 1)))) := po_some (pe_un un_neg pe_int)
  refine wpAny_Slice (thn (po_none.run pins s1 σ H1 (fun o H2 => o = none ∧ H2 = H1) I1 ⟨rfl, rfl⟩) fun vl s2 ⟨l, H2, I2, pl, el, e2⟩ => ?_)
  subst el e2
  refine thn (po_none.run pins s2 σ H2 (fun o H3 => o = none ∧ H3 = H2) I2 ⟨rfl, rfl⟩) fun vu s3 ⟨u, H3, I3, pu, eu, e3⟩ => ?_
  subst eu e3
  refine thn (hst.run pins s3 σ H3 (fun o H4 => o = some (-1) ∧ H4 = H3) I3 ⟨1, rfl, -1, rfl, rfl, rfl⟩) fun vs s4 ⟨o, H4, I4, ps, eo, e4⟩ => ?_
  subst eo e4
  cases pl
  cases pu
  have I5 : Inv X pins σ H4 { s4 with heap := s4.heap.push { cls := .type "slice", data := .fields #[.none, .none, vs] } } := I4.kept (t' := s4.toks) fun b ob q => Heap.get?_push_of_some _ q
  obtain ⟨its, r, ht, hz⟩ := I5.tuple hx
  have hlen := r.length
  show wpAny (model X.prog X.w) X.A (subscriptTail e (.Slice none none (some (.UnaryOp .USub (.Constant (.int 1) k p1) p2)) p3) (.ref a) (.ref s4.heap.objs.size)) (EP X pins σ Q) X.xe { s4 with heap := s4.heap.push { cls := .type "slice", data := .fields #[.none, .none, vs] } }
  refine tail_any (ops := [.ref a, .ref s4.heap.objs.size]) ht.typeIs (PyProof.Rows.slot_tuple_getitem.lookup) ?_ (by with_unfolding_all rfl)
  refine getItem_tuple_back ht (Heap.IsSliceOf.new _ .none .none vs) ps ?_ (by omega)
  refine ⟨.ref _, _, I5.laid (t' := s4.toks) (o := .tup xs.reverse) (fun b ob q => Heap.get?_push_of_some _ q) (Nat.le_refl _) ?_, rfl, q _ (I5.hok.fresh (Nat.le_refl _))⟩
  exact ⟨by rw [List.length_reverse]; exact hz, _, r.reverse, IsTup.new _ _⟩
end
end Pr
/-! The last press of each button; dict comprehensions over any walk; numbers of any sign shown. -/
namespace Pr
open PySem PySem.Spec PyProof.Rows L2
def plainM : List Int → List Int
  | [] => []
  | x :: r => if x ∈ r then plainM r else x :: plainM r
theorem plainM_mem : ∀ {l : List Int} {x : Int}, x ∈ plainM l ↔ x ∈ l
  | [], x => Iff.rfl
  | y :: r, x => by
    rw [plainM]
    by_cases h : y ∈ r
    · rw [if_pos h, plainM_mem, List.mem_cons]
      exact ⟨.inr, fun z => z.elim (fun e => e ▸ h) id⟩
    · rw [if_neg h, List.mem_cons, List.mem_cons, plainM_mem]
theorem plainM_nodup : ∀ l : List Int, (plainM l).Nodup
  | [] => List.nodup_nil
  | y :: r => by
    rw [plainM]
    by_cases h : y ∈ r
    · rw [if_pos h]; exact plainM_nodup r
    · rw [if_neg h, List.nodup_cons]
      exact ⟨fun z => h (plainM_mem.mp z), plainM_nodup r⟩
theorem plainM_of_nodup : ∀ {l : List Int}, l.Nodup → plainM l = l
  | [], _ => rfl
  | y :: r, h => by
    rw [List.nodup_cons] at h
    rw [plainM, if_neg h.1, plainM_of_nodup h.2]
theorem plainM_twice (l : List Int) : plainM (plainM l) = plainM l := plainM_of_nodup (plainM_nodup l)
theorem plainM_len : ∀ l : List Int, (plainM l).length ≤ l.length
  | [] => Nat.le_refl _
  | y :: r => by
    rw [plainM]
    have := plainM_len r
    by_cases h : y ∈ r
    · rw [if_pos h, List.length_cons]; omega
    · rw [if_neg h, List.length_cons, List.length_cons]; omega
theorem plainM_drop {l : List Int} {i : Nat} {x : Int} (h : l[i]? = some x) : plainM (l.drop i) = if x ∈ l.drop (i + 1) then plainM (l.drop (i + 1)) else x :: plainM (l.drop (i + 1)) := by
  obtain ⟨hi, rfl⟩ := List.getElem?_eq_some_iff.mp h
  rw [List.drop_eq_getElem_cons hi, plainM]
/-- kvs holds the last place of each of the first i -/
def LastAt (row : List Int) (i : Nat) (kvs : List (Key × V)) : Prop :=
  ∀ x : Int, x ∈ row.take i → ∃ j : Nat, row[j]? = some x ∧ j < i ∧ (∀ m, j < m → m < i → row[m]? ≠ some x) ∧ valV kvs (Sum.inl x) = some (.int (j : Int))
theorem LastAt.nil (row : List Int) (kvs : List (Key × V)) : LastAt row 0 kvs := fun x h => by simp at h
theorem LastAt.put {row : List Int} {i : Nat} {kvs : List (Key × V)} {z : Int} (h : LastAt row i kvs) (hz : row[i]? = some z) : LastAt row (i + 1) (putK kvs (Sum.inl z) (.int (i : Int))) := by
  intro x hx
  rw [List.take_add_one, hz] at hx
  by_cases e : x = z
  · subst e
    refine ⟨i, hz, Nat.lt_succ_self _, fun m h1 h2 => by omega, ?_⟩
    rw [valV_put, if_pos rfl]
  · have hx' : x ∈ row.take i := (List.mem_append.mp hx).elim id fun q => absurd (by simpa using q) e
    obtain ⟨j, h1, h2, h3, h4⟩ := h x hx'
    refine ⟨j, h1, by omega, fun m g1 g2 g3 => ?_, ?_⟩
    · by_cases em : m = i
      · subst em
        rw [hz] at g3
        exact e (Option.some.inj g3).symm
      · exact h3 m g1 (by omega) g3
    · rw [valV_put, if_neg (fun q => e (Sum.inl.inj q)), h4]
theorem LastAt.is {row : List Int} {kvs : List (Key × V)} {i : Nat} {z : Int} (h : LastAt row row.length kvs) (hz : row[i]? = some z) :
    ∃ j : Nat, valV kvs (Sum.inl z) = some (.int (j : Int)) ∧ (j = i ↔ z ∉ row.drop (i + 1)) := by
  have hi : i < row.length := (List.getElem?_eq_some_iff.mp hz).1
  obtain ⟨j, h1, h2, h3, h4⟩ := h z (by rw [List.take_length]; exact List.mem_of_getElem? hz)
  refine ⟨j, h4, fun e hm => ?_, fun hn => ?_⟩
  · subst e
    obtain ⟨k, hk⟩ := List.getElem?_of_mem hm
    rw [List.getElem?_drop] at hk
    have hk2 := (List.getElem?_eq_some_iff.mp hk).1
    exact h3 (j + 1 + k) (by omega) hk2 hk
  · rcases Nat.lt_trichotomy j i with q | q | q
    · exact absurd hz (h3 i q hi)
    · exact q
    · refine absurd ?_ hn
      refine List.mem_of_getElem? (i := j - (i + 1)) ?_
      rw [List.getElem?_drop, show i + 1 + (j - (i + 1)) = j by omega]; exact h1
/-- a dict comprehension over a walk: Pv by the turn and the heap (the new dict at D within) -/
theorem dc_it {J : It} {n : Nat} {G : Hp → Prop} {Y : Nat → Hp → V → Hp → Prop} (w : Walk J n G Y) {g : TG} {tt : TT} {tk tv : TE} {vs : List Nat} {σ : L2.St} {H1 : Hp} {D : Addr} {Qd : Hp → Prop} (Pv : Nat → Hp → Prop)
    (h0 : Pv 0 (upd H1 D (.dK []))) (hG : ∀ i H, i ≤ n → Pv i H → G H)
    (hs : ∀ i x H H', i < n → Pv i H → Y i H x H' → g x (wipe σ vs) H' fun σ2 H2 => wipe σ2 vs = wipe σ vs ∧ tt σ2 H2 fun b H3 => if b = true then tk σ2 H3 fun y H4 => tv σ2 H4 fun z H5 =>
      ∃ kvs k, y = kV k ∧ H5 D = some (.dK kvs) ∧ kvs.length < sizeLine ∧ Pv (i + 1) (upd H5 D (.dK (putK kvs k z))) else Pv (i + 1) H3)
    (hd : ∀ H, Pv n H → Qd H) :
    ∃ W : Nat → Nat → Hp → Prop, (∃ m, W 0 m (upd H1 D (.dK []))) ∧ ∀ i m H, W i m H → (J.stop i H ∧ Qd H) ∨ (J.go i H ∧ ∃ Nx : Hp → Prop, (∀ H', Nx H' → ∃ m', m' < m ∧ W (i + 1) m' H') ∧
      ∀ x H', J.yld i H x H' → g x (wipe σ vs) H' fun σ2 H2 => wipe σ2 vs = wipe σ vs ∧ tt σ2 H2 fun b H3 => if b = true then tk σ2 H3 fun y H4 => tv σ2 H4 fun z H5 =>
        ∃ kvs k, y = kV k ∧ H5 D = some (.dK kvs) ∧ kvs.length < sizeLine ∧ Nx (upd H5 D (.dK (putK kvs k z))) else Nx H3) := by
  refine ⟨fun i m H => (i ≤ n ∧ m = n - i) ∧ Pv i H, ⟨n, ⟨Nat.zero_le _, (Nat.sub_zero n).symm⟩, h0⟩, ?_⟩
  intro i m H hW
  obtain ⟨⟨hi, rfl⟩, hP⟩ := hW
  have hGH := hG i H hi hP
  rcases Nat.lt_or_ge i n with hlt | hge
  · exact .inr ⟨w.goes i H hlt hGH, Pv (i + 1), fun H' p' => ⟨n - (i + 1), by omega, ⟨hlt, rfl⟩, p'⟩, fun x H' y => hs i x H H' hlt hP (w.yields i H x H' hlt hGH y)⟩
  · obtain rfl : i = n := by omega
    exact .inl ⟨w.stops H hGH, hd H hP⟩
theorem sqT_but3 {K : PySem.W.Frag} {H H' : Hp} {a c r p : Addr} {m : Nat} {xs : List V} (d : Dk3 H a c r m) (b : But a r H H') (h : SqT K H p xs) : SqT K H' p xs := by
  rcases h with (h | ⟨o, h⟩) | h
  · exact .inl (.inl (tup_but3 d b h))
  · have q := d.apart h (fun _ => by intro z; cases z)
    exact .inl (.inr ⟨o, b _ _ q.1 q.2 h⟩)
  · exact .inr h
theorem Shw.intA {i : Int} {k : Nat} (hk : 0 < k) (hk2 : k ≤ 100) (h : i.natAbs < 10 ^ k) : Shw 0 (k + 1) (.int i) := by
  by_cases h0 : 0 ≤ i
  · have h1 : i < 10 ^ k := by
      have e : ((i.natAbs : Nat) : Int) = i := Int.natAbs_of_nonneg h0
      have : ((i.natAbs : Nat) : Int) < ((10 ^ k : Nat) : Int) := by exact_mod_cast h
      rw [e, Int.natCast_pow] at this
      exact this
    exact (Shw.int h0 hk hk2 h1).mono (Nat.le_refl _) (Nat.le_succ _)
  · have hn : (0 : Int) ≤ -i := by omega
    have h1 : -i < 10 ^ k := by
      have e : ((i.natAbs : Nat) : Int) = -i := by omega
      have : ((i.natAbs : Nat) : Int) < ((10 ^ k : Nat) : Int) := by exact_mod_cast h
      rw [e, Int.natCast_pow] at this
      exact this
    have p := Shw.int hn hk hk2 h1
    refine ⟨?_, by simp only [PyData.hasDict], by simp [PyData.depth], ?_⟩
    · have := p.sh
      simp only [PyData.showable, decide_eq_true_eq] at this ⊢
      rw [Int.natAbs_neg] at this
      exact this
    · have := p.ln
      simp only [PyData.shown] at this ⊢
      obtain ⟨m, rfl⟩ : ∃ m : Nat, i = Int.negSucc m := by
        cases i with
        | ofNat m => exact absurd (Int.natCast_nonneg m) h0
        | negSucc m => exact ⟨m, rfl⟩
      have e1 : toString (Int.negSucc m) = "-" ++ toString (m + 1) := rfl
      have e2 : toString (-(Int.negSucc m)) = toString (m + 1) := rfl
      rw [e2, PyProof.Rows.ofString_length] at this
      rw [e1, PyProof.Rows.ofString_length, String.toList_append, List.length_append]
      have e3 : ("-" : String).toList.length = 1 := rfl
      omega
theorem shw_big {l : List Int} {m : Nat} (hl : l.length ≤ m) (h : ∀ x ∈ l, x.natAbs < 10 ^ 40) : Shw 1 (m * 43 + 3) (dInts l) := by
  refine Shw.tuple (fun d hd => ?_) (by rw [List.length_map]; exact hl)
  obtain ⟨x, hx, rfl⟩ := List.mem_map.mp hd
  exact Shw.intA (by decide) (by decide) (h x hx)
end Pr
namespace K11
open PySem PySem.Spec PyProof.Rows L2 Pr
def topS (i : Nat) : Stmt := PySem.Challenge.pw_pressrelease_k11_plain_rows.main.body.getD i (.Pass ⟨0, 0, 0, 0⟩)
abbrev sPlain : Stmt := topS 1
abbrev sDraws : Stmt := topS 3
abbrev sNext : Stmt := topS 4
abbrev sRow : Stmt := topS 5
abbrev sOwn : Stmt := topS 6
abbrev sLaw : Stmt := topS 7
def nDraws : List Str := ["_law_script", "_law_cells", "_law_cell"]
theorem scDraws : FnScope nDraws ["_law_script"] (defScope sDraws) := ⟨rfl, rfl, rfl, by decide +kernel, rfl, by decide +kernel, by decide +kernel⟩
def nNext : List Str := ["_law_drawn", "_law_many", "_law_cells", "_law_nth", "_law_rests", "_law_spot", "_law_digit", "_law_mixed", "_law_more"]
theorem scNext : FnScope nNext ["_law_drawn", "_law_many"] (defScope sNext) := ⟨rfl, rfl, rfl, by decide +kernel, rfl, by decide +kernel, by decide +kernel⟩
section
variable {P : Program} {w : World} {K : PySem.W.Frag} {mg : Str → Option Value} {base : Heap}
def spDraws (K : PySem.W.Frag) : Sp := fun vs H Q _ => ∃ (s : Addr) (ns : List Int), vs = [.ref s] ∧ SqL K H s (ns.map V.int) ∧ ns.length ≤ 63 ∧
  ∀ H' a c r, Same H H' → Dk3 H' a c r 1000000 → Q (.ref a) H'
theorem ok_draws {f : Addr} {fd : FuncData} {k : Nat} (F : Fun K "_law_draws" "_law_draws" sDraws f fd) (ml : mg "len" = none) (mli : mg "list" = none) (mi : mg "int" = none) : FnOk P w K mg base CX0 (k + 1) f fd ["_law_script"] (spDraws K) := by
  refine F.ok scDraws (fun vs H Q E h => ?_) (fun cdv A outer s H vs Q E hr h => ?_)
  · obtain ⟨s, ns, rfl, _⟩ := h
    rfl
  · obtain ⟨sa, ns, rfl, hS, hlen, q⟩ := h
    refine ⟨_, pss_cons (ps_set (i := 1) scDraws.nd rfl (.inl rfl) (pe_op op_cat (pe_callTy call_list_of (by rfl) mli (by decide +kernel) (pa_cons (pe_slice sl_list (pv 0) po_none (po_some pe_int)) pa_nil))
        (pe_op op_rep (pe_lst (pa_cons pe_int pa_nil)) (pe_callTy call_int1 (by rfl) mi (by decide +kernel) (pa_cons (pe_cmpR op_eq (pe_callB call_len_seq (by rfl) ml PySem.boot_len (pa_cons (pv 0) pa_nil)) pe_int (nomark _)) pa_nil)))))
      (pss_one (ps_ret (pe_lst (pa_cons (pv 1) (pa_cons pe_int (pa_cons
        (pe_lc (own := [("_law_cell", 2)]) (g := gName 2) (tt := tYes) rfl scDraws.nd (pi_list (pv 1))
          (blkOk_by (own := [("_law_cell", 2)]) (N := nDraws) (sc := defScope sDraws) (by decide +kernel))
          (fun _ _ _ _ _ => pg_name (i := 2) scDraws.nd rfl (Or.inl rfl)) (fun _ _ _ _ _ => pts_nil)
          (fun _ _ _ _ _ => pe_op op_mul (pv 2) (pe_callTy call_int1 (by rfl) mi (by decide +kernel) (pa_cons (pe_cmpR op_ge (pv 2) (pe_op op_pow pe_int pe_int) (nomark _)) pa_nil))))
        pa_nil)))))), ?_⟩
    refine ⟨.ref sa, rfl, 63, rfl, sa, ns.map V.int, rfl, hS, fun l nl => ?_⟩
    rw [cut63 ns hlen]
    have s1 : Same H (upd H l (.lst (ns.map V.int))) := same_new nl
    refine ⟨l, _, rfl, .inl (.inl (.inl upd_same)), fun l2 nl2 => ?_⟩
    have s2 := s1.trans (same_new (o := .lst (ns.map V.int)) nl2)
    refine ⟨by show 1 ≤ sizeLine; decide, fun L nL => ?_⟩
    have s3 := s2.trans (same_new (o := .lst [.int 0]) nL)
    refine ⟨.ref sa, rfl, sa, _, rfl, .inl (s3.seq hS), rfl, .inr ⟨_, rfl, L, _, _, rfl, rfl, upd_same, ?_, ?_, ?_, fun p np => ?_⟩⟩
    · split <;> omega
    · split <;> omega
    · split <;> (show 1 * _ ≤ sizeLine; decide)
    · obtain ⟨ex, hex, lex⟩ : ∃ ex : List Int, (List.replicate (if decide (V.int ((ns.map V.int).length : Nat) = V.int 0) = true then (1 : Int) else 0).toNat [V.int 0]).flatten = ex.map V.int ∧ (1 ≤ (ns ++ ex).length ∧ (ns ++ ex).length ≤ 63) := by
        by_cases e : ns = []
        · subst e
          exact ⟨[0], rfl, by decide, by decide⟩
        · have hl : 0 < ns.length := List.length_pos_iff.mpr e
          have hne : ¬ (V.int ((ns.map V.int).length : Nat) = V.int 0) := fun z => by
            have := V.int.inj z
            rw [List.length_map] at this; omega
          refine ⟨[], ?_, by rw [List.append_nil]; exact ⟨hl, hlen⟩⟩
          rw [decide_eq_false hne]; rfl
      rw [hex]
      have s4 := s3.trans (same_new (o := .lst (ex.map V.int)) np)
      have np2 : l2 ≠ L := ne_of_none upd_same nL
      have e2 : (upd (upd (upd (upd H l (.lst (ns.map V.int))) l2 (.lst (ns.map V.int))) L (.lst [.int 0])) p (.lst (ex.map V.int))) l2 = some (.lst (ns.map V.int)) :=
        (same_new np) _ _ ((same_new nL) _ _ upd_same)
      refine ⟨l2, p, _, _, rfl, rfl, e2, upd_same, ?_, fun c nc => ?_⟩
      · rw [List.length_append] at lex
        rw [List.length_map, List.length_map]
        exact Nat.le_of_lt (small1000 (by omega))
      · rw [← List.map_append]
        generalize ns ++ ex = cells at lex ⊢
        have s5 := s4.trans (same_new (o := .lst (cells.map V.int)) nc)
        refine gen_name (fun H5 => Same H H5 ∧ H5 c = some (.lst (cells.map V.int))) ⟨s5, upd_same⟩ fun H5 ⟨s5, ec⟩ => ?_
        refine ⟨.ref c, rfl, .ref c, rfl, c, rfl, ⟨_, .inl (.inl ec)⟩, fun D nD => ?_⟩
        refine lc_list (xs := cells.map V.int) (fun i H6 => Same H5 H6 ∧ ∃ rests : List Int, rests.length = i ∧ H6 D = some (.lst (rests.map V.int)))
          ⟨same_new nD, [], rfl, upd_same⟩ (fun i H6 _ hP => hP.1.seq (.inl (.inl ec))) (fun i x H6 hx hP => ?_) (fun H6 hP => ?_)
        · obtain ⟨s6, rests, hrl, eD⟩ := hP
          obtain ⟨z, hz, rfl⟩ := int_get hx
          have hi : i < cells.length := (List.getElem?_eq_some_iff.mp hz).1
          refine ⟨rfl, tyes (iteT ⟨.int z, rfl, .int z, rfl, 10, 18, rfl, rfl, ⟨by decide, by decide, by decide⟩, z, _, rfl, rfl, .inr ⟨_, rfl, z, _, rfl, rfl, .inr ?_, rests.map V.int, eD, ?_, ?_, rests ++ [z * (if decide (10 ^ Int.toNat 18 ≤ z) = true then 1 else 0)], ?_, ?_⟩⟩)⟩
          · split <;> exact ⟨by decide, by decide⟩
          · rw [List.length_map]; exact small1000 (by omega)
          · intro b o e
            rw [upd_ne (ne_of_none e nD)]
            exact s6 _ _ e
          · rw [List.length_append, hrl]; rfl
          · rw [upd_same, List.map_append]; rfl
        · obtain ⟨s6, rests, hrl, eD⟩ := hP
          rw [List.length_map] at hrl
          refine ⟨by show 3 ≤ sizeLine; decide, fun a na => ?_⟩
          have ec6 := s6 _ _ ec
          refine q _ a c D ((s5.trans s6).trans (same_new na)) ⟨cells, rests, 0, upd_same, (same_new na) _ _ ec6, (same_new na) _ _ eD, Ne.symm (ne_of_none ec6 na), Ne.symm (ne_of_none eD na), ne_of_none ec nD, lex.1, lex.2, hrl, by omega⟩

def spNext : Sp := fun vs H Q _ => ∃ (a c r : Addr) (m : Nat) (lim : Int), vs = [.ref a, .int lim] ∧ Dk3 H a c r (m + 1) ∧ 0 < lim ∧ lim < 1000000 ∧
  ∀ H' x, But a r H H' → Dk3 H' a c r m → 0 ≤ x → x < lim → Q (.int x) H'
theorem ok_next {f : Addr} {fd : FuncData} {k : Nat} (F : Fun K "_law_next" "_law_next" sNext f fd) (ml : mg "len" = none) : FnOk P w K mg base CX0 (k + 1) f fd ["_law_drawn", "_law_many"] spNext := by
  refine F.ok scNext (fun vs H Q E h => ?_) (fun cdv A outer s H vs Q E hr h => ?_)
  · obtain ⟨a, c, r, m, lim, rfl, _⟩ := h
    rfl
  · obtain ⟨a, c, r, m, lim, rfl, hD, l0, l1, q⟩ := h
    refine ⟨_, pss_cons (ps_asg (pv 0) (pg_unl rfl (pgs_cons (pg_name (i := 2) scNext.nd rfl (.inl rfl)) (pgs_cons (pg_name (i := 3) scNext.nd rfl (.inl rfl)) (pgs_cons (pg_name (i := 4) scNext.nd rfl (.inl rfl)) pgs_nil)))))
      (pss_cons (ps_set (i := 5) scNext.nd rfl (.inl rfl) (pe_op op_mod (pv 3) (pe_callB call_len_seq (by rfl) ml PySem.boot_len (pa_cons (pv 2) pa_nil))))
      (pss_cons (ps_asg (pe_op op_add (pv 3) pe_int) (pg_sub (pv 0) pe_int set_list))
      (pss_cons (ps_if (pt_cmpR op_gt (pe_ix ix_list (pv 4) (pv 5) (fun _ _ => rfl)) pe_int (nomark _))
        (pss_cons (ps_set (i := 6) scNext.nd rfl (.inl rfl) (pe_op op_mod (pe_ix ix_list (pv 4) (pv 5) (fun _ _ => rfl)) (pv 1)))
          (pss_cons (ps_asg (pe_op op_fdiv (pe_ix ix_list (pv 4) (pv 5) (fun _ _ => rfl)) (pv 1)) (pg_sub (pv 4) (pv 5) set_list))
          (pss_one (ps_ret (pv 6)))))
        pss_nil)
      (pss_cons (ps_set (i := 7) scNext.nd rfl (.inl rfl) (pe_op op_mod (pe_op op_pow (pe_op op_add (pe_op op_add (pe_op op_mod (pe_ix ix_list (pv 2) (pv 5) (fun _ _ => rfl)) pe_int) (pe_op op_mul pe_int (pv 3))) pe_int) pe_int) pe_int))
      (pss_cons (ps_set (i := 8) scNext.nd rfl (.inl rfl) (pe_op op_mod (pe_op op_pow (pe_op op_add (pe_op op_add (pv 7) (pe_op op_mul (pe_op op_mul pe_int (pv 3)) (pv 3))) pe_int) pe_int) pe_int))
      (pss_one (ps_ret (pe_op op_mod (pe_op op_mod (pe_op op_add (pe_op op_mul (pv 8) pe_int) (pv 7)) pe_int) (pv 1))))))))), ?_⟩
    obtain ⟨cells, rests, n, ha, hc, hrr, nac, nar, ncr, lc0, lc1, lr, hn⟩ := hD
    refine ⟨.ref a, rfl, a, _, rfl, .inl (.inl ha), rfl, _, _, rfl, _, _, rfl, _, _, rfl, rfl, ?_⟩
    have hcl : ((cells.map V.int).length : Int) = (cells.length : Int) := by rw [List.length_map]
    refine ⟨.int (n : Int), rfl, .ref c, rfl, c, _, rfl, .inl (.inl (.inl hc)), _, _, rfl, rfl, (by rw [hcl]; omega), ?_⟩
    rw [hcl]
    have l2 := Int.emod_nonneg (n : Int) (show ((cells.length : Int)) ≠ 0 by omega)
    have l3 := Int.emod_lt_of_pos (n : Int) (show (0 : Int) < (cells.length : Int) by omega)
    obtain ⟨j, hj⟩ : ∃ j : Nat, (n : Int) % (cells.length : Int) = (j : Int) := ⟨_, (Int.toNat_of_nonneg l2).symm⟩
    dsimp only
    rw [hj]
    have hjl : j < cells.length := by omega
    have hjr : j < rests.length := by omega
    have gj : (cells.map V.int)[j]? = some (.int cells[j]) := by rw [List.getElem?_map, List.getElem?_eq_getElem hjl]; rfl
    have gr : (rests.map V.int)[j]? = some (.int rests[j]) := by rw [List.getElem?_map, List.getElem?_eq_getElem hjr]; rfl
    refine ⟨.int (n : Int), rfl, (n : Int), 1, rfl, rfl, .ref a, rfl, a, _, 1, 1, rfl, rfl, ha, rfl, ?_⟩
    refine gen_heap (fun H1 => H1 a = some (.lst [.ref c, .int ((n : Int) + 1), .ref r]) ∧ H1 c = some (.lst (cells.map V.int)) ∧ H1 r = some (.lst (rests.map V.int)) ∧ But a r H H1)
      ⟨upd_same, by rw [upd_ne (Ne.symm nac)]; exact hc, by rw [upd_ne (Ne.symm nar)]; exact hrr, fun b o h1 _ e => by rw [upd_ne h1]; exact e⟩ fun H1 ⟨ha1, hc1, hr1, b1⟩ => ?_
    have hcs : SqL K H1 c (cells.map V.int) := .inl (.inl hc1)
    have hrs : SqL K H1 r (rests.map V.int) := .inl (.inl hr1)
    refine ⟨.ref r, rfl, .int (j : Int), rfl, r, _, _, _, rfl, rfl, hrs, atI_nat gr, _, 0, rfl, rfl, _, rfl, ite2 (fun e => ?_) (fun e => ?_)⟩
    · refine ⟨.ref r, rfl, .int (j : Int), rfl, r, _, _, _, rfl, rfl, hrs, atI_nat gr, .int lim, rfl, _, lim, rfl, rfl, l0, ?_⟩
      refine ⟨.ref r, rfl, .int (j : Int), rfl, r, _, _, _, rfl, rfl, hrs, atI_nat gr, .int lim, rfl, _, lim, rfl, rfl, ⟨l0, by omega⟩, .ref r, rfl, .int (j : Int), rfl, r, _, _, j, rfl, rfl, hr1, ixN_nat (by rw [List.length_map]; exact hjr), ?_⟩
      refine ⟨_, rfl, q _ _ (b1.trans fun b o _ h2 e => by rw [upd_ne h2]; exact e) ⟨cells, rests.set j (rests[j] / lim), n + 1, ?_, ?_, ?_, nac, nar, ncr, lc0, lc1, ?_, by omega⟩ (Int.emod_nonneg _ (by omega)) (Int.emod_lt_of_pos _ l0)⟩
      · rw [upd_ne nar, ha1]; rfl
      · rw [upd_ne ncr]; exact hc1
      · rw [upd_same, List.map_set]
      · rw [List.length_set]; exact lr
    · have m1 : 0 ≤ cells[j] % 2147483647 := Int.emod_nonneg _ (by decide)
      have m2 : cells[j] % 2147483647 < 2147483647 := Int.emod_lt_of_pos _ (by decide)
      refine ⟨.ref c, rfl, .int (j : Int), rfl, c, _, _, _, rfl, rfl, hcs, atI_nat gj, _, 2147483647, rfl, rfl, (by show (0 : Int) < 2147483647; decide), .int (n : Int), rfl, 69621, (n : Int), rfl, rfl, .inl ⟨by decide, by decide⟩, _, _, rfl, rfl, _, 30269, rfl, rfl, _, 3, rfl, rfl, ⟨by decide, by decide, ?_⟩,
        _, 2147483629, rfl, rfl, (by show (0 : Int) < 2147483629; decide), ?_⟩
      · omega
      · dsimp only
        generalize hmx : (cells[j] % 2147483647 + 69621 * (n : Int) + 30269) ^ (3 : Int).toNat % 2147483629 = mx
        have x1 : 0 ≤ mx := by rw [← hmx]; exact Int.emod_nonneg _ (by decide)
        have x2 : mx < 2147483629 := by rw [← hmx]; exact Int.emod_lt_of_pos _ (by decide)
        have nn : (6007 * (n : Int)) * (n : Int) ≤ 6007000000 * 1000000 := by
          have a1 : 6007 * (n : Int) ≤ 6007000000 := by omega
          exact Int.le_trans (Int.mul_le_mul_of_nonneg_right a1 (by omega)) (Int.mul_le_mul_of_nonneg_left (by omega) (by decide))
        have nn0 : 0 ≤ (6007 * (n : Int)) * (n : Int) := Int.mul_nonneg (by omega) (by omega)
        refine ⟨.int mx, rfl, .int (n : Int), rfl, 6007, (n : Int), rfl, rfl, .inl ⟨by decide, by decide⟩, .int (n : Int), rfl, _, (n : Int), rfl, rfl, .inr ⟨by omega, by omega⟩, mx, _, rfl, rfl, _, 17, rfl, rfl, _, 3, rfl, rfl, ⟨by decide, by decide, ?_⟩, _, 2147483587, rfl, rfl, (by show (0 : Int) < 2147483587; decide), ?_⟩
        · generalize (6007 * (n : Int)) * (n : Int) = y at nn nn0 ⊢
          omega
        · dsimp only
          generalize (mx + 6007 * (n : Int) * (n : Int) + 17) ^ (3 : Int).toNat % 2147483587 = my
          refine ⟨.int my, rfl, my, 2147483423, rfl, rfl, .inr ⟨by decide, by decide⟩, .int mx, rfl, _, mx, rfl, rfl, _, 4611686018427387847, rfl, rfl, (by show (0 : Int) < 4611686018427387847; decide), .int lim, rfl, _, lim, rfl, rfl, l0, ?_⟩
          exact q _ _ b1 ⟨cells, rests, n + 1, by rw [ha1]; rfl, hc1, hr1, nac, nar, ncr, lc0, lc1, lr, by omega⟩ (Int.emod_nonneg _ (by omega)) (Int.emod_lt_of_pos _ l0)
end
end K11
namespace K11
open PySem PySem.Spec PyProof.Rows L2 Pr
def nRow : List Str := ["_law_drawn", "_law_n", "_law_most", "_law_press"]
theorem scRow : FnScope nRow ["_law_drawn", "_law_n", "_law_most"] (defScope sRow) := ⟨rfl, rfl, rfl, by decide +kernel, rfl, by decide +kernel, by decide +kernel⟩
section
variable {P : Program} {w : World} {K : PySem.W.Frag} {mg : Str → Option Value} {base : Heap}
def spRow : Sp := fun vs H Q _ => ∃ (a c r : Addr) (m : Nat) (n most : Int), vs = [.ref a, .int n, .int most] ∧ Dk3 H a c r (m + 61) ∧ 1 ≤ n ∧ n < 1000000 ∧ 0 ≤ most ∧ most ≤ 60 ∧
  ∀ (H' : Hp) (t : Addr) (row : List Int), But a r H H' → Dk3 H' a c r m → FT H' t (row.map V.int) → (∀ x ∈ row, 0 ≤ x ∧ x < n) → (row.length : Int) ≤ most → Q (.ref t) H'
theorem ok_row {f fD : Addr} {fd fdD : FuncData} {k : Nat} (F : Fun K "_law_row" "_law_row" sRow f fd) (FD : Fun K "_law_next" "_law_next" sNext fD fdD) (bD : Binds K fdD ["_law_drawn", "_law_many"] []) (gD : mg "_law_next" = some (.ref fD))
    (ml : mg "len" = none) (mr : mg "range" = none) (mt : mg "tuple" = none) : FnOk P w K mg base CX0 (k + 2) f fd ["_law_drawn", "_law_n", "_law_most"] spRow := by
  have GD : FnOk P w K mg base CX0 (k + 1) fD fdD ["_law_drawn", "_law_many"] spNext := ok_next FD ml
  refine F.ok scRow (fun vs H Q E h => ?_) (fun cdv A outer s H vs Q E hr h => ?_)
  · obtain ⟨a, c, r, m, n, most, rfl, _⟩ := h
    rfl
  · obtain ⟨a, c, r, m, n, most, rfl, hD, n1, n2, m1, m2, q⟩ := h
    refine ⟨_, pss_one (ps_ret (pe_callTy call_tupF (by rfl) mt (by decide +kernel) (pa_cons
        (pe_lc (own := [("_law_press", 3)]) (g := gName 3) (tt := tYes) rfl scRow.nd (pi_range1 (by rfl) mr (pa_cons (pe_call GD hr (by rfl) gD FD.kp bD .nil pass0 (pa_cons (pv 0) (pa_cons (pe_op op_add (pv 2) pe_int) pa_nil))) pa_nil))
          (blkOk_by (own := [("_law_press", 3)]) (N := nRow) (sc := defScope sRow) (by decide +kernel)) (fun _ _ _ _ _ => pg_name (i := 3) scRow.nd rfl (Or.inl rfl)) (fun _ _ _ _ _ => pts_nil)
          (fun _ _ _ _ _ => pe_call GD hr (by rfl) gD FD.kp bD .nil pass0 (pa_cons (pv 0) (pa_cons (pv 1) pa_nil)))) pa_nil))), ?_⟩
    refine ⟨.ref a, rfl, .int most, rfl, most, 1, rfl, rfl, a, c, r, m + 60, most + 1, rfl, hD, by omega, by omega, fun H1 y b1 D1 y0 y1 => ?_⟩
    obtain ⟨yn, rfl⟩ : ∃ yn : Nat, y = (yn : Int) := ⟨y.toNat, (Int.toNat_of_nonneg y0).symm⟩
    refine ⟨_, rfl, by omega, by omega, fun D nD => ?_⟩
    have oD := D1.fresh nD
    refine lc_range (n := yn) (fun i H2 => But a r H1 H2 ∧ Dk3 H2 a c r (m + 60 - i) ∧ ∃ acc : List Int, H2 D = some (.lst (acc.map V.int)) ∧ acc.length = i ∧ ∀ x ∈ acc, 0 ≤ x ∧ x < n)
      ⟨But.of (same_new nD), (D1.same (same_new nD)).less (by omega), [], upd_same, rfl, fun x h => by cases h⟩ (fun i H2 hi hP => ?_) (fun H2 hP => ?_)
    · obtain ⟨b2, D2, acc, eD, al, am⟩ := hP
      refine ⟨rfl, tyes (iteT ⟨.ref a, rfl, .int n, rfl, a, c, r, m + 60 - (i + 1), n, rfl, D2.less (by omega), by omega, n2, fun H3 z b3 D3 z0 z1 => ⟨acc.map V.int, b3 _ _ oD.1 oD.2.1 eD, ?_, ?_, D3.upd oD, acc ++ [z], ?_, ?_, ?_⟩⟩)⟩
      · rw [List.length_map]; exact small1000 (by omega)
      · intro b o h1 h2 e
        rw [upd_ne (ne_of_none e nD)]
        exact b3 _ _ h1 h2 (b2 _ _ h1 h2 e)
      · rw [upd_same, List.map_append]; rfl
      · rw [List.length_append, al]; rfl
      · intro x hx
        rcases List.mem_append.mp hx with h | h
        · exact am x h
        · rw [List.mem_singleton.mp h]; exact ⟨z0, z1⟩
    · obtain ⟨b2, D2, acc, eD, al, am⟩ := hP
      refine ⟨D, _, rfl, .inl (.inl eD), fun t o nt ho => ?_⟩
      exact q _ t acc ((b1.trans b2).trans (But.of (same_new nt))) ((D2.same (same_new nt)).less (by omega)) ⟨o, upd_same, ho⟩ am (by omega)
end
end K11
namespace K11
open PySem PySem.Spec PyProof.Rows L2 Pr
def nPlain : List Str := ["row", "last", "index", "button"]
theorem scPlain : FnScope nPlain ["row"] (defScope sPlain) := ⟨rfl, rfl, rfl, by decide +kernel, rfl, by decide +kernel, by decide +kernel⟩
section
variable {P : Program} {w : World} {K : PySem.W.Frag} {mg : Str → Option Value} {base : Heap}
def spPlain (K : PySem.W.Frag) : Sp := fun vs H Q _ => ∃ (r : Addr) (row : List Int), vs = [.ref r] ∧ SqT K H r (row.map V.int) ∧ row.length ≤ 1000 ∧
  ∀ H' t, Same H H' → H' t = some (.tup ((plainM row).map V.int)) → Q (.ref t) H'
theorem ok_plain {f : Addr} {fd : FuncData} {k : Nat} (F : Fun K "plain_row" "plain_row" sPlain f fd) (me : mg "enumerate" = none) (mt : mg "tuple" = none) : FnOk P w K mg base CX0 (k + 1) f fd ["row"] (spPlain K) := by
  refine F.ok scPlain (fun vs H Q E h => ?_) (fun cdv A outer s H vs Q E hr h => ?_)
  · obtain ⟨r, row, rfl, _⟩ := h
    rfl
  · obtain ⟨r, row, rfl, hrow, few, q⟩ := h
    have hu := hu_of hr
    refine ⟨_, pss_cons (ps_set (i := 1) scPlain.nd rfl (.inr rfl) (pe_dc (own := [("index", 2), ("button", 3)]) (g := gTup K 2 (gCons (gName 2) (gCons (gName 3) gNil))) (tt := tYes) rfl scPlain.nd (pi_enumT (by rfl) me (pa_cons (pv 0) pa_nil))
          (blkOk_by (own := [("index", 2), ("button", 3)]) (N := nPlain) (sc := defScope sPlain) (by decide +kernel))
          (fun _ _ _ _ _ => pg_tup rfl (pgs_cons (pg_name (i := 2) scPlain.nd rfl (Or.inl rfl)) (pgs_cons (pg_name (i := 3) scPlain.nd rfl (Or.inl rfl)) pgs_nil)))
          (fun _ _ _ _ _ => pts_nil) (fun _ _ _ _ _ => pv 3) (fun _ _ _ _ _ => pv 2)))
      (pss_one (ps_ret (pe_callTy call_tuple_of (by rfl) mt (by decide +kernel) (pa_cons
        (pe_lc (own := [("index", 2), ("button", 3)]) (g := gTup K 2 (gCons (gName 2) (gCons (gName 3) gNil))) rfl scPlain.nd (pi_enumT (by rfl) me (pa_cons (pv 0) pa_nil))
          (blkOk_by (own := [("index", 2), ("button", 3)]) (N := nPlain) (sc := defScope sPlain) (by decide +kernel))
          (fun _ _ _ _ _ => pg_tup rfl (pgs_cons (pg_name (i := 2) scPlain.nd rfl (Or.inl rfl)) (pgs_cons (pg_name (i := 3) scPlain.nd rfl (Or.inl rfl)) pgs_nil)))
          (fun _ _ _ _ _ => pts_one (pt_cmpR op_eq (pe_dget hu (pv 1) (pv 3) (fun _ _ => rfl)) (pv 2) (nomark _)))
          (fun _ _ _ _ _ => pv 3)) pa_nil)))), ?_⟩
    refine ⟨.ref r, rfl, r, _, rfl, hrow, fun L nL => ?_⟩
    have hl : (row.map V.int).length = row.length := List.length_map ..
    refine dc_it (walk_enumT (xs := row.map V.int)) (fun i H3 => Same H H3 ∧ ∃ kvs, H3 L = some (.dK kvs) ∧ kvs.length ≤ i ∧ LastAt row i kvs) ⟨same_new nL, [], upd_same, Nat.le_refl _, LastAt.nil _ _⟩ (fun i H3 _ hP => same_sqT hP.1 hrow) (fun i x H3 H4 hi hP hY => ?_) (fun H3 hP => ?_)
    · obtain ⟨s3, kvs, eL, kl, la⟩ := hP
      obtain ⟨T, x1, x2, rfl, nT, rfl, e1, e2⟩ := hY
      cases e1
      obtain ⟨z, hz, rfl⟩ := int_get e2
      have sT : Same H3 (upd H3 T (.tup [.int (i : Nat), .int z])) := same_new nT
      rw [hl] at hi
      refine ⟨T, _, rfl, .inl (.inl upd_same), rfl, _, _, rfl, _, _, rfl, rfl, rfl, tyes (iteT ⟨.int z, rfl, .int (i : Int), rfl, kvs, Sum.inl z, rfl, sT _ _ eL, small1000 (by omega), ?_, _, upd_same, ?_, la.put hz⟩)⟩
      · intro b' o e
        rw [upd_ne (ne_of_none e nL)]
        exact sT _ _ (s3 _ _ e)
      · have := length_putK kvs (Sum.inl z) (.int (i : Int))
        omega
    · obtain ⟨s3, kvs, eL, kl, la⟩ := hP
      rw [hl] at la
      refine ⟨.ref r, rfl, r, _, rfl, same_sqT s3 hrow, fun D nD => ?_⟩
      refine lc_it (walk_enumT (xs := row.map V.int)) (fun i H4 => Same H3 H4 ∧ ∃ acc : List Int, H4 D = some (.lst (acc.map V.int)) ∧ acc.length ≤ i ∧ acc ++ plainM (row.drop i) = plainM row) ⟨same_new nD, [], upd_same, Nat.le_refl _, rfl⟩ (fun i H4 _ hP => same_sqT (s3.trans hP.1) hrow) (fun i x H4 H5 hi hP hY => ?_) (fun H4 hP => ?_)
      · obtain ⟨s4, acc, eD, al, ae⟩ := hP
        obtain ⟨T, x1, x2, rfl, nT, rfl, e1, e2⟩ := hY
        cases e1
        obtain ⟨z, hz, rfl⟩ := int_get e2
        have sT : Same H4 (upd H4 T (.tup [.int (i : Nat), .int z])) := same_new nT
        rw [hl] at hi
        obtain ⟨j, hj, hji⟩ := la.is hz
        have pd := plainM_drop hz
        refine ⟨T, _, rfl, .inl (.inl upd_same), rfl, _, _, rfl, _, _, rfl, rfl, rfl, .ref L, rfl, .int z, rfl, L, .int (j : Int), rfl, ?_, .int (i : Int), rfl, rfl, _, rfl, ite2 (fun e => ?_) (fun e => ?_)⟩
        · rw [← hj]
          exact DGet.k (k := Sum.inl z) (sT _ _ (s4 _ _ eL))
        · have e' : j = i := by
            have := V.int.inj (of_decide_eq_true e)
            omega
          rw [if_neg (hji.mp e')] at pd
          refine ⟨.int z, rfl, acc.map V.int, sT _ _ eD, by rw [List.length_map]; exact small1000 (by omega), ?_, acc ++ [z], ?_, by rw [List.length_append]; show acc.length + 1 ≤ i + 1; omega, ?_⟩
          · intro b' o e
            rw [upd_ne (ne_of_none e nD)]
            exact sT _ _ (s4 _ _ e)
          · rw [upd_same, List.map_append]; rfl
          · rw [← ae, pd, List.append_assoc]; rfl
        · have e' : ¬ j = i := fun q => e (by rw [q]; exact decide_eq_true rfl)
          have hm : z ∈ row.drop (i + 1) := Classical.byContradiction fun hn => e' (hji.mpr hn)
          rw [if_pos hm] at pd
          exact ⟨s4.trans sT, acc, sT _ _ eD, by omega, by rw [← ae, pd]⟩
      · obtain ⟨s4, acc, eD, al, ae⟩ := hP
        rw [hl, List.drop_length] at ae
        have ae' : acc = plainM row := by rw [← ae]; exact (List.append_nil _).symm
        rw [ae'] at eD
        exact ⟨D, _, rfl, .inl ⟨.inl (.inl eD), fun t nt => q _ t ((s3.trans s4).trans (same_new nt)) upd_same⟩⟩

theorem scOwn : FnScope ["_law_row_here", "_law_found", "_law_number"] ["_law_row_here"] (defScope sOwn) := ⟨rfl, rfl, rfl, by decide +kernel, rfl, by decide +kernel, by decide +kernel⟩
theorem ok_own {f : Addr} {fd : FuncData} {k : Nat} (F : Fun K "_law_plain" "_law_plain" sOwn f fd) (mt : mg "tuple" = none) : FnOk P w K mg base CX0 (k + 1) f fd ["_law_row_here"] (spPlain K) := by
  refine F.ok scOwn (fun vs H Q E h => ?_) (fun cdv A outer s H vs Q E hr h => ?_)
  · obtain ⟨r, row, rfl, _⟩ := h
    rfl
  · obtain ⟨r, row, rfl, hrow, few, q⟩ := h
    refine ⟨_, pss_cons (ps_set (i := 1) scOwn.nd rfl (.inl rfl) (pe_lst pa_nil))
      (pss_cons (ps_for PassesOwn.never rfl (pi_tup (pe_revT (pv 0))) (pg_name (i := 2) scOwn.nd rfl (.inl rfl))
        (pss_one (ps_if (pt_cmpR (show OpR _ _ (rIn K true) from op_notIn_seq) (pv 2) (pv 1) (by rfl))
          (pss_one (ps_expr (pe_bm PySem.F.plainAttrs_list PySem.F.slot_list_insert PySem.F.type_list_insert mt_insert (pv 1) (pa_cons pe_int (pa_cons (pv 2) pa_nil))))) pss_nil)))
      (pss_one (ps_ret (pe_callTy call_tuple_of (by rfl) mt (by decide +kernel) (pa_cons (pv 1) pa_nil))))), ?_⟩
    refine ⟨Nat.zero_le _, fun W nW => ?_⟩
    have s1 : Same H (upd H W (.lst [])) := same_new nW
    refine ⟨.ref r, rfl, r, _, rfl, same_sqT s1 hrow, fun B nB => ?_⟩
    have s2 := s1.trans (same_new (o := .tup (row.map V.int).reverse) nB)
    have nWB : W ≠ B := ne_of_none upd_same nB
    rw [← List.map_reverse]
    refine ⟨B, rfl, ⟨_, .inl (.inl upd_same)⟩, ?_⟩
    refine for_tup (xs := row.reverse.map V.int) (fun i σ H3 => Same H H3 ∧ H3 B = some (.tup (row.reverse.map V.int)) ∧ H3 W = some (.lst ((plainM (row.drop (row.length - i))).map V.int)) ∧ ∃ x2, σ = [some (.ref r), some (.ref W), x2])
      ⟨by rw [List.map_reverse]; exact s2, upd_same, ?_, none, rfl⟩ (fun i σ H3 _ hP => .inl (.inl hP.2.1)) (fun i x σ H3 hx hP => ?_) (fun σ H3 hP => ?_)
    · rw [upd_ne nWB, upd_same, Nat.sub_zero, List.drop_length]; rfl
    · obtain ⟨s3, eB, eW, x2, rfl⟩ := hP
      obtain ⟨z, hz, rfl⟩ := int_get hx
      have hi : i < row.length := by
        have := (List.getElem?_eq_some_iff.mp hz).1
        rw [List.length_reverse] at this; exact this
      rw [List.getElem?_reverse hi] at hz
      have pd := plainM_drop hz
      rw [show row.length - 1 - i = row.length - (i + 1) by omega, show row.length - (i + 1) + 1 = row.length - i by omega] at pd
      have pl := plainM_len (row.drop (row.length - i))
      rw [List.length_drop] at pl
      refine ⟨.int z, rfl, .ref W, rfl, W, _, rfl, .inl (.inl (.inl eW)), rfl, flat_ints _, _, rfl, ?_⟩
      rw [if_pos rfl, inV_ints]
      refine ite2 (fun e => ?_) (fun e => ?_)
      · have e' : z ∉ row.drop (row.length - i) := fun h => by
          have := plainM_mem.mpr h
          rw [decide_eq_true this] at e
          exact absurd e (by decide)
        rw [if_neg e'] at pd
        refine ⟨.ref W, rfl, .inl ⟨rfl, _, .inl (.inl eW)⟩, .int z, rfl, W, _, 0, .int z, rfl, rfl, eW, by rw [List.length_map]; exact small1000 (by omega), by decide, by decide, ?_, ?_, ?_, _, rfl⟩
        · intro b o e
          rw [upd_ne (ne_of_none e nW)]; exact s3 _ _ e
        · rw [upd_ne (Ne.symm nWB)]; exact eB
        · rw [upd_same, pd]; rfl
      · have e' : z ∈ row.drop (row.length - i) := Classical.byContradiction fun h => e (by
          rw [decide_eq_false (fun q => h (plainM_mem.mp q))]; rfl)
        rw [if_pos e'] at pd
        exact ⟨s3, eB, by rw [pd]; exact eW, _, rfl⟩
    · obtain ⟨s3, eB, eW, x2, rfl⟩ := hP
      rw [List.length_map, List.length_reverse, Nat.sub_self, List.drop_zero] at eW
      exact ⟨.ref W, rfl, W, _, rfl, .inl ⟨.inl (.inl eW), fun t nt => q _ t (s3.trans (same_new nt)) upd_same⟩⟩
end
end K11
namespace K11
open PySem PySem.Spec PyProof.Rows L2 Pr
def RowAt (K : PySem.W.Frag) (H : Hp) (t : Addr) : Prop := ∃ row : List Int, SqT K H t (row.map V.int) ∧ row.length ≤ 1000 ∧ ∀ x ∈ row, x.natAbs < 10 ^ 40
theorem RowAt.same {K : PySem.W.Frag} {H H' : Hp} {t : Addr} (e : Same H H') (h : RowAt K H t) : RowAt K H' t := let ⟨row, h1, h2⟩ := h; ⟨row, same_sqT e h1, h2⟩
theorem RowAt.but3 {K : PySem.W.Frag} {H H' : Hp} {a c r t : Addr} {m : Nat} (d : Dk3 H a c r m) (b : But a r H H') (h : RowAt K H t) : RowAt K H' t := let ⟨row, h1, h2⟩ := h; ⟨row, sqT_but3 d b h1, h2⟩
theorem sqT_upd {K : PySem.W.Frag} {H : Hp} {R t : Addr} {l xs : List V} {o : HO} (hR : H R = some (.lst l)) (h : SqT K H t xs) : SqT K (upd H R o) t xs := by
  rcases h with (h | ⟨ob, h⟩) | h
  · exact .inl (.inl (by rw [upd_ne (ne_of h hR (by intro z; cases z))]; exact h))
  · exact .inl (.inr ⟨ob, by rw [upd_ne (ne_of h hR (by intro z; cases z))]; exact h⟩)
  · exact .inr h
def RowsAt (K : PySem.W.Frag) (H : Hp) (R : Addr) (n : Nat) : Prop := ∃ ts : List Addr, H R = some (.lst (ts.map V.ref)) ∧ ts.length = n ∧ ∀ t ∈ ts, RowAt K H t
theorem RowsAt.same {K : PySem.W.Frag} {H H' : Hp} {R : Addr} {n : Nat} (e : Same H H') (h : RowsAt K H R n) : RowsAt K H' R n := let ⟨ts, h1, h2, h3⟩ := h; ⟨ts, e _ _ h1, h2, fun t ht => (h3 t ht).same e⟩
theorem RowsAt.but3 {K : PySem.W.Frag} {H H' : Hp} {a c r R : Addr} {m n : Nat} (d : Dk3 H a c r m) (b : But a r H H') (n1 : R ≠ a) (n2 : R ≠ r) (h : RowsAt K H R n) : RowsAt K H' R n :=
  let ⟨ts, h1, h2, h3⟩ := h; ⟨ts, b _ _ n1 n2 h1, h2, fun t ht => (h3 t ht).but3 d b⟩
theorem RowsAt.app {K : PySem.W.Frag} {H : Hp} {R t : Addr} {ts : List Addr} (h1 : H R = some (.lst (ts.map V.ref))) (h3 : ∀ t ∈ ts, RowAt K H t) (ht : RowAt K H t) : RowsAt K (upd H R (.lst (ts.map V.ref ++ [.ref t]))) R (ts.length + 1) := by
  refine ⟨ts ++ [t], by rw [upd_same, List.map_append]; rfl, by rw [List.length_append]; rfl, fun u hu => ?_⟩
  have : RowAt K H u := (List.mem_append.mp hu).elim (h3 u) fun e => by rw [List.mem_singleton.mp e]; exact ht
  obtain ⟨row, g1, g2⟩ := this
  exact ⟨row, sqT_upd h1 g1, g2⟩
abbrev some7 : List V := [.int 0, .int 1, .int (-1), .int (10 ^ (39 : Int).toNat), .int (1 - 10 ^ (39 : Int).toNat), .int 7, .int 60]
theorem pick7 {y : Int} (h0 : 0 ≤ y) (h1 : y < 7) : ∃ v : Int, atI some7 y = some (.int v) ∧ v.natAbs < 10 ^ 40 := by
  obtain rfl | rfl | rfl | rfl | rfl | rfl | rfl : y = 0 ∨ y = 1 ∨ y = 2 ∨ y = 3 ∨ y = 4 ∨ y = 5 ∨ y = 6 := by omega
  · exact ⟨0, rfl, by decide +kernel⟩
  · exact ⟨1, rfl, by decide +kernel⟩
  · exact ⟨-1, rfl, by decide +kernel⟩
  · exact ⟨10 ^ (39 : Int).toNat, rfl, by decide +kernel⟩
  · exact ⟨1 - 10 ^ (39 : Int).toNat, rfl, by decide +kernel⟩
  · exact ⟨7, rfl, by decide +kernel⟩
  · exact ⟨60, rfl, by decide +kernel⟩
theorem small_of {x : Int} (h0 : 0 ≤ x) (h1 : x < 1001) : x.natAbs < 10 ^ 40 := Nat.lt_of_lt_of_le (show x.natAbs < 10 ^ 4 by omega) (by decide +kernel)
def nLaw : List Str := ["_law_script", "_law_drawn", "_law_some", "_law_rows", "_law_turn", "_law_kinds", "_law_many", "_law_row_here", "_law_before", "_law_due", "_law_press"]
theorem scLaw : FnScope nLaw ["_law_script"] (defScope sLaw) := ⟨rfl, rfl, rfl, by decide +kernel, rfl, by decide +kernel, by decide +kernel⟩
section
variable {P : Program} {w : World} {K : PySem.W.Frag} {mg : Str → Option Value} {base : Heap}
def spLaw (K : PySem.W.Frag) : Sp := fun vs H Q _ => ∃ (s : Addr) (ns : List Int), vs = [.ref s] ∧ SqL K H s (ns.map V.int) ∧ ns.length ≤ 63 ∧ ∀ H', Q (.bl true) H'
theorem ok_law {f fP fS fX fR fO : Addr} {fd fdP fdS fdX fdR fdO : FuncData} (F : Fun K "law" "law" sLaw f fd)
    (FP : Fun K "plain_row" "plain_row" sPlain fP fdP) (bP : Binds K fdP ["row"] []) (gP : mg "plain_row" = some (.ref fP))
    (FS : Fun K "_law_draws" "_law_draws" sDraws fS fdS) (bS : Binds K fdS ["_law_script"] []) (gS : mg "_law_draws" = some (.ref fS))
    (FX : Fun K "_law_next" "_law_next" sNext fX fdX) (bX : Binds K fdX ["_law_drawn", "_law_many"] []) (gX : mg "_law_next" = some (.ref fX))
    (FR : Fun K "_law_row" "_law_row" sRow fR fdR) (bR : Binds K fdR ["_law_drawn", "_law_n", "_law_most"] []) (gR : mg "_law_row" = some (.ref fR))
    (FO : Fun K "_law_plain" "_law_plain" sOwn fO fdO) (bO : Binds K fdO ["_law_row_here"] []) (gO : mg "_law_plain" = some (.ref fO))
    (ml : mg "len" = none) (mr : mg "range" = none) (mt : mg "tuple" = none) (mli : mg "list" = none) (mi : mg "int" = none) (me : mg "enumerate" = none) (mp : mg "repr" = none) : FnG P w K mg base 3 f fd ["_law_script"] (spLaw K) := by
  have GP : FnOk P w K mg base CX0 2 fP fdP ["row"] (spPlain K) := ok_plain FP me mt
  have GS : FnOk P w K mg base CX0 2 fS fdS ["_law_script"] (spDraws K) := ok_draws FS ml mli mi
  have GX : FnOk P w K mg base CX0 2 fX fdX ["_law_drawn", "_law_many"] spNext := ok_next FX ml
  have GR : FnOk P w K mg base CX0 2 fR fdR ["_law_drawn", "_law_n", "_law_most"] spRow := ok_row FR FX bX gX ml mr mt
  have GO : FnOk P w K mg base CX0 2 fO fdO ["_law_row_here"] (spPlain K) := ok_own FO mt
  refine okG F scLaw (fun vs H Q E h => ?_) (fun cdv A outer s H vs Q E gd hr h => ?_)
  · obtain ⟨s, ns, rfl, _⟩ := h
    rfl
  · obtain ⟨sc, ns, rfl, hS, hlen, q⟩ := h
    refine ⟨_, pss_cons (ps_set (i := 1) scLaw.nd rfl (.inr rfl) (pe_call GS hr (by rfl) gS FS.kp bS .nil pass0 (pa_cons (pv 0) pa_nil)))
      (pss_cons (ps_set (i := 2) scLaw.nd rfl (.inr rfl) (pe_lst (pa_cons pe_int (pa_cons pe_int (pa_cons (pe_un un_neg pe_int) (pa_cons (pe_op op_pow pe_int pe_int) (pa_cons (pe_op op_sub pe_int (pe_op op_pow pe_int pe_int)) (pa_cons pe_int (pa_cons pe_int pa_nil)))))))))
      (pss_cons (ps_set (i := 3) scLaw.nd rfl (.inl rfl) (pe_lst (pa_cons (pe_tup pa_nil) (pa_cons (pe_tup (pa_cons pe_int pa_nil)) (pa_cons (pe_tup (pa_cons pe_int (pa_cons pe_int pa_nil)))
          (pa_cons (pe_tupRg rfl (by rfl) mt (prg_1 (by rfl) mr pe_int)) (pa_cons (pe_op op_repS (pe_tup (pa_cons pe_int pa_nil)) pe_int) pa_nil)))))))
      (pss_cons (ps_for PassesOwn.never rfl (pi_range1 (by rfl) mr (pa_cons pe_int pa_nil)) (pg_name (i := 4) scLaw.nd rfl (.inl rfl))
        (pss_cons (ps_expr (pe_bm PySem.F.plainAttrs_list PySem.F.slot_list_append PySem.F.type_list_append mt_append (pv 3) (pa_cons (pe_call GR hr (by rfl) gR FR.kp bR .nil pass0
            (pa_cons (pv 1) (pa_cons (pe_op op_add pe_int (pe_call GX hr (by rfl) gX FX.kp bX .nil pass0 (pa_cons (pv 1) (pa_cons pe_int pa_nil)))) (pa_cons pe_int pa_nil)))) pa_nil)))
        (pss_cons (ps_set (i := 5) scLaw.nd rfl (.inr rfl) (pe_op op_add pe_int (pe_call GX hr (by rfl) gX FX.kp bX .nil pass0 (pa_cons (pv 1) (pa_cons pe_int pa_nil)))))
        (pss_cons (ps_set (i := 6) scLaw.nd rfl (.inl rfl) (pe_ix ix_list (pe_lst (pa_cons pe_int (pa_cons pe_int pa_nil))) (pe_callTy call_int1 (by rfl) mi (by decide +kernel) (pa_cons (pe_cmpR op_eq (pv 4) pe_int (nomark _)) pa_nil)) (fun _ _ => rfl)))
        (pss_one (ps_expr (pe_bm PySem.F.plainAttrs_list PySem.F.slot_list_append PySem.F.type_list_append mt_append (pv 3) (pa_cons (pe_callTy call_tupF (by rfl) mt (by decide +kernel) (pa_cons
            (pe_lc (own := [("_law_press", 10)]) (g := gName 10) (tt := tYes) rfl scLaw.nd (pi_range1 (by rfl) mr (pa_cons (pv 6) pa_nil))
              (blkOk_by (own := [("_law_press", 10)]) (N := nLaw) (sc := defScope sLaw) (by decide +kernel)) (fun _ _ _ _ _ => pg_name (i := 10) scLaw.nd rfl (Or.inl rfl)) (fun _ _ _ _ _ => pts_nil)
              (fun _ _ _ _ _ => pe_ix (show IxR _ (rIxL K) from ix_list) (pv 2) (pe_call GX hr (by rfl) gX FX.kp bX .nil pass0 (pa_cons (pv 1) (pa_cons (pv 5) pa_nil))) (fun _ _ => rfl))) pa_nil)) pa_nil))))))))
      (pss_cons (ps_for PassesOwn.never rfl (pi_list (pv 3)) (pg_name (i := 7) scLaw.nd rfl (.inl rfl))
        (pss_cons (ps_par (i := 8) (j := 9) rfl scLaw.nd rfl rfl (by decide) rfl rfl (pa_cons (pe_callB (call_repr gd hr) (by rfl) mp (by decide +kernel) (pa_cons (pv 7) pa_nil)) (pa_cons (pe_call GO hr (by rfl) gO FO.kp bO .nil pass0 (pa_cons (pv 7) pa_nil)) pa_nil)) (by rfl))
        (pss_one (ps_if (PW.pt (pw_or (pt_cmpR op_ne (pe_callB (call_repr gd hr) (by rfl) mp (by decide +kernel) (pa_cons (pe_lst (pa_cons (pe_call GP hr (by rfl) gP FP.kp bP .nil pass0 (pa_cons (pv 7) pa_nil)) (pa_cons (pe_call GP hr (by rfl) gP FP.kp bP .nil pass0 (pa_cons (pv 9) pa_nil)) pa_nil))) pa_nil))
              (pe_callB (call_repr gd hr) (by rfl) mp (by decide +kernel) (pa_cons (pe_lst (pa_cons (pv 9) (pa_cons (pv 9) pa_nil))) pa_nil)) (nomark _))
            (pw_or1 (pt_cmpR op_ne (pe_callB (call_repr gd hr) (by rfl) mp (by decide +kernel) (pa_cons (pv 7) pa_nil)) (pv 8) (nomark _)))))
          (pss_one (ps_ret pe_bl)) pss_nil))))
      (pss_one (ps_ret pe_bl)))))), ?_⟩
    refine ⟨.ref sc, rfl, sc, ns, rfl, hS, hlen, fun H1 a c r s1 D1 => ?_⟩
    -- some
    refine ⟨1, rfl, 10, 39, rfl, rfl, ⟨by decide, by decide, by decide⟩, 10, 39, rfl, rfl, ⟨by decide, by decide, by decide⟩, _, _, rfl, rfl, by show 7 ≤ sizeLine; decide, fun S nS => ?_⟩
    have oS := D1.fresh nS
    refine gen_name (fun H2 => Dk3 H2 a c r 1000000 ∧ H2 S = some (.lst some7)) ⟨D1.same (same_new nS), upd_same⟩ fun H2 ⟨D2, eS⟩ => ?_
    -- rows
    refine ⟨Nat.zero_le _, fun T0 n0 => ⟨by show 1 ≤ sizeLine; decide, fun T1 n1 => ⟨by show 2 ≤ sizeLine; decide, fun T2 n2 => ⟨1000, rfl, RgOk.of_le (by decide) (by decide) (by decide) (by decide), fun T3 n3 => ⟨by show 1 ≤ sizeLine; decide, fun T4 n4 => .inr ⟨T4, 1000, _, rfl, rfl, .inl (.inl upd_same), by simp, by decide, by decide, by show 1 ≤ 1000; decide, fun T5 n5 => ⟨by show 5 ≤ sizeLine; decide, fun R nR => ?_⟩⟩⟩⟩⟩⟩⟩
    have r0 : RowAt K (upd H2 T0 (.tup [])) T0 := ⟨[], .inl (.inl upd_same), by decide, fun x h => by cases h⟩
    have r1 : RowAt K (upd (upd H2 T0 (.tup [])) T1 (.tup [.int 0])) T1 := ⟨[0], .inl (.inl upd_same), by decide, fun x h => by rw [List.mem_singleton.mp h]; decide⟩
    have r2 : RowAt K (upd (upd (upd H2 T0 (.tup [])) T1 (.tup [.int 0])) T2 (.tup [.int 5, .int 5])) T2 := ⟨[5, 5], .inl (.inl upd_same), by decide, fun x h => by
      obtain rfl : x = 5 := by simpa using h
      decide⟩
    have r3 : RowAt K (upd (upd (upd (upd H2 T0 (.tup [])) T1 (.tup [.int 0])) T2 (.tup [.int 5, .int 5])) T3 (.tup (rgV 0 1000))) T3 := by
      refine ⟨(List.range 1000).map fun i : Nat => 0 + (i : Int), .inl (.inl ?_), by rw [List.length_map, List.length_range]; exact Nat.le_refl _, fun x h => ?_⟩
      · rw [upd_same, List.map_map]; rfl
      · obtain ⟨i, hi, rfl⟩ := List.mem_map.mp h
        have := List.mem_range.mp hi
        exact small_of (by omega) (by omega)
    generalize hH3 : upd (upd (upd (upd H2 T0 (.tup [])) T1 (.tup [.int 0])) T2 (.tup [.int 5, .int 5])) T3 (.tup (rgV 0 1000)) = H3 at n4 n5 nR r3 ⊢
    have s03 : Same (upd H2 T0 (.tup [])) H3 := by rw [← hH3]; exact ((same_new n1).trans (same_new n2)).trans (same_new n3)
    have s13 : Same (upd (upd H2 T0 (.tup [])) T1 (.tup [.int 0])) H3 := by rw [← hH3]; exact (same_new n2).trans (same_new n3)
    have s23 : Same (upd (upd (upd H2 T0 (.tup [])) T1 (.tup [.int 0])) T2 (.tup [.int 5, .int 5])) H3 := by rw [← hH3]; exact same_new n3
    have sH3 : Same H2 H3 := (same_new n0).trans s03
    have e5 : (List.replicate (1000 : Int).toNat [V.int 3]).flatten = (List.replicate 1000 (3 : Int)).map V.int := by rw [rep_flat, List.map_replicate]; rfl
    rw [e5] at nR ⊢
    generalize hrep : List.replicate 1000 (3 : Int) = rep at nR ⊢
    have s5 : Same H3 (upd (upd H3 T4 (.tup [.int 3])) T5 (.tup (rep.map V.int))) := (same_new n4).trans (same_new n5)
    have r5 : RowAt K (upd (upd H3 T4 (.tup [.int 3])) T5 (.tup (rep.map V.int))) T5 := ⟨rep, .inl (.inl upd_same), by rw [← hrep, List.length_replicate]; exact Nat.le_refl _, fun x h => by
      rw [← hrep] at h
      obtain rfl : x = 3 := List.eq_of_mem_replicate h
      decide⟩
    have nR2 : H2 R = none := (sH3.trans s5).free nR
    have oR := D2.fresh nR2
    have nSR : S ≠ R := ne_of_none eS nR2
    refine gen_name (fun H4 => Dk3 H4 a c r 1000000 ∧ H4 S = some (.lst some7) ∧ RowsAt K H4 R 5)
      ⟨((D2.same sH3).same s5).same (same_new nR), (same_new nR) _ _ (s5 _ _ (sH3 _ _ eS)), [T0, T1, T2, T3, T5], upd_same, rfl, fun t ht => ?_⟩ fun H4 ⟨D4, eS4, R4⟩ => ?_
    · rcases (show t = T0 ∨ t = T1 ∨ t = T2 ∨ t = T3 ∨ t = T5 by simpa using ht) with rfl | rfl | rfl | rfl | rfl
      · exact ((r0.same s03).same s5).same (same_new nR)
      · exact ((r1.same s13).same s5).same (same_new nR)
      · exact ((r2.same s23).same s5).same (same_new nR)
      · exact (r3.same s5).same (same_new nR)
      · exact r5.same (same_new nR)
    -- the drawn rows
    refine ⟨6, rfl, by decide, by decide, ?_⟩
    refine for_range (n := 6) (fun i σ H5 => Dk3 H5 a c r (900000 - 2000 * i) ∧ H5 S = some (.lst some7) ∧ RowsAt K H5 R (5 + 2 * i) ∧ ∃ x4 x5 x6 x7 x8 x9 x10, σ = [some (.ref sc), some (.ref a), some (.ref S), some (.ref R), x4, x5, x6, x7, x8, x9, x10])
      ⟨D4.less (by omega), eS4, R4, none, none, none, none, none, none, none, rfl⟩ (fun i σ H5 hi hP => ?_) (fun σ H5 hP => ?_)
    · obtain ⟨D5, eS5, R5, x4, x5, x6, x7, x8, x9, x10, rfl⟩ := hP
      obtain ⟨ts, eR5, tl, ht5⟩ := id R5
      refine ⟨.ref R, rfl, .inl ⟨rfl, _, .inl (.inl eR5)⟩, .ref a, rfl, .ref a, rfl, a, c, r, 900000 - 2000 * i - 1, 10, rfl, D5.less (by omega), by decide, by decide, fun H6 y b6 D6 y0 y1 => ⟨1, y, rfl, rfl, a, c, r, 900000 - 2000 * i - 62, 1 + y, 60, rfl, D6.less (by omega), by omega, by omega, by decide, by decide, fun H7 t row b7 D7 ht hin hl => ?_⟩⟩
      have eR7 := b7 _ _ oR.1 oR.2.1 (b6 _ _ oR.1 oR.2.1 eR5)
      have eS7 := b7 _ _ oS.1 oS.2.1 (b6 _ _ oS.1 oS.2.1 eS5)
      have rt : RowAt K H7 t := ⟨row, ht.sq, by omega, fun x hx => by have := hin x hx; exact small_of this.1 (by omega)⟩
      have ht7 : ∀ u ∈ ts, RowAt K H7 u := fun u hu => ((ht5 u hu).but3 D5 b6).but3 D6 b7
      refine ⟨R, _, .ref t, rfl, rfl, eR7, by rw [List.length_map]; exact small1000 (by omega), ?_⟩
      refine gen_heap (fun H8 => Dk3 H8 a c r (900000 - 2000 * i - 62) ∧ H8 S = some (.lst some7) ∧ RowsAt K H8 R (ts.length + 1)) ⟨D7.upd oR, by rw [upd_ne nSR]; exact eS7, RowsAt.app eR7 ht7 rt⟩ fun H8 ⟨D8, eS8, R8⟩ => ?_
      -- kinds, many
      refine ⟨.ref a, rfl, a, c, r, 900000 - 2000 * i - 63, 7, rfl, D8.less (by omega), by decide, by decide, fun H9 z b9 D9 z0 z1 => ⟨1, z, rfl, rfl, ?_⟩⟩
      have eS9 := b9 _ _ oS.1 oS.2.1 eS8
      have R9 := R8.but3 D8 b9 oR.1 oR.2.1
      obtain ⟨mm, hmm, mm0, mm1⟩ : ∃ mm : Int, atI [V.int 20, V.int 1000] (if decide (V.int (0 + (i : Int)) = V.int 5) = true then 1 else 0) = some (.int mm) ∧ 0 ≤ mm ∧ mm ≤ 1000 := by
        split
        · exact ⟨1000, rfl, by decide, by decide⟩
        · exact ⟨20, rfl, by decide, by decide⟩
      refine ⟨by show 2 ≤ sizeLine; decide, fun L nL => ⟨.int (0 + (i : Int)), rfl, rfl, .inr ⟨_, rfl, L, _, _, .int mm, rfl, rfl, .inl (.inl upd_same), hmm, ?_⟩⟩⟩
      have sL : Same H9 (upd H9 L (.lst [.int 20, .int 1000])) := same_new nL
      refine gen_name (fun H10 => Dk3 H10 a c r (900000 - 2000 * i - 63) ∧ H10 S = some (.lst some7) ∧ RowsAt K H10 R (ts.length + 1)) ⟨D9.same sL, sL _ _ eS9, R9.same sL⟩ fun H10 ⟨D10, eS10, R10⟩ => ?_
      obtain ⟨ts2, eR10, tl2, ht10⟩ := id R10
      obtain ⟨mn, rfl⟩ : ∃ mn : Nat, mm = (mn : Int) := ⟨mm.toNat, (Int.toNat_of_nonneg mm0).symm⟩
      refine ⟨.ref R, rfl, .inl ⟨rfl, _, .inl (.inl eR10)⟩, _, rfl, _, rfl, by omega, by omega, fun D nD => ?_⟩
      have oD := D10.fresh nD
      have nSD : S ≠ D := ne_of_none eS10 nD
      have nRD : R ≠ D := ne_of_none eR10 nD
      refine lc_range (n := mn) (fun j H11 => But a r H10 H11 ∧ Dk3 H11 a c r (900000 - 2000 * i - 63 - j) ∧ ∃ acc : List Int, H11 D = some (.lst (acc.map V.int)) ∧ acc.length = j ∧ ∀ x ∈ acc, x.natAbs < 10 ^ 40)
        ⟨But.of (same_new nD), (D10.same (same_new nD)).less (by omega), [], upd_same, rfl, fun x h => by cases h⟩ (fun j H11 hj hP => ?_) (fun H11 hP => ?_)
      · obtain ⟨b11, D11, acc, eD, al, am⟩ := hP
        refine ⟨rfl, tyes (iteT ⟨.ref S, rfl, .ref a, rfl, .int (1 + z), rfl, a, c, r, 900000 - 2000 * i - 63 - (j + 1), 1 + z, rfl, D11.less (by omega), by omega, by omega, fun H12 y2 b12 D12 p0 p1 => ?_⟩)⟩
        obtain ⟨v, hv, vb⟩ := pick7 (y := y2) p0 (by omega)
        refine ⟨S, _, _, .int v, rfl, rfl, .inl (.inl (b12 _ _ oS.1 oS.2.1 (b11 _ _ oS.1 oS.2.1 eS10))), hv, acc.map V.int, b12 _ _ oD.1 oD.2.1 eD, ?_, ?_, D12.upd oD, acc ++ [v], ?_, ?_, ?_⟩
        · rw [List.length_map]; exact small1000 (by omega)
        · intro b o h1 h2 e
          rw [upd_ne (ne_of_none e nD)]
          exact b12 _ _ h1 h2 (b11 _ _ h1 h2 e)
        · rw [upd_same, List.map_append]; rfl
        · rw [List.length_append, al]; rfl
        · intro x hx
          rcases List.mem_append.mp hx with h | h
          · exact am x h
          · rw [List.mem_singleton.mp h]; exact vb
      · obtain ⟨b11, D11, acc, eD, al, am⟩ := hP
        have eR11 := b11 _ _ oR.1 oR.2.1 eR10
        have eS11 := b11 _ _ oS.1 oS.2.1 eS10
        have ht11 : ∀ u ∈ ts2, RowAt K H11 u := fun u hu => (ht10 u hu).but3 D10 b11
        refine ⟨D, _, rfl, .inl (.inl eD), fun t2 o2 nt ho => ?_⟩
        have st : Same H11 (upd H11 t2 (.frz o2 (.tup (acc.map V.int)))) := same_new nt
        have rt2 : RowAt K (upd H11 t2 (.frz o2 (.tup (acc.map V.int)))) t2 := ⟨acc, .inl (.inr ⟨o2, upd_same⟩), by omega, am⟩
        refine ⟨R, _, .ref t2, rfl, rfl, st _ _ eR11, by rw [List.length_map]; exact small1000 (by omega), ?_, ?_, ?_, _, _, _, _, _, _, _, rfl⟩
        · exact ((D11.same st).upd oR).less (by omega)
        · rw [upd_ne nSR]; exact st _ _ eS11
        · have := RowsAt.app (st _ _ eR11) (fun u hu => (ht11 u hu).same st) rt2
          rw [show 5 + 2 * (i + 1) = ts2.length + 1 by omega]
          exact this
    · obtain ⟨D5, eS5, R5, x4, x5, x6, x7, x8, x9, x10, rfl⟩ := hP
      obtain ⟨ts, eR5, tl, ht5⟩ := id R5
      refine ⟨.ref R, rfl, R, rfl, ⟨_, .inl (.inl eR5)⟩, ?_⟩
      refine for_list (xs := ts.map V.ref) (fun j σ H6 => Same H5 H6 ∧ ∃ x7 x8 x9 x10, σ = [some (.ref sc), some (.ref a), some (.ref S), some (.ref R), x4, x5, x6, x7, x8, x9, x10])
        ⟨Same.refl _, _, _, _, _, rfl⟩ (fun j σ H6 _ hP => hP.1.seq (.inl (.inl eR5))) (fun j x σ H6 hx hP => ?_) (fun σ H6 hP => ?_)
      · obtain ⟨s6, x7, x8, x9, x10, rfl⟩ := hP
        obtain ⟨t, htm, rfl⟩ : ∃ t, t ∈ ts ∧ x = V.ref t := by
          rw [List.getElem?_map] at hx
          cases e : ts[j]? with
          | none => rw [e] at hx; cases hx
          | some t => rw [e] at hx; exact ⟨t, List.mem_of_getElem? e, (Option.some.inj hx).symm⟩
        obtain ⟨row, hrow, rl, rb⟩ := (ht5 t htm).same s6
        have shr := shw_big (m := 1000) rl rb
        have pb : ∀ x ∈ plainM row, x.natAbs < 10 ^ 40 := fun x hx => rb x (plainM_mem.mp hx)
        have pl : (plainM row).length ≤ 1000 := Nat.le_trans (plainM_len row) rl
        have shp := shw_big (m := 1000) pl pb
        have sh2 : Shw 2 86013 (.list [dInts (plainM row), dInts (plainM row)]) := Shw.list (n := 43003) (m := 2) (fun d hd => by
          obtain rfl : d = dInts (plainM row) := by simpa using hd
          exact shp) (Nat.le_refl _)
        refine ⟨.ref t, rfl, t, dInts row, rfl, dp_ints hrow, shr.sh, shr.nd, Nat.le_trans shr.dp (by decide), Nat.le_trans shr.ln (by decide), .ref t, rfl, t, row, rfl, hrow, rl, fun H7 u s7 eu => ⟨_, _, rfl, ?_⟩⟩
        have hrow7 := same_sqT s7 hrow
        refine ⟨.ref t, rfl, t, row, rfl, hrow7, rl, fun H8 p1 s8 ep1 => ?_⟩
        have eu8 := s8 _ _ eu
        refine ⟨.ref u, rfl, u, plainM row, rfl, .inl (.inl eu8), pl, fun H9 p2 s9 ep2 => ?_⟩
        rw [plainM_twice] at ep2
        refine ⟨by show 2 ≤ sizeLine; decide, fun L nL => ?_⟩
        have sL : Same H9 (upd H9 L (.lst [.ref p1, .ref p2])) := same_new nL
        refine ⟨L, .list [dInts (plainM row), dInts (plainM row)], rfl, .lst (.inl (.inl upd_same)) (.cons (dp_ints (.inl (.inl (sL _ _ (s9 _ _ ep1))))) (.cons (dp_ints (.inl (.inl (sL _ _ ep2)))) .nil)), sh2.sh, sh2.nd, Nat.le_trans sh2.dp (by decide), Nat.le_trans sh2.ln (by decide), ?_⟩
        refine ⟨.ref u, rfl, .ref u, rfl, by show 2 ≤ sizeLine; decide, fun L3 nL3 => ?_⟩
        have sL3 : Same (upd H9 L (.lst [.ref p1, .ref p2])) (upd (upd H9 L (.lst [.ref p1, .ref p2])) L3 (.lst [.ref u, .ref u])) := same_new nL3
        have euL := sL3 _ _ (sL _ _ (s9 _ _ eu8))
        refine ⟨L3, .list [dInts (plainM row), dInts (plainM row)], rfl, .lst (.inl (.inl upd_same)) (.cons (dp_ints (.inl (.inl euL))) (.cons (dp_ints (.inl (.inl euL))) .nil)), sh2.sh, sh2.nd, Nat.le_trans sh2.dp (by decide), Nat.le_trans sh2.ln (by decide), rfl, _, rfl, iteNS rfl ?_⟩
        have s7e : Same H7 (upd (upd H9 L (.lst [.ref p1, .ref p2])) L3 (.lst [.ref u, .ref u])) := ((s8.trans s9).trans sL).trans sL3
        refine ⟨.ref t, rfl, t, dInts row, rfl, dp_ints (same_sqT s7e hrow7), shr.sh, shr.nd, Nat.le_trans shr.dp (by decide), Nat.le_trans shr.ln (by decide), _, rfl, rfl, _, rfl, iteNS rfl ?_⟩
        exact ⟨(s6.trans s7).trans s7e, _, _, _, _, rfl⟩
      · exact q _
end
end K11
namespace K11
open PySem PySem.Spec PyProof.Rows L2 Pr
/-! what the top has written -/
theorem all_mk {l : PySem.W.OpenLaw} {w : World} {K : PySem.W.Frag} {h : Heap} {mg : Str → Option Value} {fa f1 f2 f3 f4 f5 f6 : Addr} (X : K.In h) (G : h.Ns mainGlobals mg) (hfa : mg "law" = some (.ref fa))
    {od1 an1 od2 an2 od3 an3 od4 an4 od5 an5 od6 an6 : Option Addr} {sl1 sl2 sl3 sl4 sl5 sl6 : Array (Option Value)} {oc1 kV1 dc1 pm1 cd1 ct1 oc2 kV2 dc2 pm2 cd2 ct2 oc3 kV3 dc3 pm3 cd3 ct3 oc4 kV4 dc4 pm4 cd4 ct4 oc5 kV5 dc5 pm5 cd5 ct5 oc6 kV6 dc6 pm6 cd6 ct6 : Value}
    (a1 : PySem.W.nsIn K mainGlobals "plain_row" = some (some (.ref f1))) (l1 : K.lookup f1 = some ⟨oc1, od1, .func (PySem.W.fnOf "plain_row" "plain_row" (defArgs sPlain) (defBody sPlain) (defScope sPlain) .none kV1 dc1 pm1 an1 cd1 ct1), sl1⟩) (c1 : PySem.W.codeIn K cd1 "plain_row" = true) (k1 : PySem.W.keepIn K (.ref f1) = true)
    (a2 : PySem.W.nsIn K mainGlobals "_law_draws" = some (some (.ref f2))) (l2 : K.lookup f2 = some ⟨oc2, od2, .func (PySem.W.fnOf "_law_draws" "_law_draws" (defArgs sDraws) (defBody sDraws) (defScope sDraws) .none kV2 dc2 pm2 an2 cd2 ct2), sl2⟩) (c2 : PySem.W.codeIn K cd2 "_law_draws" = true) (k2 : PySem.W.keepIn K (.ref f2) = true)
    (a3 : PySem.W.nsIn K mainGlobals "_law_next" = some (some (.ref f3))) (l3 : K.lookup f3 = some ⟨oc3, od3, .func (PySem.W.fnOf "_law_next" "_law_next" (defArgs sNext) (defBody sNext) (defScope sNext) .none kV3 dc3 pm3 an3 cd3 ct3), sl3⟩) (c3 : PySem.W.codeIn K cd3 "_law_next" = true) (k3 : PySem.W.keepIn K (.ref f3) = true)
    (a4 : PySem.W.nsIn K mainGlobals "_law_row" = some (some (.ref f4))) (l4 : K.lookup f4 = some ⟨oc4, od4, .func (PySem.W.fnOf "_law_row" "_law_row" (defArgs sRow) (defBody sRow) (defScope sRow) .none kV4 dc4 pm4 an4 cd4 ct4), sl4⟩) (c4 : PySem.W.codeIn K cd4 "_law_row" = true) (k4 : PySem.W.keepIn K (.ref f4) = true)
    (a5 : PySem.W.nsIn K mainGlobals "_law_plain" = some (some (.ref f5))) (l5 : K.lookup f5 = some ⟨oc5, od5, .func (PySem.W.fnOf "_law_plain" "_law_plain" (defArgs sOwn) (defBody sOwn) (defScope sOwn) .none kV5 dc5 pm5 an5 cd5 ct5), sl5⟩) (c5 : PySem.W.codeIn K cd5 "_law_plain" = true) (k5 : PySem.W.keepIn K (.ref f5) = true)
    (a6 : PySem.W.nsIn K mainGlobals "law" = some (some (.ref f6))) (l6 : K.lookup f6 = some ⟨oc6, od6, .func (PySem.W.fnOf "law" "law" (defArgs sLaw) (defBody sLaw) (defScope sLaw) .none kV6 dc6 pm6 an6 cd6 ct6), sl6⟩) (c6 : PySem.W.codeIn K cd6 "law" = true) (k6 : PySem.W.keepIn K (.ref f6) = true)
    (z1 : PySem.W.nsIn K mainGlobals "len" = some none) (z2 : PySem.W.nsIn K mainGlobals "range" = some none) (z3 : PySem.W.nsIn K mainGlobals "tuple" = some none) (z4 : PySem.W.nsIn K mainGlobals "list" = some none) (z5 : PySem.W.nsIn K mainGlobals "int" = some none) (z6 : PySem.W.nsIn K mainGlobals "enumerate" = some none) (z7 : PySem.W.nsIn K mainGlobals "repr" = some none) :
    ∃ fd : FuncData, (∀ (s : Shared) (v : Value), BindsTo s fd ⟨[v], []⟩ [("_law_script", v)]) ∧ ∀ base : Heap, K.In base → base.Ns mainGlobals mg → FnG l.prog w K mg base 3 fa fd ["_law_script"] (spLaw K) := by
  have e := hfa.symm.trans (PySem.W.mg_of X G a6)
  cases e
  have F1 := fun_mk (st := sPlain) l1 c1 k1
  have F2 := fun_mk (st := sDraws) l2 c2 k2
  have F3 := fun_mk (st := sNext) l3 c3 k3
  have F4 := fun_mk (st := sRow) l4 c4 k4
  have F5 := fun_mk (st := sOwn) l5 c5 k5
  have F6 := fun_mk (st := sLaw) l6 c6 k6
  have b1 := F1.binds (ps := ["row"]) fun _ _ _ _ _ _ us hl => match us, hl with | [_], _ => rfl
  have b2 := F2.binds (ps := ["_law_script"]) fun _ _ _ _ _ _ us hl => match us, hl with | [_], _ => rfl
  have b3 := F3.binds (ps := ["_law_drawn", "_law_many"]) fun _ _ _ _ _ _ us hl => match us, hl with | [_, _], _ => rfl
  have b4 := F4.binds (ps := ["_law_drawn", "_law_n", "_law_most"]) fun _ _ _ _ _ _ us hl => match us, hl with | [_, _, _], _ => rfl
  have b5 := F5.binds (ps := ["_law_row_here"]) fun _ _ _ _ _ _ us hl => match us, hl with | [_], _ => rfl
  exact ⟨_, fun s v => .of_eq rfl, fun base _ _ => ok_law F6 F1 b1 (PySem.W.mg_of X G a1) F2 b2 (PySem.W.mg_of X G a2) F3 b3 (PySem.W.mg_of X G a3) F4 b4 (PySem.W.mg_of X G a4) F5 b5 (PySem.W.mg_of X G a5) (PySem.W.mg_none_of X G z1) (PySem.W.mg_none_of X G z2) (PySem.W.mg_none_of X G z3) (PySem.W.mg_none_of X G z4) (PySem.W.mg_none_of X G z5) (PySem.W.mg_none_of X G z6) (PySem.W.mg_none_of X G z7) ⟩
end K11
open PySem PySem.W PyProof.Rows
theorem PySem.Challenge.cw_pressrelease_k11_plain_rows_holds : PySem.Challenge.rw_pressrelease_k11_plain_rows.Holds := by
  w_on; o_law; k_head; (case hw => w_witness2)
  k_fill
  refine Pr.walkG (l := PySem.Challenge.rw_pressrelease_k11_plain_rows) (n := 63) (k := 3) (x := "_law_script") (sp := K11.spLaw) rfl (by decide) rfl ⟨rfl, by decide, by decide⟩ (fun w h Y => PySem.W.kIn_of Y) ?F (fun _ _ a ns hl _ _ hS => ⟨a, ns, rfl, hS, hl, fun _ => rfl⟩)
  case F =>
    intro w mg fa h KX G hmg
    refine' K11.all_mk KX G hmg ?a1 ?l1 ?c1 ?k1 ?a2 ?l2 ?c2 ?k2 ?a3 ?l3 ?c3 ?k3 ?a4 ?l4 ?c4 ?k4 ?a5 ?l5 ?c5 ?k5 ?a6 ?l6 ?c6 ?k6 ?z1 ?z2 ?z3 ?z4 ?z5 ?z6 ?z7
    (case a1 => k_is); (case l1 => k_is); (case c1 => k_is); (case k1 => k_is); (case a2 => k_is); (case l2 => k_is); (case c2 => k_is); (case k2 => k_is); (case a3 => k_is); (case l3 => k_is); (case c3 => k_is); (case k3 => k_is)
    (case a4 => k_is); (case l4 => k_is); (case c4 => k_is); (case k4 => k_is); (case a5 => k_is); (case l5 => k_is); (case c5 => k_is); (case k5 => k_is); (case a6 => k_is); (case l6 => k_is); (case c6 => k_is); (case k6 => k_is)
    (case z1 => k_is); (case z2 => k_is); (case z3 => k_is); (case z4 => k_is); (case z5 => k_is); (case z6 => k_is); (case z7 => k_is)
